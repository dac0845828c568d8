/- A book forgets: its walk. -/
import Derived.Test.YtolobmhbmajolaaPg3
namespace Go.Proofs.Ytolobmhbmajolaa
open Go.RowKit Go.Maps
set_option maxHeartbeats 2000000 in
set_option maxRecDepth 20000 in
theorem bforget_some (b mb : Nat) (fs : List Tl) (below : Int) (hn : fs.length < 4611686018427387904) (w : World) (h : Bk w b (some mb) fs) :
    Calls Try.prog 17 #[.pointer (some ⟨b, 0, none⟩), .int .i64 below] w fun e w' => ∃ fs', e = .returned (.int .i64 ((fs.length : Int) - (fs'.length : Int))) ∧ Bk w' b (some mb) fs' ∧ (∀ q, fv fs' q = fg below (fv fs q)) ∧ fs'.length ≤ fs.length ∧ Ch (Ft b (some mb) fs) w w' ∧ ∀ i, Ft b (some mb) fs' i → Ft b (some mb) fs i := by
  have c2 : w.cell? ⟨b, 0, none⟩ = some (.map (some mb)) := (cell_of h.blk).trans rfl
  have hown := Hid.mk (show w.ownsMap Try.prog 2 RP mb fs.length (dm fs) from h.map)
  have HD := Hid.mk h
  have HN := Hid.mk hn
  have HT : Hid (∀ w1, w.grownBy w1 none → w1.heap.size = w.heap.size + 1 → w1.ranges Try.prog 2 RP mb w.heap.size fs.length (dm fs) (Maps.has (dm fs)) (Maps.size (dm fs)) → Fo w b mb w.heap.size fs below (Maps.has (dm fs)) (Maps.size (dm fs)) w1 ∧ cur below (Maps.has (dm fs)) fs = fs) := by
    intro w1 hg hs hr
    have hc : Ch (fun _ => False) w w1 := ⟨hg.os, hg.tape, hg.output, hg.size, fun k hk _ => hg.block k hk (by simp)⟩
    have hh : ∀ f ∈ fs, Maps.has (dm fs) (kl f.id) = true := fun f hf => List.any_eq_true.2 ⟨ent f, List.mem_map.2 ⟨f, hf, rfl⟩, by rw [same_id]; simp⟩
    have e := cur_start below fs (Maps.has (dm fs)) hh
    refine ⟨⟨by rw [e]; exact hr, fun f hf => ?_, (hc.block b (lt_of_heap h.blk) (fun e => e)).trans h.blk, hc.mono (fun _ _ e => e.elim), Nat.le_refl _, by omega⟩, e⟩
    rw [if_pos (hh f hf)]
    exact (h.til f hf).at (hc.block _ (h.til f hf).lt (fun e => e))
  clear h hn
  go_enter Try.func17, Try.ntmps17
  go_wp2_with (first
    | (at_range; refine wpList_range_own _ rfl _ 58 rfl 2 66 klaw Try.underMap _ mb fs.length _ rfl hown.out ?_; intro w1 hrg0 hg0 hs0)
    | go_in)
  go_frame
  obtain ⟨t0, e0⟩ := HT.out w1 hg0 hs0 hrg0
  have HT0 := Hid.mk t0
  have HE0 := Hid.mk e0
  clear hrg0 hg0 hs0 HT hown t0 e0
  go_loopw [5] (fun g wr => ∃ (left : Lit → Bool) (cnt : Nat), g = .int .i64 ((fs.length : Int) - ((cur below left fs).length : Int)) ∧ Hid (Fo w b mb w.heap.size fs below left cnt wr)) (fun _ wr => wr.rangeLeft mb w.heap.size)
  case atStart => exact ⟨_, _, by rw [HE0.out]; simp, HT0⟩
  case round =>
    clear HT0 HE0
    obtain ⟨left, cnt, rfl, HF⟩ := hrel
    have hrg := HF.out.rg
    have hcl : (cur below left fs).length ≤ fs.length := List.length_filterMap_le _ _
    have hnn := HN.out
    go_wp2_with (first
      | (at_next; refine wpList_next_ranges _ rfl _ rfl 2 klaw RP (fun x : Int => Value.int .i64 x) Value.pointer (fun key kl hkey => by obtain ⟨x, e, _⟩ := Maps.keyOf_int_inv Try.under2 hkey; exact ⟨x, e⟩) RP_ptr mb w.heap.size fs.length _ _ _ rfl hrg ?_ ?_)
      | go_in)
    · intro hc0 hl0
      have HE := Hid.mk (HF.out.done HD.out hl0)
      have HCL := Hid.mk hcl
      clear hrg
      go_wp2
      go_ret
      exact ⟨_, rfl, HE.out.1, HE.out.2.1, HCL.out, HE.out.2.2.1, HE.out.2.2.2⟩
    · intro x c k y1 y2 w2 cnt1 hkey hlk hR hat hrg1 hlt hg1 hs1 hen
      obtain rfl := key_is hkey
      obtain ⟨g, hg, rfl, rfl⟩ := ent_is (y := (y1, y2)) hR hat
      obtain ⟨f, hf, hfg⟩ := cur_mem hg
      obtain ⟨e1, e2⟩ := cur1_id hfg
      rw [e1] at hlk hrg1 hen hkey
      rw [e2] at hen
      rw [e1, e2]
      have HC := Hid.mk (HF.out.next HD.out hrg1 hg1 hf hlk)
      have HG := Hid.mk hrg
      have HLT := Hid.mk hlt
      have HKey := Hid.mk hkey
      by_cases hfe : fg below f.ns = []
      · have HL := Hid.mk (cur_len_del hlk hfe hf HD.out.ids)
        have hfl : (fg below f.ns).length = 0 := by rw [hfe]; rfl
        rw [hfl] at HC
        have HFE := Hid.mk hfe
        clear hrg hkey hlk hR hat hrg1 hlt hg1 hs1 hf hfg hg e1 e2 hfe hfl
        go_wp2_with (first
          | (go_at_call 35; with_reducible refine HC.out.mono ?_; rintro e w3 ⟨rfl, q0, q1, q2, q3, q4⟩; have HQ2 := Hid.mk q2; have HQ4 := Hid.mk (q4 HFE.out); clear q2 q3 q4)
          | (at_delete; refine wpList_delete_ranges _ rfl _ _ 58 2 rfl 66 klaw Try.underMap RP mb w.heap.size fs.length _ _ _ rfl HQ2.out _ _ rfl HKey.out ?_; intro w4 cnt4 hrg4 hle4 ht4; have HQ := Hid.mk (HQ4.out w4 cnt4 hrg4 ht4); have HLE := Hid.mk hle4; clear hrg4 hle4 ht4)
          | go_in)
        go_roundw
        case rel => exact ⟨_, _, congrArg (Value.int .i64) (by have := HL.out; omega), HQ⟩
        case measure => rw [HQ.out.rg.left_eq, HG.out.left_eq]; exact Nat.lt_of_le_of_lt HLE.out HLT.out
      · have HL := Hid.mk (cur_len_keep hf HD.out.ids hlk hfe)
        have hfl : ¬ (fg below f.ns).length = 0 := fun e => hfe (List.eq_nil_of_length_eq_zero e)
        have hflI : ¬ ((fg below f.ns).length : Int) = 0 := by omega
        generalize (fg below f.ns).length = NL at *
        have hflD : decide ((NL : Int) = 0) = false := by simpa using hflI
        have HFE := Hid.mk hfe
        clear hrg hkey hlk hR hat hrg1 hlt hg1 hs1 hf hfg hg e1 e2 hfe
        go_wp2_with (first
          | (go_at_call 35; with_reducible refine HC.out.mono ?_; rintro e w3 ⟨rfl, q0, q1, q2, q3, q4⟩; have HQ := Hid.mk (q3 HFE.out); clear q2 q3 q4)
          | go_in)
        go_roundw
        case rel => exact ⟨_, _, congrArg (Value.int .i64) (by have := HL.out; omega), HQ⟩
        case measure => rw [HQ.out.rg.left_eq, HG.out.left_eq]; exact HLT.out
end Go.Proofs.Ytolobmhbmajolaa
