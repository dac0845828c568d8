/- A disk's clone. -/
import Derived.Test.YthjbhfhdepepmaaTws
import Derived.Maps.RangeWalk
namespace Go.Proofs.Ythjbhfhdepepmaa
open Go.RowKit Go.Maps
theorem RP_ptr (v : Value) (y : DataW Unit × List MemPlace) (h : RP v = some y) : ∃ c : Option Addr, v = .pointer c := by
  unfold RP at h
  split at h
  · exact ⟨_, rfl⟩
  · exact ⟨_, rfl⟩
  · cases h
theorem ent_is {fs : List Fl} {x : ByteArray} {c : Option Addr} {k : Lit} {y : DataW Unit × List MemPlace} (hk : keyOf Try.prog 9 (.string x) = some k) (hR : RP (.pointer c) = some y) (hat : ∀ zd, (dm fs).atKey k zd = y.1) : ∃ f ∈ fs, f.nm = x ∧ k = kl f.nm ∧ c = some ⟨f.bk, 0, none⟩ := by
  have hs : k = kl x := by
    simp [keyOf, mapKey] at hk
    exact hk.2.symm
  subst hs
  have h1 := hat .nil
  have h2 := hat (.map [])
  rw [atKey_dm] at h1 h2
  cases hl : look x fs with
  | none => rw [hl] at h1 h2; rw [← h1] at h2; cases h2
  | some f =>
    rw [hl] at h1
    obtain ⟨hf, e⟩ := look_mem hl
    refine ⟨f, hf, e, by rw [e], ?_⟩
    obtain ⟨y1, y2⟩ := y
    cases h1
    have := RP_inv hR
    injection this
set_option maxHeartbeats 2000000 in
set_option maxRecDepth 20000 in
theorem dclone_some (d : Nat) (b : Nat) (rm : Nat) (cl cb : Int) (fs : List Fl) (w : World) (h : Dk w d (some b) rm cl cb fs) (hl : fs.length ≤ 65536) :
    Calls Try.prog 33 #[.pointer (some ⟨d, 0, none⟩)] w fun e w' => e = .returned (.pointer (some ⟨w.heap.size, 0, none⟩)) ∧ ∃ gs, Dk w' w.heap.size (some (w.heap.size + 1)) rm cl cb gs ∧ vw gs = vw fs ∧ (∀ i, Ft w.heap.size (some (w.heap.size + 1)) gs i → w.heap.size ≤ i) ∧ Below w.heap.size w w' := by
  have c0 := h.c0
  have c1 := h.c1
  have c2 := h.c2
  have c3 := h.c3
  have c4 := h.c4
  obtain ⟨wA, hwA⟩ : ∃ wA, wA = w.alloc (.cells #[.int .i64 rm, .int .i64 (tot fs), .map (some b), .int .i64 cl, .int .i64 cb] 107) := ⟨_, rfl⟩
  obtain ⟨wB, hwB⟩ : ∃ wB, wB = (w.alloc (.cells #[.int .i64 rm, .int .i64 (tot fs), .map (some (w.heap.size + 1)), .int .i64 cl, .int .i64 cb] 107)).alloc (.map #[] 0) := ⟨_, rfl⟩
  have hA : Dk wA d (some b) rm cl cb fs := by rw [hwA]; exact h.ch ((Ch.refl (fun _ => False) w).alloc _) (fun _ _ e => e)
  have hB : Dk wB d (some b) rm cl cb fs := by rw [hwB]; exact h.ch (((Ch.refl (fun _ => False) w).alloc _).alloc _) (fun _ _ e => e)
  have hZ : wB.heap.size = w.heap.size + 2 := by rw [hwB]; simp
  have hT : ∀ w1, wB.grownBy w1 none → w1.heap.size = wB.heap.size + 1 → w1.ranges Try.prog 9 RP b wB.heap.size fs.length (dm fs) (Maps.has (dm fs)) (Maps.size (dm fs)) → Tw w w1 b rm cl cb fs (Maps.has (dm fs)) (Maps.size (dm fs)) [] := by
    intro w1 hg hs hr
    rw [hZ] at hr hs
    have hc : Ch (fun _ => False) wB w1 := ⟨hg.os, hg.tape, hg.output, hg.size, fun k hk _ => hg.block k hk (by simp)⟩
    have hcw : Ch (fun _ => False) w wB := by rw [hwB]; exact ((Ch.refl (fun _ => False) w).alloc _).alloc _
    refine ⟨hr, ⟨?_, by simp, by simp, by simp, by simp, by simp, ?_⟩, ?_, ?_, ?_, ?_⟩
    · refine map_ch (m := some (w.heap.size + 1)) (fs := []) ?_ hc (fun _ _ e => e)
      show wB.ownsMap Try.prog 9 RP (w.heap.size + 1) 0 (.map [])
      rw [hwB]
      have := World.ownsMap_made (w.alloc (.cells #[.int .i64 rm, .int .i64 (tot fs), .map (some (w.heap.size + 1)), .int .i64 cl, .int .i64 cb] 107)) Try.prog 9 RP
      simpa using this
    · intro f hf hno
      exfalso
      have : Maps.has (dm fs) (kl f.nm) = true := List.any_eq_true.2 ⟨ent f, List.mem_map.2 ⟨f, hf, rfl⟩, by rw [same_nm]; simp⟩
      rw [this] at hno
      cases hno
    · simp [Maps.size, dm]
    · exact (hcw.trans hc).below (Nat.le_refl _) (fun _ _ e => e)
    · refine (hc.block _ (by omega) (fun e => e)).trans ?_
      rw [hwB]
      exact heap_alloc_at (heap_new _ _)
    · omega
  have a2 := hA.c2
  have b2 := hB.c2
  have hL := len_dm hA.map wA rfl 3
  rw [hwA] at a2 hL
  have hown := hid (show wB.ownsMap Try.prog 9 RP b fs.length (dm fs) from hB.map)
  rw [hwB] at b2 hown
  have HM := fun n w => run_makeMap_hint 103 _ _ .i64 n w Try.underMap
  have HD := hid h
  have HL := hid hl
  rw [hwB] at hT hZ
  have HT := hid hT
  have HZ := hid hZ
  clear h hl hA hB hT hwA hwB hZ
  go_enter Try.func33, Try.ntmps33
  go_wp2_with (first
    | (at_range; refine wpList_range_own _ rfl _ 103 rfl 9 101 klaw Try.underMap _ b fs.length _ rfl hown.out ?_; intro w1 hrg0 hg0 hs0)
    | go_in)
  go_frame
  have t0 := HT.out w1 hg0 hs0 hrg0
  rw [HZ.out]
  clear hrg0 hg0 hs0 HT HZ hown
  go_loopw [4] (fun _ wr => ∃ (left : Lit → Bool) (cnt : Nat) (gs : List Fl), Tw w wr b rm cl cb fs left cnt gs) (fun _ wr => wr.rangeLeft b (w.heap.size + 2))
  case atStart => exact ⟨_, _, _, t0⟩
  case round =>
    obtain ⟨left, cnt, gs, ht⟩ := hrel
    have hrg := ht.1
    go_wp2_with (first
      | (at_next; refine wpList_next_ranges _ rfl _ rfl 9 klaw RP Value.string Value.pointer (fun key kl hkey => Maps.keyOf_string_inv Try.under9 hkey) RP_ptr b (w.heap.size + 2) fs.length _ _ _ rfl hrg ?_ ?_)
      | go_in)
    · intro hc0 hl0
      have HE := hid (Tw.done HD.out ht hl0)
      clear ht hrg t0
      go_wp2
      go_ret
      exact ⟨rfl, _, HE.out⟩
    · intro x c k y1 y2 w2 cnt1 hkey hlk hR hat hrg1 hlt hg1 hs1 hen
      obtain ⟨f, hf, rfl, rfl, rfl⟩ := ent_is (y := (y1, y2)) hkey hR hat
      obtain ⟨q0, HC⟩ := Tw.next HD.out HL.out ht hrg1 hlt hg1 hf hlk
      have HC' := hid HC
      have HG := hid hrg
      have HLT := hid hlt
      clear ht hrg t0 hkey hlk hR hat hrg1 hlt hg1 hs1 HC hf
      go_wp2_with fail
      go_region_held3 (fun x => x.cell? ⟨w.heap.size, 2, none⟩ = some (.map (some (w.heap.size + 1)))) ((first | assumption | go_keep)) ((go_at_call 72; refine HC'.out.mono ?_; rintro e w3 ⟨p, rfl, q1, w4, q2, gs', q3⟩; have q4 := q3.cell; have HQ := Hid.mk q3; clear q3))
      all_goals
        go_wp2
        go_roundw
        case rel => exact ⟨_, _, _, HQ.out⟩
        case measure => rw [HQ.out.1.left_eq, HG.out.left_eq]; exact HLT.out
end Go.Proofs.Ythjbhfhdepepmaa
