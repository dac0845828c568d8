/- Cut, Overwrite. -/
import Derived.Test.YthjbhfhdepepmaaDop
import Derived.Test.YthjbhfhdepepmaaDfc
import Derived.Test.YthjbhfhdepepmaaDfp
namespace Go.Proofs.Ythjbhfhdepepmaa
open Go.RowKit
def cuE (o : Option (List UInt8 × Nat)) (n : Int) : Nat := match o with | none => 4 | some x => if has5 x.1.length 0 n then 0 else 1
def cuV (nm : ByteArray) (n : Int) (V : Vw) : Vw := match vl nm V with | none => V | some x => if has5 x.1.length 0 n then vset nm (x.1.take n.toNat, min x.2 n.toNat) V else V
def ovE (o : Option (List UInt8 × Nat)) (a : Int) (s : ByteArray) : Nat := match o with | none => 4 | some x => if has5 x.1.length a s.size then 0 else 1
def ovV (nm : ByteArray) (a : Int) (s : ByteArray) (V : Vw) : Vw := match vl nm V with | none => V | some x => if has5 x.1.length a s.size then vset nm (ovr x.1 a.toNat s.data.toList, x.2) V else V
set_option maxHeartbeats 1000000 in
set_option maxRecDepth 20000 in
theorem over_any (d : Nat) (m : Option Nat) (rm : Nat) (cl cb : Int) (fs : List Fl) (nm : ByteArray) (a : Int) (s : ByteArray) (hn : nm.size ≤ maxLen) (ha : a ≤ 9223372036854775807) (w : World) (h : Dk w d m rm cl cb fs) :
    Calls Try.prog 81 #[.pointer (some ⟨d, 0, none⟩), .string nm, .int .i64 a, .string s] w fun e w' => e = .returned (.int .i64 (ovE (vl nm (vw fs)) a s)) ∧ Beh w d m fs rm cl cb (ovV nm a s (vw fs)) w' := by
  have HF := Hid.mk (file_any d m rm cl cb fs nm hn w h)
  unfold ovV ovE
  rw [vl_vw]
  have HB := Hid.mk (Beh.same h)
  cases hl : look nm fs with
  | none =>
    rw [hl] at HF
    simp only [bkOf] at HF
    clear h hl
    go_enter Try.func81, Try.ntmps81
    go_wp2_with (go_at_call 66; refine HF.out.mono ?_; rintro e w' ⟨rfl, rfl⟩)
    go_ret
    exact ⟨rfl, HB.out⟩
  | some f =>
    simp only [Option.map_some]
    rw [hl] at HF
    simp only [bkOf] at HF
    have hfm := (look_mem hl).1
    have hF := h.fil f hfm
    have hL := (h.lng f hfm).2
    have HH := Hid.mk (has_any f a s.size w hF ha hL.1)
    cases hh : has5 f.da.length a s.size with
    | false =>
      rw [hh] at HH
      simp only [Bool.false_eq_true, if_false]
      clear h hl hF hL hfm
      go_enter Try.func81, Try.ntmps81
      go_wp2_with (first | (go_at_call 66; refine HF.out.mono ?_; rintro e w' ⟨rfl, rfl⟩) | (go_at_call 73; refine HH.out.mono ?_; rintro e w' ⟨rfl, rfl⟩))
      go_ret
      exact ⟨rfl, HB.out⟩
    | true =>
      rw [hh] at HH
      simp only [if_true]
      have hh' := of_decide_eq_true hh
      obtain ⟨A, rfl⟩ : ∃ A : Nat, a = A := ⟨a.toNat, by omega⟩
      have hsz : s.data.toList.length = s.size := by rw [← Lib.size_eq]
      have HP := Hid.mk (put_any f A s w hF (by omega))
      have hB : ∀ w', FA w' { f with da := ovr f.da A s.data.toList } → Ch (fun i => f.sl.ownBlock = some i) w w' → Beh w d m fs rm cl cb (vset nm (ovr f.da A s.data.toList, f.sy) (vw fs)) w' := by
        intro w' h1 h2
        have el : (ovr f.da A s.data.toList).length = f.da.length := ovr_len _ _ _ (by omega)
        refine h.put (g := { f with da := ovr f.da A s.data.toList }) hl rfl rfl h1 (h2.mono (fun i _ hi => Or.inr (Or.inr hi))) (Or.inl rfl) ?_ ⟨by rw [el]; exact hL.1, by show f.sy ≤ (ovr f.da A s.data.toList).length; rw [el]; exact hL.2⟩ ?_
        · show w'.heap[d]? = some (.cells #[.int .i64 rm, .int .i64 ((tot fs : Int) + ((ovr f.da A s.data.toList).length : Int) - f.da.length), .map m, .int .i64 cl, .int .i64 cb] 107 (0, 0))
          have e : (tot fs : Int) + ((ovr f.da A s.data.toList).length : Int) - f.da.length = tot fs := by rw [el]; omega
          rw [e]
          exact (h2.block d (lt_of_heap h.blk) (fun e => h.d_row hfm e rfl)).trans h.blk
        · have := h.rom
          show tot fs + (ovr f.da A s.data.toList).length ≤ rm + f.da.length
          rw [el]
          omega
      have HB2 := Hid.mk hB
      clear h hl hF hL hfm hh hh' hB ha HB
      go_enter Try.func81, Try.ntmps81
      go_wp2_with (first | (go_at_call 66; refine HF.out.mono ?_; rintro e w' ⟨rfl, rfl⟩) | (go_at_call 73; refine HH.out.mono ?_; rintro e w' ⟨rfl, rfl⟩) | (go_at_call 88; refine HP.out.mono ?_; rintro e w1 ⟨rfl, hf1, hc1⟩))
      go_ret
      exact ⟨rfl, HB2.out _ hf1 hc1⟩
set_option maxHeartbeats 1000000 in
set_option maxRecDepth 20000 in
theorem dcut_any (d : Nat) (m : Option Nat) (rm : Nat) (cl cb : Int) (fs : List Fl) (nm : ByteArray) (a : Int) (hn : nm.size ≤ maxLen) (w : World) (h : Dk w d m rm cl cb fs) :
    Calls Try.prog 78 #[.pointer (some ⟨d, 0, none⟩), .string nm, .int .i64 a] w fun e w' => e = .returned (.int .i64 (cuE (vl nm (vw fs)) a)) ∧ Beh w d m fs rm cl cb (cuV nm a (vw fs)) w' := by
  have HF := Hid.mk (file_any d m rm cl cb fs nm hn w h)
  unfold cuV cuE
  rw [vl_vw]
  have HB := Hid.mk (Beh.same h)
  cases hl : look nm fs with
  | none =>
    rw [hl] at HF
    simp only [bkOf] at HF
    clear h hl
    go_enter Try.func78, Try.ntmps78
    go_wp2_with (go_at_call 66; refine HF.out.mono ?_; rintro e w' ⟨rfl, rfl⟩)
    go_ret
    exact ⟨rfl, HB.out⟩
  | some f =>
    simp only [Option.map_some]
    rw [hl] at HF
    simp only [bkOf] at HF
    have hfm := (look_mem hl).1
    have hF := h.fil f hfm
    have hL := (h.lng f hfm).2
    have HH := Hid.mk (has_any f 0 a w hF (by omega) hL.1)
    cases hh : has5 f.da.length 0 a with
    | false =>
      rw [hh] at HH
      simp only [Bool.false_eq_true, if_false]
      clear h hl hF hL hfm
      go_enter Try.func78, Try.ntmps78
      go_wp2_with (first | (go_at_call 66; refine HF.out.mono ?_; rintro e w' ⟨rfl, rfl⟩) | (go_at_call 73; refine HH.out.mono ?_; rintro e w' ⟨rfl, rfl⟩))
      go_ret
      exact ⟨rfl, HB.out⟩
    | true =>
      rw [hh] at HH
      simp only [if_true]
      have hh' := of_decide_eq_true hh
      obtain ⟨A, rfl⟩ : ∃ A : Nat, a = A := ⟨a.toNat, by omega⟩
      have el : (f.da.take A).length = A := by rw [List.length_take]; omega
      have hle : f.da.length ≤ tot fs := by
        obtain ⟨l, r, rfl, _⟩ := find_mid hl
        rw [tot_mid]; omega
      have hrm := h.rom
      have ew : IntKind.i64.wrap ((f.da.length : Int) - A) = (f.da.length : Int) - A := by simp only [IntKind.wrap, IntKind.bits, IntKind.signed, Bool.true_and]; split <;> rename_i h <;> simp at h <;> omega
      have ew2 : IntKind.i64.wrap ((tot fs : Int) - ((f.da.length : Int) - A)) = (tot fs : Int) - ((f.da.length : Int) - A) := by simp only [IntKind.wrap, IntKind.bits, IntKind.signed, Bool.true_and]; split <;> rename_i h <;> simp at h <;> omega
      obtain ⟨wc, hwc⟩ : ∃ wc, wc = w.setCell ⟨d, 1, none⟩ (.int .i64 ((tot fs : Int) - ((f.da.length : Int) - A))) := ⟨_, rfl⟩
      have hc0 : Ch (fun i => i = d) w wc := by rw [hwc]; exact (Ch.refl (fun i => i = d) w).setCell _ _ (fun _ => rfl)
      have hFc : FA wc f := hF.ch hc0 (h.d_bk hfm) (fun i hi => h.d_row hfm hi)
      have hdc : wc.heap[d]? = some (.cells #[.int .i64 rm, .int .i64 ((tot fs : Int) - ((f.da.length : Int) - A)), .map m, .int .i64 cl, .int .i64 cb] 107 (0, 0)) := by rw [hwc]; exact heap_set h.blk
      have HP : Hid (∀ k, Calls Try.prog 87 #[.pointer (some ⟨f.bk, 0, none⟩), .int .i64 A] (wc.drewN k) fun e w' => e = .returned (.tuple #[]) ∧ Beh w d m fs rm cl cb (vset nm (f.da.take A, min f.sy A) (vw fs)) w') := by
        intro k
        have hFk : FA (wc.drewN k) f := hFc
        refine (cut_any f A (wc.drewN k) hFk (by omega)).mono ?_
        rintro e w' ⟨he, v, h1, h2, h3⟩
        refine ⟨he, ?_⟩
        have h2' : Ch (fun i => i = f.bk) wc w' := ((Ch.refl _ wc).drewN k).trans h2
        refine h.put (g := { f with sl := v, da := f.da.take A, sy := min f.sy A }) hl rfl rfl h1 ((hc0.mono (fun i _ hi => Or.inl hi)).then h2' (fun i _ hi => Or.inr (Or.inl hi))) (Or.inl h3) ?_ ⟨by show (f.da.take A).length ≤ _; rw [el]; omega, by show min f.sy A ≤ (f.da.take A).length; rw [el]; omega⟩ ?_
        · show w'.heap[d]? = some (.cells #[.int .i64 rm, .int .i64 ((tot fs : Int) + ((f.da.take A).length : Int) - f.da.length), .map m, .int .i64 cl, .int .i64 cb] 107 (0, 0))
          have e : (tot fs : Int) + ((f.da.take A).length : Int) - f.da.length = (tot fs : Int) - ((f.da.length : Int) - A) := by rw [el]; omega
          rw [e]
          exact (h2'.block d (lt_of_heap hdc) (fun e => h.d_bk hfm e.symm)).trans hdc
        · show tot fs + (f.da.take A).length ≤ rm + f.da.length
          rw [el]
          omega
      have HS : Hid (FA w.drew f) := hF
      have c1 := h.c1
      have f1 := h.fz 1
      rw [hwc] at HP
      clear h hl hF hL hfm hh hh' HB el hle hrm hwc hc0 hFc hdc
      generalize tot fs = T at *
      go_enter Try.func78, Try.ntmps78
      go_wp2_with (first | (go_at_call 66; refine HF.out.mono ?_; rintro e w' ⟨rfl, rfl⟩) | (go_at_call 73; refine HH.out.mono ?_; rintro e w' ⟨rfl, rfl⟩))
      go_region_with (go_at_call 70; refine (fsize_any f _ HS.out).mono ?_; rintro e w' ⟨rfl, rfl⟩)
      all_goals
        go_wp2_with (go_at_call 87; refine (HP.out 1).mono ?_; rintro e w1 ⟨rfl, hb1⟩; have HB1 := Hid.mk hb1; clear hb1)
        go_ret
        exact ⟨rfl, HB1.out⟩
end Go.Proofs.Ythjbhfhdepepmaa
