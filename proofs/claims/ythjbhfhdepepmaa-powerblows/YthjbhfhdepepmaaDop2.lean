/- Read. -/
import Derived.Test.YthjbhfhdepepmaaDop
import Derived.Test.YthjbhfhdepepmaaDfr
namespace Go.Proofs.Ythjbhfhdepepmaa
open Go.RowKit
/-- What Read answers: the text, the error. -/
def rdS (o : Option (List UInt8 × Nat)) (a n : Int) : ByteArray := match o with | none => ba [] | some x => if has5 x.1.length a n then ba ((x.1.drop a.toNat).take n.toNat) else ba []
def rdE (o : Option (List UInt8 × Nat)) (a n : Int) : Nat := match o with | none => 4 | some x => if has5 x.1.length a n then 0 else 1
theorem Dk.count {w : World} {d : Nat} {m : Option Nat} {rm : Nat} {cl cb : Int} {fs : List Fl} (h : Dk w d m rm cl cb fs) (cl' cb' : Int) : Dk ((w.setCell ⟨d, 3, none⟩ (.int .i64 cl')).setCell ⟨d, 4, none⟩ (.int .i64 cb')) d m rm cl' cb' fs := by
  have hc : Ch (fun i => i = d) w ((w.setCell ⟨d, 3, none⟩ (.int .i64 cl')).setCell ⟨d, 4, none⟩ (.int .i64 cb')) := ((Ch.refl (fun i => i = d) _).setCell _ _ (fun _ => rfl)).setCell _ _ (fun _ => rfl)
  exact { blk := heap_set (heap_set h.blk), map := map_ch h.map hc (fun i hi e => h.m_cells hi h.blk e), fil := fun f hf => (h.fil f hf).ch hc (h.d_bk hf) (fun i hi => h.d_row hf hi), apt := h.apt, nms := h.nms, lng := h.lng, rom := h.rom }
theorem Beh.count {w : World} {d : Nat} {m : Option Nat} {rm : Nat} {cl cb : Int} {fs : List Fl} (h : Dk w d m rm cl cb fs) (cl' cb' : Int) : Beh w d m fs rm cl' cb' (vw fs) ((w.setCell ⟨d, 3, none⟩ (.int .i64 cl')).setCell ⟨d, 4, none⟩ (.int .i64 cb')) :=
  ⟨m, fs, h.count cl' cb', rfl, ((Ch.refl _ _).setCell _ _ (fun _ => Or.inl rfl)).setCell _ _ (fun _ => Or.inl rfl), fun _ hi => Or.inl hi⟩
def rdC (o : Option (List UInt8 × Nat)) (a n : Int) (cl : Int) : Int := if rdE o a n = 0 then wrap64 (cl + 1) else cl
def rdB (o : Option (List UInt8 × Nat)) (a n : Int) (cb : Int) : Int := if rdE o a n = 0 then wrap64 (cb + n) else cb
set_option maxHeartbeats 1000000 in
theorem dread_any (d : Nat) (m : Option Nat) (rm : Nat) (cl cb : Int) (fs : List Fl) (nm : ByteArray) (a n : Int) (hn : nm.size ≤ maxLen) (ha : a ≤ 9223372036854775807) (w : World) (h : Dk w d m rm cl cb fs) :
    Calls Try.prog 37 #[.pointer (some ⟨d, 0, none⟩), .string nm, .int .i64 a, .int .i64 n] w fun e w' => e = .returned (.tuple #[.string (rdS (vl nm (vw fs)) a n), .int .i64 (rdE (vl nm (vw fs)) a n)]) ∧ Beh w d m fs rm (rdC (vl nm (vw fs)) a n cl) (rdB (vl nm (vw fs)) a n cb) (vw fs) w' := by
  have HF := Hid.mk (file_any d m rm cl cb fs nm hn w h)
  unfold rdC rdB rdS rdE
  rw [vl_vw]
  have HB := Hid.mk (Beh.same h)
  cases hl : look nm fs with
  | none =>
    rw [hl] at HF
    simp only [bkOf] at HF
    clear h hl
    go_enter Try.func37, Try.ntmps37
    go_wp2_with (go_at_call 66; refine HF.out.mono ?_; rintro e w' ⟨rfl, rfl⟩)
    go_ret2
    exact ⟨rfl, HB.out⟩
  | some f =>
    rw [hl] at HF
    simp only [bkOf] at HF
    have hfm := (look_mem hl).1
    have hF := h.fil f hfm
    have hL := (h.lng f hfm).2.1
    have HH := Hid.mk (has_any f a n w hF ha hL)
    cases hh : has5 f.da.length a n with
    | false =>
      rw [hh] at HH
      simp only [Option.map_some, hh]
      clear h hl hF hL hfm
      go_enter Try.func37, Try.ntmps37
      go_wp2_with (first | (go_at_call 66; refine HF.out.mono ?_; rintro e w' ⟨rfl, rfl⟩) | (go_at_call 73; refine HH.out.mono ?_; rintro e w' ⟨rfl, rfl⟩))
      go_ret2
      exact ⟨rfl, HB.out⟩
    | true =>
      rw [hh] at HH
      simp only [Option.map_some, hh]
      have hh' := of_decide_eq_true hh
      obtain ⟨A, rfl⟩ : ∃ A : Nat, a = A := ⟨a.toNat, by omega⟩
      obtain ⟨N, rfl⟩ : ∃ N : Nat, n = N := ⟨n.toNat, by omega⟩
      have hB := Beh.count h (wrap64 (cl + 1)) (wrap64 (cb + N))
      have hD := (h.count (wrap64 (cl + 1)) (wrap64 (cb + N))).fil f hfm
      have HR := Hid.mk (read_any f A N _ hD (by omega) hL)
      have HB2 := Hid.mk hB
      have c3 := h.c3
      have c4 := h.c4
      have f3 := h.fz 3
      have f4 := h.fz 4
      generalize hr : ba ((f.da.drop A).take N) = r at *
      simp only [Int.toNat_natCast, hr]
      clear h hl hF hL hfm hh hh' hB hD ha hr HB
      go_enter Try.func37, Try.ntmps37
      go_wp2_with (first | (go_at_call 66; refine HF.out.mono ?_; rintro e w' ⟨rfl, rfl⟩) | (go_at_call 73; refine HH.out.mono ?_; rintro e w' ⟨rfl, rfl⟩) | (go_at_call 74; refine HR.out.mono ?_; rintro e w' ⟨rfl, rfl⟩))
      go_ret2
      exact ⟨rfl, HB2.out⟩
end Go.Proofs.Ythjbhfhdepepmaa
