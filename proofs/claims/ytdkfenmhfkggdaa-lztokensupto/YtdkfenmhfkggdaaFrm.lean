/- The program's Form: the bytes of some tokens, or the fault. -/
import Derived.Test.YtdkfenmhfkggdaaTkr
namespace Go.Proofs.Ytdkfenmhfkggdaa
open Go.RowKit
/-- A token's bytes, if it is right. -/
def rb (r : ByteArray × Int × Int) : Option (List UInt8) :=
  if lB r.1 r.2.1 r.2.2 = true then some (M.bytesOf (M.runs r.1.data.toList)) else if mB r.1 r.2.1 r.2.2 = true then some (M.Tok.mat r.2.1.toNat r.2.2.toNat).bytes else none
def fpre (p : List UInt8) : Option (List UInt8) → Option (List UInt8)
  | none => none
  | some b => some (p ++ b)
def frm : List (ByteArray × Int × Int) → Option (List UInt8)
  | [] => some []
  | r :: rs => match rb r with
    | none => none
    | some a => fpre a (frm rs)
theorem fpre_nil (X : Option (List UInt8)) : fpre [] X = X := by cases X <;> rfl
theorem fpre_fpre (a b : List UInt8) (X : Option (List UInt8)) : fpre a (fpre b X) = fpre (a ++ b) X := by cases X <;> simp [fpre]
theorem runs_one {l : List UInt8} (h : 1 ≤ l.length) (h2 : l.length ≤ 128) : M.bytesOf (M.runs l) = (M.Tok.lit l).bytes := by
  rw [M.runs_step (by omega), List.drop_eq_nil_of_le h2, M.runs_nil, List.take_of_length_le h2]
  simp [M.bytesOf]
theorem rb_le {r : ByteArray × Int × Int} {a : List UInt8} (h : rb r = some a) : a.length ≤ 131 := by
  unfold rb at h
  split at h
  · rename_i hl
    unfold lB at hl
    rw [decide_eq_true_iff] at hl
    injection h with h
    rw [← h, runs_one (by rw [len_]; omega) (by rw [len_]; omega)]
    simp only [M.Tok.bytes, List.length_cons, len_]
    omega
  · split at h
    · injection h with h
      rw [← h]
      simp [M.Tok.bytes]
    · cases h
/-- What Form answers. -/
def frmV : Option (List UInt8) → Value
  | none => .tuple #[.string ⟨#[]⟩, .int .i64 1]
  | some b => .tuple #[.string (ba b), .int .i64 0]
theorem drop_at (rs : List (ByteArray × Int × Int)) (j : Nat) (h : j < rs.length) : rs.drop j = rs.getD j (ByteArray.empty, 0, 0) :: rs.drop (j + 1) := by
  rw [List.drop_eq_getElem_cons h]
  simp [List.getD_eq_getElem?_getD, h]
theorem Trip.below {w w' : World} {a : Option Addr} {rs : List (ByteArray × Int × Int)} (h : Trip w a rs) (hb : Below w.heap.size w w') : Trip w' a rs := by
  rcases h with rfl | ⟨b, off, rfl, hlt, hc⟩
  · exact Or.inl rfl
  · refine Or.inr ⟨b, off, rfl, Nat.lt_of_lt_of_le hlt hb.size, fun j hj => ?_⟩
    obtain ⟨q0, q1, q2⟩ := hc j hj
    exact ⟨(hb.cell (p := ⟨b, off + j * 3, none⟩) hlt).trans q0, (hb.cell (p := ⟨b, off + j * 3 + 1, none⟩) hlt).trans q1, (hb.cell (p := ⟨b, off + j * 3 + 2, none⟩) hlt).trans q2⟩
set_option maxHeartbeats 4000000 in
set_option maxRecDepth 20000 in
theorem form_any (a : Option Addr) (cap : Nat) (rs : List (ByteArray × Int × Int)) (w : World) (hl : rs.length ≤ 100000000000) (V : Trip w a rs) :
    Calls Try.prog 21 #[.slice a rs.length cap] w fun e w' => e = .returned (frmV (frm rs)) ∧ Below w.heap.size w w' := by
  obtain ⟨R, hR⟩ : ∃ R, R = frm rs := ⟨_, rfl⟩
  rw [← hR]
  have HR : Hid (fpre [] (frm (rs.drop 0)) = R) := by show _ = R; rw [fpre_nil, hR]; rfl
  have HV := hid V
  clear hR V
  go_enter Try.func21, Try.ntmps21
  go_wp2_with fail
  go_loopg [4, 6, 9] rs.length (fun k o x i wr => ∃ (j : Nat) (pre : List UInt8), j + k = rs.length ∧ i = .int .i64 j ∧ Hid (pre.length ≤ 131 * j) ∧ Hid (fpre pre (frm (rs.drop j)) = R) ∧ Hid (Own wr w.heap.size o pre) ∧ Hid (Below w.heap.size w wr) ∧ Hid (w.heap.size ≤ wr.heap.size))
  case atStart => exact ⟨0, [], by omega, rfl, Nat.zero_le _, HR, World.ownsRow_nil _ _ _ _, Below.refl _ _, Nat.le_refl _⟩
  case round =>
    clear HR
    obtain ⟨j, pre, hk, rfl, HU, HP, HO, HB, HS⟩ := hrel
    have hU := HU.out
    by_cases hlt : j < rs.length
    · obtain ⟨k, rfl⟩ : ∃ k, gk = k + 1 := ⟨gk - 1, by omega⟩
      rcases HV.out with rfl | ⟨b, off, rfl, hbl, hc⟩
      · simp at hlt
      obtain ⟨q0, q1, q2⟩ := hc j hlt
      have hp := HP.out
      rw [drop_at rs j hlt] at hp
      generalize rs.getD j (ByteArray.empty, 0, 0) = r at *
      have hrl := fun a => rb_le (r := r) (a := a)
      obtain ⟨S, n, d⟩ := r
      simp only at q0 q1 q2
      have k0 := (HB.out.cell (p := ⟨b, off + j * 3, none⟩) hbl).trans q0
      have k1 := (HB.out.cell (p := ⟨b, off + j * 3 + 1, none⟩) hbl).trans q1
      have k2 := (HB.out.cell (p := ⟨b, off + j * 3 + 2, none⟩) hbl).trans q2
      have hsz := HS.out
      have cl := fun w => islit_any S n d w
      have cm := fun w => ismat_any S n d w
      cases hlb : lB S n d with
      | true =>
        rw [hlb] at cl
        have hrb : rb (S, n, d) = some (M.bytesOf (M.runs S.data.toList)) := by unfold rb; rw [if_pos hlb]
        have hle := hrl _ hrb
        simp only [frm, hrb] at hp
        rw [fpre_fpre] at hp
        have HP2 := hid hp
        have CL := hid cl
        clear hp cl cm hrb hlb hrl q0 q1 q2 HP hc
        go_wp2_with fail
        refine (CL.out _).mono ?_
        rintro e w1 ⟨rfl, hb1⟩
        have HB1 := hid ((HB.out.alloc hsz (.cells #[.string S, .int .i64 n, .int .i64 d] 47)).trans (hb1.mono (by simp; omega)))
        have HS1 := hid (HB1.out.size)
        have gT : w1.heap[wr.heap.size]? = some (.cells #[.string S, .int .i64 n, .int .i64 d] 47 (0, 0)) := (hb1.block _ (by simp)).trans (heap_new wr _)
        obtain ⟨m0, m1, m2⟩ := cells3 gT
        have HO1 : Hid (Own w1 w.heap.size u4 pre) := own_apart (World.ownsRow.alloc HO.out (.cells #[.string S, .int .i64 n, .int .i64 d] 47)) (fun g hg => hb1.block g (by have := (World.ownsRow.lt HO.out g hg).2; simp; omega))
        clear hb1 gT k0 k1 k2 HB HS HO m1 m2
        go_wp2_with fail
        refine (alit_any w.heap.size pre _ S _ HO1.out HS1.out (by omega)).mono ?_
        rintro e w2 ⟨v2, rfl, ho2, hb2⟩
        have HO2 := hid ho2
        have HB2 := hid (HB1.out.trans hb2)
        have HS2 : Hid (w.heap.size ≤ w2.heap.size) := HB2.out.size
        clear ho2 hb2 m0
        go_wp2_with fail
        go_roundg k
        case measure => omega
        case rel => exact ⟨j + 1, _, by omega, by go_num, by show _ ≤ _; rw [List.length_append]; omega, HP2, HO2, HB2, HS2⟩
      | false =>
        rw [hlb] at cl
        have CL := hid cl
        cases hmb : mB S n d with
        | true =>
          rw [hmb] at cm
          have hrb : rb (S, n, d) = some (M.Tok.mat n.toNat d.toNat).bytes := by unfold rb; rw [hlb, if_neg (by decide), if_pos hmb]
          have hle := hrl _ hrb
          simp only [frm, hrb] at hp
          rw [fpre_fpre] at hp
          unfold mB at hmb
          rw [decide_eq_true_iff] at hmb
          obtain ⟨N, rfl⟩ := Int.eq_ofNat_of_zero_le (show 0 ≤ n by omega)
          obtain ⟨D, rfl⟩ := Int.eq_ofNat_of_zero_le (show 0 ≤ d by omega)
          rw [Int.toNat_natCast, Int.toNat_natCast] at hp hle
          have HP2 := hid hp
          have CM := hid cm
          have h1 : 4 ≤ N := by omega
          have h2 : N ≤ 131 := by omega
          have h3 : D ≤ 8192 := by omega
          clear hp cl cm hrb hlb hrl q0 q1 q2 HP hc hmb
          go_wp2_with fail
          refine (CL.out _).mono ?_
          rintro e w1 ⟨rfl, hb1⟩
          have HB1 := hid ((HB.out.alloc hsz (.cells #[.string S, .int .i64 N, .int .i64 D] 47)).trans (hb1.mono (by simp; omega)))
          have HS1 := hid (HB1.out.size)
          have gT : w1.heap[wr.heap.size]? = some (.cells #[.string S, .int .i64 N, .int .i64 D] 47 (0, 0)) := (hb1.block _ (by simp)).trans (heap_new wr _)
          obtain ⟨m0, m1, m2⟩ := cells3 gT
          have HO1 : Hid (Own w1 w.heap.size u4 pre) := own_apart (World.ownsRow.alloc HO.out (.cells #[.string S, .int .i64 N, .int .i64 D] 47)) (fun g hg => hb1.block g (by have := (World.ownsRow.lt HO.out g hg).2; simp; omega))
          have HGT := hid gT
          clear hb1 gT k0 k1 k2 HB HS HO
          go_wp2_with fail
          refine (CM.out _).mono ?_
          rintro e w2 ⟨rfl, hb2⟩
          have HB2 := hid (bel_bel HB1.out hb2 HS1.out)
          have HS2 := hid (HB2.out.size)
          have gT2 : w2.heap[wr.heap.size]? = some (.cells #[.string S, .int .i64 N, .int .i64 D] 47 (0, 0)) := (hb2.block _ (lt_of_heap HGT.out)).trans HGT.out
          have HO2 : Hid (Own w2 w.heap.size u4 pre) := own_apart HO1.out (fun g hg => hb2.block g (World.ownsRow.lt HO1.out g hg).2)
          clear m0 m1 m2
          obtain ⟨m0, m1, m2⟩ := cells3 gT2
          clear hb2 gT2 HB1 HS1 HO1 HGT m0
          go_wp2_with fail
          refine (amat_any w.heap.size pre _ N D _ HO2.out HS2.out h1 h2 h3 (by omega)).mono ?_
          rintro e w3 ⟨v3, rfl, ho3, hb3⟩
          have HO3 := hid ho3
          have HB3 := hid (HB2.out.trans hb3)
          have HS3 : Hid (w.heap.size ≤ w3.heap.size) := HB3.out.size
          clear ho3 hb3 m1 m2
          go_wp2_with fail
          go_roundg k
          case measure => omega
          case rel => exact ⟨j + 1, _, by omega, by go_num, by show _ ≤ _; rw [List.length_append]; omega, HP2, HO3, HB3, HS3⟩
        | false =>
          rw [hmb] at cm
          have hrb : rb (S, n, d) = none := by unfold rb; rw [hlb, hmb]; simp
          simp only [frm, hrb] at hp
          have HC : Hid (R = none) := hp.symm
          have CM := hid cm
          clear hp cl cm hrb hlb hmb hrl q0 q1 q2 HP hc
          go_wp2_with fail
          refine (CL.out _).mono ?_
          rintro e w1 ⟨rfl, hb1⟩
          have HB1 := hid ((HB.out.alloc hsz (.cells #[.string S, .int .i64 n, .int .i64 d] 47)).trans (hb1.mono (by simp; omega)))
          have HS1 := hid (HB1.out.size)
          have gT : w1.heap[wr.heap.size]? = some (.cells #[.string S, .int .i64 n, .int .i64 d] 47 (0, 0)) := (hb1.block _ (by simp)).trans (heap_new wr _)
          obtain ⟨m0, m1, m2⟩ := cells3 gT
          clear hb1 gT k0 k1 k2 HB HS HO
          go_wp2_with fail
          refine (CM.out _).mono ?_
          rintro e w2 ⟨rfl, hb2⟩
          have HB2 := hid (bel_bel HB1.out hb2 HS1.out)
          clear hb2
          go_wp2_with fail
          go_ret2
          exact ⟨by rw [HC.out]; rfl, HB2.out⟩
    · have hp := HP.out
      rw [List.drop_eq_nil_of_le (by omega)] at hp
      have HC : Hid (R = some pre) := by show R = _; rw [← hp]; simp [frm, fpre]
      have hcv := conv_own HO.out
      clear hp
      go_wp2_with fail
      go_ret2
      exact ⟨by rw [HC.out]; rfl, HB.out⟩
end Go.Proofs.Ytdkfenmhfkggdaa
