/- The document's disk: where a name stands. -/
import Derived.Test.YthjbhfhdepepmaaRdk
namespace Go.Proofs.Ythjbhfhdepepmaa
open Go.RowKit
def Tl (nm : ByteArray) (b : Bool) : Vw → Prop
  | [] => b = false
  | y :: _ => (y.1 = nm ∧ b = true) ∨ (Bf nm y.1 ∧ b = false)
theorem hid' {p : Prop} (h : p) : Hid p := h
theorem tq_ne {a b : ByteArray} (h : a ≠ b) : (a.toList == b.toList) = false := by
  rw [beq_eq_false_iff_ne, ByteArray.toList_eq, ByteArray.toList_eq]
  exact fun e => h (ba_eq.1 e)
theorem tq_eq (a : ByteArray) : (a.toList == a.toList) = true := by simp
theorem bl_eq : ∀ a b : List UInt8, Op.bytesLess a b = bytesBefore a b
  | [], [] => rfl
  | [], _ :: _ => rfl
  | _ :: _, [] => rfl
  | a :: r, b :: s => by
    rw [Op.bytesLess, bytesBefore, bl_eq r s]
theorem bl_bf {a b : ByteArray} (h : Bf a b) : Op.bytesLess a.toList b.toList = true := by rw [bl_eq, ByteArray.toList_eq, ByteArray.toList_eq]; exact h
theorem bl_nf {a b : ByteArray} (h : Bf a b) : Op.bytesLess b.toList a.toList = false := by rw [bl_eq, ByteArray.toList_eq, ByteArray.toList_eq]; have := bf_asym h; unfold Bf at this; simpa using this
theorem w64 {n : Nat} (h : n ≤ 65536) : IntKind.i64.wrap ((n : Int) + 1) = ((n + 1 : Nat) : Int) := by simp only [IntKind.wrap, IntKind.bits, IntKind.signed, Bool.true_and]; split <;> rename_i h <;> simp at h <;> omega
theorem name_at {w : World} {g : Nat} {V : Vw} {j N : Nat} (hN : V.length = N) (hcl : ∀ j, j < N * 3 → w.cell? ⟨g, j, none⟩ = (rfs V)[j]?) (hj : j < N) : ∃ l x r, V = l ++ x :: r ∧ l.length = j ∧ w.cell? ⟨g, j * 3, none⟩ = some (.string x.1) ∧ w.cell? ⟨g, j * 3 + 1, none⟩ = some (.string (ba x.2.1)) ∧ w.cell? ⟨g, j * 3 + 2, none⟩ = some (.int .i64 x.2.2) := by
  subst hN
  have hs : V = V.take j ++ V[j] :: V.drop (j + 1) := by
    conv => lhs; rw [← List.take_append_drop j V]
    rw [List.drop_eq_getElem_cons hj]
  have hlj : (V.take j).length = j := by rw [List.length_take]; omega
  refine ⟨_, _, _, hs, hlj, ?_, ?_, ?_⟩
  · rw [hcl _ (by omega)]; conv => lhs; rw [hs]
    have := rfs_at (V.take j) (V.drop (j + 1)) V[j] 0 (by omega)
    rw [hlj] at this; exact this
  · rw [hcl _ (by omega)]; conv => lhs; rw [hs]
    have := rfs_at (V.take j) (V.drop (j + 1)) V[j] 1 (by omega)
    rw [hlj] at this; exact this
  · rw [hcl _ (by omega)]; conv => lhs; rw [hs]
    have := rfs_at (V.take j) (V.drop (j + 1)) V[j] 2 (by omega)
    rw [hlj] at this; exact this
set_option maxHeartbeats 2000000 in
set_option maxRecDepth 20000 in
theorem rat_any (d : Nat) (fl : Value) (rm : Nat) (cl cb : Int) (l t : Vw) (nm : ByteArray) (b : Bool) (w : World) (h : Rk w d fl rm cl cb (l ++ t)) (hl : ∀ y ∈ l, Bf y.1 nm)
    (ht : Tl nm b t) (hc : (l ++ t).length ≤ 65536) :
    Calls Try.prog 68 #[.pointer (some ⟨d, 0, none⟩), .string nm] w fun e w' => e = .returned (.tuple #[.int .i64 l.length, .bool b]) ∧ ∃ k, w' = w.drewN k := by
  have c1 := h.c1
  have hf := h.form
  clear h
  rcases hf with ⟨rfl, hv⟩ | ⟨g, cap, rfl, hcl, _, _⟩
  · obtain ⟨rfl, rfl⟩ := List.append_eq_nil_iff.1 hv
    have hb : b = false := ht
    subst hb
    clear hl hc hv ht
    go_enter Try.func68, Try.ntmps68
    go_wp2
    go_loopg [6] 0 (fun k i wr => ∃ m : Nat, i = .int .i64 0 ∧ wr = w.drewN m)
    case atStart => exact ⟨0, rfl, rfl⟩
    case round =>
      obtain ⟨m, rfl, rfl⟩ := hrel
      go_wp2
      go_ret2
      exact ⟨rfl, _, rfl⟩
  · have HC := hid' hcl
    have HL := hid' hl
    have HT := hid' ht
    clear hcl hl ht
    generalize hN : (l ++ t).length = N at *
    have hLN : l.length + t.length = N := by rw [← hN]; simp
    have HN := hid' hN
    clear hN
    go_enter Try.func68, Try.ntmps68
    go_wp2
    go_loopg [6] N (fun k i wr => ∃ j m : Nat, j + k = N ∧ j ≤ l.length ∧ i = .int .i64 j ∧ wr = w.drewN m)
    case atStart => exact ⟨0, 0, by omega, by omega, rfl, rfl⟩
    case round =>
      obtain ⟨j, m, hk, hjl, rfl, rfl⟩ := hrel
      by_cases hlt : j < N
      · obtain ⟨k, rfl⟩ : ∃ k, gk = k + 1 := ⟨gk - 1, by omega⟩
        have hltD : decide ((j : Int) < N) = true := by simp; omega
        have hltI : (j : Int) < N := by omega
        obtain ⟨l', x, r', e1, e2, q0, _, _⟩ := name_at HN.out HC.out hlt
        have ew := w64 (n := j) (by omega)
        by_cases hj : j < l.length
        · have hx : x ∈ l := by
            have e3 : (l ++ t)[j]? = some x := by rw [e1, List.getElem?_append_right (by omega), e2]; simp
            rw [List.getElem?_append_left hj] at e3
            exact List.mem_of_getElem? e3
          have hb1 := HL.out x hx
          have n1 := tq_ne (bf_ne hb1)
          have n2 := bl_bf hb1
          generalize x.1 = xn at *
          clear e1 e2 hx hb1
          go_wp2
          go_roundg k
          case measure => omega
          case rel => exact ⟨j + 1, _, by omega, by omega, by first | rfl | exact congrArg (Value.int .i64) ew, rfl⟩
        · have hjl2 : j = l.length := by omega
          subst hjl2
          obtain ⟨x', t', rfl⟩ : ∃ x' t', t = x' :: t' := by
            cases t with
            | nil => simp at hLN; omega
            | cons x' t' => exact ⟨x', t', rfl⟩
          have e3 : (l ++ x' :: t')[l.length]? = some x := by rw [e1, List.getElem?_append_right (by omega), e2]; simp
          have e4 : x' = x := by simpa using e3
          subst e4
          rcases HT.out with ⟨h1, rfl⟩ | ⟨h1, rfl⟩
          · have n1 := tq_eq nm
            rw [h1] at q0
            clear e1 e2 e3 h1
            go_wp2
            go_ret2
            exact ⟨rfl, _, rfl⟩
          · have n1 := tq_ne (fun e => bf_ne h1 e.symm)
            have n2 := bl_nf h1
            generalize x'.1 = xn at *
            clear e1 e2 e3 h1
            go_wp2
            go_ret2
            exact ⟨rfl, _, rfl⟩
      · have hltD : decide ((j : Int) < N) = false := by simp; omega
        obtain rfl : t = [] := List.eq_nil_of_length_eq_zero (by omega)
        have hb : b = false := HT.out
        subst hb
        have hjl2 : j = l.length := by omega
        subst hjl2
        have hN2 : N = l.length := by omega
        subst hN2
        go_wp2
        go_ret2
        exact ⟨rfl, _, rfl⟩
end Go.Proofs.Ythjbhfhdepepmaa
