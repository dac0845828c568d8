/- What the calls of the document's own reader answer: numbers, bytes, texts; the same as the program's. -/
import Derived.Test.YtgdaaohlongmlaaGreatSays
import Derived.Deep.QuietTactic
import Derived.BigQuiet
import Derived.Deep.RegionHeld
namespace Go.Proofs.YtgdaaohlongmlaaGreat
open Go.RowKit
/-- The document's reader: its bytes, where it stands, its error. -/
def RX (w : World) (b : Nat) (s : ByteArray) (k e : Nat) : Prop := w.heap[b]? = some (.cells #[.string s, .int .i64 k, .int .i64 e] 113 (0, 0))
theorem RX.cK {w : World} {b : Nat} {s : ByteArray} {k e : Nat} (h : RX w b s k e) : w.cell? ⟨b, 1, none⟩ = some (.int .i64 k) := (cell_of h).trans rfl
theorem RX.cS {w : World} {b : Nat} {s : ByteArray} {k e : Nat} (h : RX w b s k e) : w.cell? ⟨b, 0, none⟩ = some (.string s) := (cell_of h).trans rfl
theorem RX.cE {w : World} {b : Nat} {s : ByteArray} {k e : Nat} (h : RX w b s k e) : w.cell? ⟨b, 2, none⟩ = some (.int .i64 e) := (cell_of h).trans rfl
theorem RX.fz {w : World} {b : Nat} {s : ByteArray} {k e : Nat} (h : RX w b s k e) (i : Nat) : w.frozen? ⟨b, i, none⟩ = false := froz_of h
theorem RX.lt {w : World} {b : Nat} {s : ByteArray} {k e : Nat} (h : RX w b s k e) : b < w.heap.size := lt_of_heap h
theorem RX.setK {w : World} {b : Nat} {s : ByteArray} {k e : Nat} (h : RX w b s k e) (k' : Nat) : RX (w.setCell ⟨b, 1, none⟩ (.int .i64 k')) b s k' e := heap_set h
theorem RX.setE {w : World} {b : Nat} {s : ByteArray} {k e : Nat} (h : RX w b s k e) (e' : Nat) : RX (w.setCell ⟨b, 2, none⟩ (.int .i64 e')) b s k e' := heap_set h
theorem RX.far {w : World} {b : Nat} {s : ByteArray} {k e : Nat} (h : RX w b s k e) {p : Addr} (v : Value) (hp : b ≠ p.block) : RX (w.setCell p v) b s k e := heap_set_far h hp
theorem RX.alloc {w : World} {b : Nat} {s : ByteArray} {k e : Nat} (h : RX w b s k e) (o : Obj) : RX (w.alloc o) b s k e := heap_alloc_at h
theorem RX.drew {w : World} {b : Nat} {s : ByteArray} {k e : Nat} (h : RX w b s k e) : RX w.drew b s k e := h
theorem RX.drewN {w : World} {b : Nat} {s : ByteArray} {k e : Nat} (h : RX w b s k e) (n : Nat) : RX (w.drewN n) b s k e := h
theorem RX.ch {S : Nat → Prop} {w w' : World} {b : Nat} {s : ByteArray} {k e : Nat} (h : RX w b s k e) (hc : Ch S w w') (hS : ¬ S b) : RX w' b s k e := (hc.block b h.lt hS).trans h
theorem RX.below {w w' : World} {b : Nat} {s : ByteArray} {k e B : Nat} (h : RX w b s k e) (hc : Below B w w') (hB : b < B) : RX w' b s k e := (hc.block b hB).trans h
/-- What Done answers. -/
def dqx (s : ByteArray) (k e : Nat) : Nat := if e = 0 ∧ k < s.size then 22 else e
/-- What a call of the document's reader answers, and how it stands behind it. -/
def AnsX (b : Nat) (s : ByteArray) (v : Value) (k' e' : Nat) (w : World) (e : Ending) (w' : World) : Prop := e = .returned (.tuple #[v, .int .i64 e']) ∧ RX w' b s k' e' ∧ Ch (fun i => i = b) w w'
theorem xnew_any (s : ByteArray) (w : World) :
    Calls Tryz.prog 37 #[.string s] w fun e w' => e = .returned (.pointer (some ⟨w.heap.size, 0, none⟩)) ∧ w' = w.alloc (.cells #[.string s, .int .i64 0, .int .i64 0] 113) := by
  go_enter Tryz.func37, Tryz.ntmps37
  go_wp2
  go_ret
  exact ⟨rfl, rfl⟩
theorem xleft_any (b : Nat) (s : ByteArray) (k e : Nat) (w : World) (h : RX w b s k e) (hk : k ≤ s.size) (hs : s.size ≤ 9223372036854775807) :
    Calls Tryz.prog 84 #[.pointer (some ⟨b, 0, none⟩)] w fun r w' => r = .returned (.int .i64 ((s.size : Int) - k)) ∧ ∃ n, w' = w.drewN n := by
  have c0 := h.cS
  have c1 := h.cK
  go_enter Tryz.func84, Tryz.ntmps84
  go_wp2
  go_quiet (fail)
  go_wp2
  go_ret
  exact ⟨rfl, _, rfl⟩
theorem xfail_new (b : Nat) (s : ByteArray) (k E : Nat) (w : World) (h : RX w b s k 0) :
    Calls Tryz.prog 101 #[.pointer (some ⟨b, 0, none⟩), .int .i64 E] w fun r w' => r = .returned (.int .i64 E) ∧ w' = w.setCell ⟨b, 2, none⟩ (.int .i64 E) := by
  have c := h.cE
  have f := h.fz 2
  go_enter Tryz.func101, Tryz.ntmps101
  go_wp2
  go_ret
  exact ⟨rfl, rfl⟩
theorem xfail_old (b : Nat) (s : ByteArray) (k e : Nat) (E : Int) (w : World) (h : RX w b s k e) (he : e ≠ 0) :
    Calls Tryz.prog 101 #[.pointer (some ⟨b, 0, none⟩), .int .i64 E] w fun r w' => r = .returned (.int .i64 e) ∧ w' = w := by
  have c := h.cE
  have hne : ((e : Int) == 0) = false := by rw [beq_eq_false_iff_ne]; omega
  clear he
  go_enter Tryz.func101, Tryz.ntmps101
  go_wp2
  go_ret
  exact ⟨rfl, rfl⟩
set_option maxHeartbeats 1000000 in
set_option maxRecDepth 20000 in
theorem xdone_any (b : Nat) (s : ByteArray) (k e : Nat) (w : World) (h : RX w b s k e) (hk : k ≤ s.size) (hs : s.size ≤ 9223372036854775807) :
    Calls Tryz.prog 41 #[.pointer (some ⟨b, 0, none⟩)] w fun r w' => r = .returned (.int .i64 (dqx s k e)) ∧ ∃ n, w' = w.drewN n := by
  have c2 := h.cE
  by_cases he : e = 0
  · subst he
    have tl := xleft_any b s k 0 w h hk hs
    by_cases hl : k < s.size
    · have hd : dqx s k 0 = 22 := by unfold dqx; rw [if_pos ⟨rfl, hl⟩]
      rw [hd]
      clear hd
      go_enter Tryz.func41, Tryz.ntmps41
      go_wp2_with (go_at_call 84; refine tl.mono ?_; rintro e w' ⟨rfl, n1, rfl⟩)
      go_ret
      exact ⟨rfl, _, rfl⟩
    · have hd : dqx s k 0 = 0 := by unfold dqx; rw [if_neg (by omega)]
      rw [hd]
      clear hd
      go_enter Tryz.func41, Tryz.ntmps41
      go_wp2_with (go_at_call 84; refine tl.mono ?_; rintro e w' ⟨rfl, n1, rfl⟩)
      go_ret
      exact ⟨rfl, _, rfl⟩
  · have hd : dqx s k e = e := by unfold dqx; rw [if_neg (by omega)]
    have hne : ((e : Int) == 0) = false := by rw [beq_eq_false_iff_ne]; omega
    rw [hd]
    clear hd he
    go_enter Tryz.func41, Tryz.ntmps41
    go_wp2
    go_ret
    exact ⟨rfl, 0, rfl⟩
theorem wrapX {n : Int} (h1 : -9223372036854775808 ≤ n) (h2 : n ≤ 9223372036854775807) : IntKind.i64.wrap n = n := by
  simp only [IntKind.wrap, IntKind.bits, IntKind.signed, Bool.true_and]; split <;> rename_i h <;> simp at h <;> omega
theorem bex_eq (s : ByteArray) (k j : Nat) (h1 : ((k : Int) + (j : Int)).toNat < s.size) (h2 : k + j < s.size) (Y : Int) : IntKind.u64.wrap (Y + IntKind.u64.wrap ((s[((k : Int) + (j : Int)).toNat]'h1).toNat : Int)) = IntKind.u64.wrap (Y + ((s[k + j]'h2).toNat : Int)) := by
  have e : ((k : Int) + (j : Int)).toNat = k + j := by omega
  simp only [e]
  have h := s[k + j].toNat_lt
  have e2 : IntKind.u64.wrap (s[k + j].toNat : Int) = (s[k + j].toNat : Int) := by rw [IntKind.wrap_u64]; omega
  rw [e2]
theorem bex_step (s : ByteArray) (k j : Nat) (hj : k + j < s.size) (n : Nat) (hn : j < n) (h8 : n ≤ 8) (hk : k + n ≤ s.size) :
    IntKind.u64.wrap (IntKind.u64.wrap ((be ((bl (s.extract k (k + n))).take j) : Int) * 256) + (s[k + j].toNat : Int)) = ((be ((bl (s.extract k (k + n))).take (j + 1)) : Nat) : Int) := by
  have hz : (s.extract k (k + n)).size = n := by simp [ByteArray.size_extract]; omega
  have hl : j < (bl (s.extract k (k + n))).length := by rw [bl_len, hz]; exact hn
  have e : (bl (s.extract k (k + n))).take (j + 1) = (bl (s.extract k (k + n))).take j ++ [s[k + j].toNat] := by
    rw [List.take_succ_eq_append_getElem hl]; congr 2; simp [bl, ByteArray.data_extract]; rfl
  have hb := be_lt ((bl (s.extract k (k + n))).take j) (fun b hb => bl_byte _ b (List.mem_of_mem_take hb))
  rw [List.length_take, Nat.min_eq_left (by omega)] at hb
  have hp : (256 : Nat) ^ j ≤ 256 ^ 7 := Nat.pow_le_pow_right (by omega) (by omega)
  have h256 := s[k + j].toNat_lt
  rw [e, be_snoc, IntKind.wrap_u64, IntKind.wrap_u64]
  omega
set_option maxHeartbeats 1000000 in
set_option maxRecDepth 20000 in
theorem xfixed_ok (b : Nat) (s : ByteArray) (k n : Nat) (w : World) (h : RX w b s k 0) (hk : k + n ≤ s.size) (hs : s.size ≤ 9223372036854775807) (hn : n ≤ 8) :
    Calls Tryz.prog 82 #[.pointer (some ⟨b, 0, none⟩), .int .i64 n] w (AnsX b s (.int .u64 (be (bl (s.extract k (k + n))))) (k + n) 0 w) := by
  have c0 := h.cS
  have c1 := h.cK
  have c2 := h.cE
  have f1 := h.fz 1
  have tl := xleft_any b s k 0 w h (by omega) hs
  have hz : (bl (s.extract k (k + n))).length = n := by rw [bl_len]; simp [ByteArray.size_extract]; omega
  have hst : ∀ j (_ : j < n) (hkj : k + j < s.size), IntKind.u64.wrap (IntKind.u64.wrap ((be ((bl (s.extract k (k + n))).take j) : Int) * 256) + (s[k + j].toNat : Int)) = ((be ((bl (s.extract k (k + n))).take (j + 1)) : Nat) : Int) := fun j hj hkj => bex_step s k j hkj n hj hn hk
  generalize bl (s.extract k (k + n)) = t at hz hst ⊢
  go_enter Tryz.func82, Tryz.ntmps82
  go_wp2_with (go_at_call 84; refine tl.mono ?_; rintro e w' ⟨rfl, n1, rfl⟩)
  go_loopw [6, 7] (fun v i wr => ∃ j m : Nat, j ≤ n ∧ i = .int .i64 j ∧ v = .int .u64 (be (t.take j)) ∧ wr = w.drewN m) (fun _ i _ => n - (intOf i).toNat)
  case atStart => exact ⟨0, n1, by omega, rfl, rfl, rfl⟩
  case round =>
    obtain ⟨j, m, hj, rfl, rfl, rfl⟩ := hrel
    by_cases hlt : j < n
    · have hlt' : k + j < s.size := by omega
      have HS := Hid.mk (hst j hlt hlt')
      have hw : IntKind.i64.wrap ((k : Int) + (j : Int)) = ((k + j : Nat) : Int) := wrapX (by omega) (by omega)
      clear hst
      go_wp2
      go_region_held (fun w' => w'.cell? ⟨b, 0, none⟩ = some (.string s) ∧ w'.cell? ⟨b, 1, none⟩ = some (.int .i64 k)) ((refine ⟨?_, ?_⟩ <;> go_simp)) (fail)
      go_wp2
      go_roundw
      case rel => exact ⟨j + 1, m + 1, by omega, by go_num, by rw [bex_eq s k j _ hlt', HS.out], rfl⟩
      case measure => simp [intOf]; omega
    · have e : t.take j = t := List.take_of_length_le (by omega)
      have HE := Hid.mk e
      clear e hst
      go_wp2
      go_ret2
      exact ⟨by rw [HE.out]; rfl, (h.drewN _).setK (k + n), ((Ch.refl _ _).drewN _).setCell _ _ (fun _ => rfl)⟩
end Go.Proofs.YtgdaaohlongmlaaGreat
