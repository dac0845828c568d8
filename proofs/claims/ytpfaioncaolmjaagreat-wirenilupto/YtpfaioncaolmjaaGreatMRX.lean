/- Texts of the proof, put together: RX, RX2, RX3, RX4, RX5. -/
import Derived.Test.YtpfaioncaolmjaaGreatSays
import Derived.Deep.QuietTactic
import Derived.BigQuiet
import Derived.Deep.RegionHeld
namespace Go.Proofs.YtpfaioncaolmjaaGreat
open Go.RowKit
/-- The document's reader: its bytes, where it stands, its error. -/
def RX (w : World) (b : Nat) (s : ByteArray) (k e : Nat) : Prop := w.heap[b]? = some (.cells #[.string s, .int .i64 k, .int .i64 e] 98 (0, 0))
theorem RX.cK {w : World} {b : Nat} {s : ByteArray} {k e : Nat} (h : RX w b s k e) : w.cell? ⟨b, 1, none⟩ = some (.int .i64 k) := (cell_of h).trans rfl
theorem RX.cS {w : World} {b : Nat} {s : ByteArray} {k e : Nat} (h : RX w b s k e) : w.cell? ⟨b, 0, none⟩ = some (.string s) := (cell_of h).trans rfl
theorem RX.cE {w : World} {b : Nat} {s : ByteArray} {k e : Nat} (h : RX w b s k e) : w.cell? ⟨b, 2, none⟩ = some (.int .i64 e) := (cell_of h).trans rfl
theorem RX.fz {w : World} {b : Nat} {s : ByteArray} {k e : Nat} (h : RX w b s k e) (i : Nat) : w.frozen? ⟨b, i, none⟩ = false := froz_of h
theorem RX.lt {w : World} {b : Nat} {s : ByteArray} {k e : Nat} (h : RX w b s k e) : b < w.heap.size := lt_of_heap h
theorem RX.setK {w : World} {b : Nat} {s : ByteArray} {k e : Nat} (h : RX w b s k e) (k' : Nat) : RX (w.setCell ⟨b, 1, none⟩ (.int .i64 k')) b s k' e := heap_set h
theorem RX.setE {w : World} {b : Nat} {s : ByteArray} {k e : Nat} (h : RX w b s k e) (e' : Nat) : RX (w.setCell ⟨b, 2, none⟩ (.int .i64 e')) b s k e' := heap_set h
theorem RX.far {w : World} {b : Nat} {s : ByteArray} {k e : Nat} (h : RX w b s k e) {p : Addr} (v : Value) (hp : b ≠ p.block) : RX (w.setCell p v) b s k e := heap_set_far h hp
theorem RX.alloc {w : World} {b : Nat} {s : ByteArray} {k e : Nat} (h : RX w b s k e) (o : Obj) : RX (w.alloc o) b s k e := heap_alloc_at h
theorem RX.drew {w : World} {b : Nat} {s : ByteArray} {k e : Nat} (h : RX w b s k e) : RX w.drew b s k e := h
theorem RX.drewN {w : World} {b : Nat} {s : ByteArray} {k e : Nat} (h : RX w b s k e) (n : Nat) : RX (w.drewN n) b s k e := h
theorem RX.ch {S : Nat → Prop} {w w' : World} {b : Nat} {s : ByteArray} {k e : Nat} (h : RX w b s k e) (hc : Ch S w w') (hS : ¬ S b) : RX w' b s k e := (hc.block b h.lt hS).trans h
theorem RX.below {w w' : World} {b : Nat} {s : ByteArray} {k e B : Nat} (h : RX w b s k e) (hc : Below B w w') (hB : b < B) : RX w' b s k e := (hc.block b hB).trans h
/-- What Done answers. -/
def dqx (s : ByteArray) (k e : Nat) : Nat := if e = 0 ∧ k < s.size then 22 else e
/-- What a call of the document's reader answers, and how it stands behind it. -/
def AnsX (b : Nat) (s : ByteArray) (v : Value) (k' e' : Nat) (w : World) (e : Ending) (w' : World) : Prop := e = .returned (.tuple #[v, .int .i64 e']) ∧ RX w' b s k' e' ∧ Ch (fun i => i = b) w w'
theorem xnew_any (s : ByteArray) (w : World) :
    Calls Tryz.prog 19 #[.string s] w fun e w' => e = .returned (.pointer (some ⟨w.heap.size, 0, none⟩)) ∧ w' = w.alloc (.cells #[.string s, .int .i64 0, .int .i64 0] 98) := by
  go_enter Tryz.func19, Tryz.ntmps19
  go_wp2
  go_ret
  exact ⟨rfl, rfl⟩
theorem xat_any (b : Nat) (s : ByteArray) (k e : Nat) (w : World) (h : RX w b s k e) :
    Calls Tryz.prog 74 #[.pointer (some ⟨b, 0, none⟩)] w fun r w' => r = .returned (.int .i64 k) ∧ w' = w := by
  have c := h.cK
  go_enter Tryz.func74, Tryz.ntmps74
  go_wp2
  go_ret
  exact ⟨rfl, rfl⟩
theorem xerr_any (b : Nat) (s : ByteArray) (k e : Nat) (w : World) (h : RX w b s k e) :
    Calls Tryz.prog 22 #[.pointer (some ⟨b, 0, none⟩)] w fun r w' => r = .returned (.int .i64 e) ∧ w' = w := by
  have c := h.cE
  go_enter Tryz.func22, Tryz.ntmps22
  go_wp2
  go_ret
  exact ⟨rfl, rfl⟩
theorem xleft_any (b : Nat) (s : ByteArray) (k e : Nat) (w : World) (h : RX w b s k e) (hk : k ≤ s.size) (hs : s.size ≤ 9223372036854775807) :
    Calls Tryz.prog 75 #[.pointer (some ⟨b, 0, none⟩)] w fun r w' => r = .returned (.int .i64 ((s.size : Int) - k)) ∧ ∃ n, w' = w.drewN n := by
  have c0 := h.cS
  have c1 := h.cK
  go_enter Tryz.func75, Tryz.ntmps75
  go_wp2
  go_quiet (fail)
  go_wp2
  go_ret
  exact ⟨rfl, _, rfl⟩
theorem xfail_new (b : Nat) (s : ByteArray) (k E : Nat) (w : World) (h : RX w b s k 0) :
    Calls Tryz.prog 112 #[.pointer (some ⟨b, 0, none⟩), .int .i64 E] w fun r w' => r = .returned (.int .i64 E) ∧ w' = w.setCell ⟨b, 2, none⟩ (.int .i64 E) := by
  have c := h.cE
  have f := h.fz 2
  go_enter Tryz.func112, Tryz.ntmps112
  go_wp2
  go_ret
  exact ⟨rfl, rfl⟩
theorem xfail_old (b : Nat) (s : ByteArray) (k e : Nat) (E : Int) (w : World) (h : RX w b s k e) (he : e ≠ 0) :
    Calls Tryz.prog 112 #[.pointer (some ⟨b, 0, none⟩), .int .i64 E] w fun r w' => r = .returned (.int .i64 e) ∧ w' = w := by
  have c := h.cE
  have hne : ((e : Int) == 0) = false := by rw [beq_eq_false_iff_ne]; omega
  clear he
  go_enter Tryz.func112, Tryz.ntmps112
  go_wp2
  go_ret
  exact ⟨rfl, rfl⟩
set_option maxHeartbeats 1000000 in
set_option maxRecDepth 20000 in
theorem xdone_any (b : Nat) (s : ByteArray) (k e : Nat) (w : World) (h : RX w b s k e) (hk : k ≤ s.size) (hs : s.size ≤ 9223372036854775807) :
    Calls Tryz.prog 71 #[.pointer (some ⟨b, 0, none⟩)] w fun r w' => r = .returned (.int .i64 (dqx s k e)) ∧ ∃ n, w' = w.drewN n := by
  have c2 := h.cE
  by_cases he : e = 0
  · subst he
    have tl := xleft_any b s k 0 w h hk hs
    by_cases hl : k < s.size
    · have hd : dqx s k 0 = 22 := by unfold dqx; rw [if_pos ⟨rfl, hl⟩]
      rw [hd]
      clear hd
      go_enter Tryz.func71, Tryz.ntmps71
      go_wp2_with (go_at_call 75; refine tl.mono ?_; rintro e w' ⟨rfl, n1, rfl⟩)
      go_ret
      exact ⟨rfl, _, rfl⟩
    · have hd : dqx s k 0 = 0 := by unfold dqx; rw [if_neg (by omega)]
      rw [hd]
      clear hd
      go_enter Tryz.func71, Tryz.ntmps71
      go_wp2_with (go_at_call 75; refine tl.mono ?_; rintro e w' ⟨rfl, n1, rfl⟩)
      go_ret
      exact ⟨rfl, _, rfl⟩
  · have hd : dqx s k e = e := by unfold dqx; rw [if_neg (by omega)]
    have hne : ((e : Int) == 0) = false := by rw [beq_eq_false_iff_ne]; omega
    rw [hd]
    clear hd he
    go_enter Tryz.func71, Tryz.ntmps71
    go_wp2
    go_ret
    exact ⟨rfl, 0, rfl⟩
theorem wrapX {n : Int} (h1 : -9223372036854775808 ≤ n) (h2 : n ≤ 9223372036854775807) : IntKind.i64.wrap n = n := by
  simp only [IntKind.wrap, IntKind.bits, IntKind.signed, Bool.true_and]; split <;> rename_i h <;> simp at h <;> omega
theorem bex_eq (s : ByteArray) (k j : Nat) (h1 : ((k : Int) + (j : Int)).toNat < s.size) (h2 : k + j < s.size) (Y : Int) : IntKind.u64.wrap (Y + IntKind.u64.wrap ((s[((k : Int) + (j : Int)).toNat]'h1).toNat : Int)) = IntKind.u64.wrap (Y + ((s[k + j]'h2).toNat : Int)) := by
  have e : ((k : Int) + (j : Int)).toNat = k + j := by omega
  simp only [e]
  have h := s[k + j].toNat_lt
  have e2 : IntKind.u64.wrap (s[k + j].toNat : Int) = (s[k + j].toNat : Int) := by rw [IntKind.wrap_u64]; omega
  rw [e2]
theorem bex_step (s : ByteArray) (k j : Nat) (hj : k + j < s.size) (n : Nat) (hn : j < n) (h8 : n ≤ 8) (hk : k + n ≤ s.size) :
    IntKind.u64.wrap (IntKind.u64.wrap ((be ((bl (s.extract k (k + n))).take j) : Int) * 256) + (s[k + j].toNat : Int)) = ((be ((bl (s.extract k (k + n))).take (j + 1)) : Nat) : Int) := by
  have hz : (s.extract k (k + n)).size = n := by simp [ByteArray.size_extract]; omega
  have hl : j < (bl (s.extract k (k + n))).length := by rw [bl_len, hz]; exact hn
  have e : (bl (s.extract k (k + n))).take (j + 1) = (bl (s.extract k (k + n))).take j ++ [s[k + j].toNat] := by
    rw [List.take_succ_eq_append_getElem hl]; congr 2; simp [bl, ByteArray.data_extract]; rfl
  have hb := be_lt ((bl (s.extract k (k + n))).take j) (fun b hb => bl_byte _ b (List.mem_of_mem_take hb))
  rw [List.length_take, Nat.min_eq_left (by omega)] at hb
  have hp : (256 : Nat) ^ j ≤ 256 ^ 7 := Nat.pow_le_pow_right (by omega) (by omega)
  have h256 := s[k + j].toNat_lt
  rw [e, be_snoc, IntKind.wrap_u64, IntKind.wrap_u64]
  omega
set_option maxHeartbeats 1000000 in
set_option maxRecDepth 20000 in
theorem xfixed_ok (b : Nat) (s : ByteArray) (k n : Nat) (w : World) (h : RX w b s k 0) (hk : k + n ≤ s.size) (hs : s.size ≤ 9223372036854775807) (hn : n ≤ 8) :
    Calls Tryz.prog 130 #[.pointer (some ⟨b, 0, none⟩), .int .i64 n] w (AnsX b s (.int .u64 (be (bl (s.extract k (k + n))))) (k + n) 0 w) := by
  have c0 := h.cS
  have c1 := h.cK
  have c2 := h.cE
  have f1 := h.fz 1
  have tl := xleft_any b s k 0 w h (by omega) hs
  have hz : (bl (s.extract k (k + n))).length = n := by rw [bl_len]; simp [ByteArray.size_extract]; omega
  have hst : ∀ j (_ : j < n) (hkj : k + j < s.size), IntKind.u64.wrap (IntKind.u64.wrap ((be ((bl (s.extract k (k + n))).take j) : Int) * 256) + (s[k + j].toNat : Int)) = ((be ((bl (s.extract k (k + n))).take (j + 1)) : Nat) : Int) := fun j hj hkj => bex_step s k j hkj n hj hn hk
  generalize bl (s.extract k (k + n)) = t at hz hst ⊢
  go_enter Tryz.func130, Tryz.ntmps130
  go_wp2_with (go_at_call 75; refine tl.mono ?_; rintro e w' ⟨rfl, n1, rfl⟩)
  go_loopw [6, 7] (fun v i wr => ∃ j m : Nat, j ≤ n ∧ i = .int .i64 j ∧ v = .int .u64 (be (t.take j)) ∧ wr = w.drewN m) (fun _ i _ => n - (intOf i).toNat)
  case atStart => exact ⟨0, n1, by omega, rfl, rfl, rfl⟩
  case round =>
    obtain ⟨j, m, hj, rfl, rfl, rfl⟩ := hrel
    by_cases hlt : j < n
    · have hlt' : k + j < s.size := by omega
      have HS := Hid.mk (hst j hlt hlt')
      have hw : IntKind.i64.wrap ((k : Int) + (j : Int)) = ((k + j : Nat) : Int) := wrapX (by omega) (by omega)
      clear hst
      go_wp2
      go_region_held (fun w' => w'.cell? ⟨b, 0, none⟩ = some (.string s) ∧ w'.cell? ⟨b, 1, none⟩ = some (.int .i64 k)) ((refine ⟨?_, ?_⟩ <;> go_simp)) (fail)
      go_wp2
      go_roundw
      case rel => exact ⟨j + 1, m + 1, by omega, by go_num, by rw [bex_eq s k j _ hlt', HS.out], rfl⟩
      case measure => simp [intOf]; omega
    · have e : t.take j = t := List.take_of_length_le (by omega)
      have HE := Hid.mk e
      clear e hst
      go_wp2
      go_ret2
      exact ⟨by rw [HE.out]; rfl, (h.drewN _).setK (k + n), ((Ch.refl _ _).drewN _).setCell _ _ (fun _ => rfl)⟩
end Go.Proofs.YtpfaioncaolmjaaGreat
namespace Go.Proofs.YtpfaioncaolmjaaGreat
open Go.RowKit
theorem fx_lt (n : Nat) (s : ByteArray) (k e : Nat) : (fx n s k e).1 < 256 ^ n := by
  have hp : 0 < 256 ^ n := Nat.pow_pos (by omega)
  by_cases he : e = 0
  · subst he
    by_cases h : k + n ≤ s.size
    · rw [fx_ok h]; exact be_ext s k n h
    · rw [fx_short h]; exact hp
  · rw [fx_stale he]; exact hp
set_option maxHeartbeats 1000000 in
set_option maxRecDepth 20000 in
theorem xfixed_any (b : Nat) (s : ByteArray) (k e n : Nat) (w : World) (h : RX w b s k e) (hk : k ≤ s.size) (hs : s.size ≤ 9223372036854775807) (hn : n ≤ 8) :
    Calls Tryz.prog 130 #[.pointer (some ⟨b, 0, none⟩), .int .i64 n] w (AnsX b s (.int .u64 (fx n s k e).1) (fx n s k e).2.1 (fx n s k e).2.2 w) := by
  have c2 := h.cE
  by_cases he : e = 0
  · subst he
    by_cases hl : k + n ≤ s.size
    · rw [fx_ok hl]
      exact xfixed_ok b s k n w h hl hs hn
    · rw [fx_short hl]
      dsimp only
      have tl := xleft_any b s k 0 w h hk hs
      go_enter Tryz.func130, Tryz.ntmps130
      go_wp2_with (first
        | (go_at_call 75; refine tl.mono ?_; rintro e w' ⟨rfl, n1, rfl⟩)
        | (go_at_call 112; refine (xfail_new b s k 20 _ (h.drewN _)).mono ?_; rintro e w' ⟨rfl, rfl⟩))
      go_ret2
      exact ⟨rfl, (h.drewN _).setE 20, ((Ch.refl _ _).drewN _).setCell _ _ (fun _ => rfl)⟩
  · rw [fx_stale he]
    dsimp only
    have hne : ((e : Int) != 0) = true := by rw [bne_iff_ne]; omega
    have HE := Hid.mk he
    clear he
    go_enter Tryz.func130, Tryz.ntmps130
    go_wp2_with (first
      | (go_at_call 112; refine (xfail_old b s k e _ _ h HE.out).mono ?_; rintro e w' ⟨rfl, rfl⟩))
    go_ret2
    exact ⟨rfl, h, Ch.refl _ _⟩
set_option maxHeartbeats 1000000 in
set_option maxRecDepth 20000 in
theorem xu8_any (b : Nat) (s : ByteArray) (k e : Nat) (w : World) (h : RX w b s k e) (hk : k ≤ s.size) (hs : s.size ≤ 9223372036854775807) :
    Calls Tryz.prog 104 #[.pointer (some ⟨b, 0, none⟩)] w (AnsX b s (.int .u8 ((fx 1 s k e).1 : Int)) (fx 1 s k e).2.1 (fx 1 s k e).2.2 w) := by
  have hf := xfixed_any b s k e 1 w h hk hs (by omega)
  have hv := fx_lt 1 s k e
  generalize fx 1 s k e = q at hf hv ⊢
  obtain ⟨v, K, E⟩ := q
  dsimp only at hf hv ⊢
  go_enter Tryz.func104, Tryz.ntmps104
  go_wp2_with (go_at_call 130; refine hf.mono ?_; rintro e w' ⟨rfl, h1, h2⟩)
  go_ret2
  exact ⟨rfl, h1, h2⟩
set_option maxHeartbeats 1000000 in
set_option maxRecDepth 20000 in
theorem xu16_any (b : Nat) (s : ByteArray) (k e : Nat) (w : World) (h : RX w b s k e) (hk : k ≤ s.size) (hs : s.size ≤ 9223372036854775807) :
    Calls Tryz.prog 105 #[.pointer (some ⟨b, 0, none⟩)] w (AnsX b s (.int .u16 ((fx 2 s k e).1 : Int)) (fx 2 s k e).2.1 (fx 2 s k e).2.2 w) := by
  have hf := xfixed_any b s k e 2 w h hk hs (by omega)
  have hv := fx_lt 2 s k e
  generalize fx 2 s k e = q at hf hv ⊢
  obtain ⟨v, K, E⟩ := q
  dsimp only at hf hv ⊢
  go_enter Tryz.func105, Tryz.ntmps105
  go_wp2_with (go_at_call 130; refine hf.mono ?_; rintro e w' ⟨rfl, h1, h2⟩)
  go_ret2
  exact ⟨rfl, h1, h2⟩
set_option maxHeartbeats 1000000 in
set_option maxRecDepth 20000 in
theorem xu32_any (b : Nat) (s : ByteArray) (k e : Nat) (w : World) (h : RX w b s k e) (hk : k ≤ s.size) (hs : s.size ≤ 9223372036854775807) :
    Calls Tryz.prog 106 #[.pointer (some ⟨b, 0, none⟩)] w (AnsX b s (.int .u32 ((fx 4 s k e).1 : Int)) (fx 4 s k e).2.1 (fx 4 s k e).2.2 w) := by
  have hf := xfixed_any b s k e 4 w h hk hs (by omega)
  have hv := fx_lt 4 s k e
  generalize fx 4 s k e = q at hf hv ⊢
  obtain ⟨v, K, E⟩ := q
  dsimp only at hf hv ⊢
  go_enter Tryz.func106, Tryz.ntmps106
  go_wp2_with (go_at_call 130; refine hf.mono ?_; rintro e w' ⟨rfl, h1, h2⟩)
  go_ret2
  exact ⟨rfl, h1, h2⟩
set_option maxHeartbeats 1000000 in
set_option maxRecDepth 20000 in
theorem xu64_any (b : Nat) (s : ByteArray) (k e : Nat) (w : World) (h : RX w b s k e) (hk : k ≤ s.size) (hs : s.size ≤ 9223372036854775807) :
    Calls Tryz.prog 107 #[.pointer (some ⟨b, 0, none⟩)] w (AnsX b s (.int .u64 ((fx 8 s k e).1 : Int)) (fx 8 s k e).2.1 (fx 8 s k e).2.2 w) := by
  have hf := xfixed_any b s k e 8 w h hk hs (by omega)
  have hv := fx_lt 8 s k e
  generalize fx 8 s k e = q at hf hv ⊢
  obtain ⟨v, K, E⟩ := q
  dsimp only at hf hv ⊢
  go_enter Tryz.func107, Tryz.ntmps107
  go_wp2_with (go_at_call 130; refine hf.mono ?_; rintro e w' ⟨rfl, h1, h2⟩)
  go_ret2
  exact ⟨rfl, h1, h2⟩
set_option maxHeartbeats 1000000 in
set_option maxRecDepth 20000 in
theorem xi32_any (b : Nat) (s : ByteArray) (k e : Nat) (w : World) (h : RX w b s k e) (hk : k ≤ s.size) (hs : s.size ≤ 9223372036854775807) :
    Calls Tryz.prog 108 #[.pointer (some ⟨b, 0, none⟩)] w (AnsX b s (.int .i32 (wrap32 ((fx 4 s k e).1 : Int))) (fx 4 s k e).2.1 (fx 4 s k e).2.2 w) := by
  have hf := xfixed_any b s k e 4 w h hk hs (by omega)
  have hv := fx_lt 4 s k e
  generalize fx 4 s k e = q at hf hv ⊢
  obtain ⟨v, K, E⟩ := q
  dsimp only at hf hv ⊢
  go_enter Tryz.func108, Tryz.ntmps108
  go_wp2_with (go_at_call 130; refine hf.mono ?_; rintro e w' ⟨rfl, h1, h2⟩)
  go_ret2
  exact ⟨rfl, h1, h2⟩
set_option maxHeartbeats 1000000 in
set_option maxRecDepth 20000 in
theorem xi64_any (b : Nat) (s : ByteArray) (k e : Nat) (w : World) (h : RX w b s k e) (hk : k ≤ s.size) (hs : s.size ≤ 9223372036854775807) :
    Calls Tryz.prog 109 #[.pointer (some ⟨b, 0, none⟩)] w (AnsX b s (.int .i64 (wrap64 ((fx 8 s k e).1 : Int))) (fx 8 s k e).2.1 (fx 8 s k e).2.2 w) := by
  have hf := xfixed_any b s k e 8 w h hk hs (by omega)
  have hv := fx_lt 8 s k e
  generalize fx 8 s k e = q at hf hv ⊢
  obtain ⟨v, K, E⟩ := q
  dsimp only at hf hv ⊢
  go_enter Tryz.func109, Tryz.ntmps109
  go_wp2_with (go_at_call 130; refine hf.mono ?_; rintro e w' ⟨rfl, h1, h2⟩)
  go_ret2
  exact ⟨rfl, h1, h2⟩
set_option maxHeartbeats 1000000 in
set_option maxRecDepth 20000 in
theorem xuvarint_any (b : Nat) (s : ByteArray) (k e : Nat) (w : World) (h : RX w b s k e) (hk : k ≤ s.size) (hs : s.size ≤ 9223372036854775807) :
    Calls Tryz.prog 110 #[.pointer (some ⟨b, 0, none⟩)] w (AnsX b s (.int .u64 (uq s k e).1) (uq s k e).2.1 (uq s k e).2.2 w) := by
  have c0 := h.cS
  have c1 := h.cK
  have c2 := h.cE
  have f1 := h.fz 1
  by_cases he : e = 0
  · subst he
    have hz := tl_size s k
    have hrd := fun w' => rread_any (tl s k) w' (by omega)
    have hbd := rd_bds (tl s k)
    by_cases hl : rde (tl s k) = 0
    · rw [uq_ok hl]
      dsimp only
      rw [hl] at hrd
      have hsl : s.extract k s.size = tl s k := rfl
      generalize tl s k = t at *
      obtain ⟨hb1, hb2, hb3⟩ := hbd
      go_enter Tryz.func110, Tryz.ntmps110
      go_wp2_with fail
      go_region_held (fun w' => w'.cell? ⟨b, 0, none⟩ = some (.string s) ∧ w'.cell? ⟨b, 1, none⟩ = some (.int .i64 k) ∧ w'.cell? ⟨b, 2, none⟩ = some (.int .i64 0)) ((refine ⟨?_, ?_, ?_⟩ <;> go_simp)) ((go_at_call 131; refine (hrd _).mono ?_; rintro e w' ⟨rfl, rfl⟩))
      all_goals
        go_wp2
        go_ret2
        exact ⟨rfl, h.drew.setK (k + rdn t), ((Ch.refl _ _).drew).setCell _ _ (fun _ => rfl)⟩
    · rw [uq_bad hl]
      dsimp only
      have hz0 := M.rd_zero (bl (tl s k)) 0 0 hl
      have hv0 : rdv (tl s k) = 0 := hz0.1
      have hn0 : rdn (tl s k) = 0 := hz0.2
      rw [hv0, hn0] at hrd
      have hsl : s.extract k s.size = tl s k := rfl
      generalize tl s k = t at *
      have hne : ((rde t : Int) != 0) = true := by rw [bne_iff_ne]; omega
      clear hl hz0 hv0 hn0 hbd
      go_enter Tryz.func110, Tryz.ntmps110
      go_wp2_with fail
      go_region_held (fun w' => w'.cell? ⟨b, 0, none⟩ = some (.string s) ∧ w'.cell? ⟨b, 1, none⟩ = some (.int .i64 k) ∧ w'.cell? ⟨b, 2, none⟩ = some (.int .i64 0)) ((refine ⟨?_, ?_, ?_⟩ <;> go_simp)) ((go_at_call 131; refine (hrd _).mono ?_; rintro e w' ⟨rfl, rfl⟩))
      all_goals
        go_wp2_with (go_at_call 112; refine (xfail_new b s k (rde t) _ h.drew).mono ?_; rintro e w' ⟨rfl, rfl⟩)
        go_ret2
        exact ⟨rfl, h.drew.setE (rde t), ((Ch.refl _ _).drew).setCell _ _ (fun _ => rfl)⟩
  · rw [uq_stale he]
    dsimp only
    have hne : ((e : Int) != 0) = true := by rw [bne_iff_ne]; omega
    clear he
    go_enter Tryz.func110, Tryz.ntmps110
    go_wp2_with fail
    go_region_held (fun w' => w'.cell? ⟨b, 0, none⟩ = some (.string s) ∧ w'.cell? ⟨b, 1, none⟩ = some (.int .i64 k) ∧ w'.cell? ⟨b, 2, none⟩ = some (.int .i64 e)) ((refine ⟨?_, ?_, ?_⟩ <;> go_simp)) (fail)
    all_goals
      go_wp2
      go_ret2
      exact ⟨rfl, h.drew, (Ch.refl _ _).drew⟩
end Go.Proofs.YtpfaioncaolmjaaGreat
namespace Go.Proofs.YtpfaioncaolmjaaGreat
open Go.RowKit
set_option maxHeartbeats 1000000 in
set_option maxRecDepth 20000 in
theorem xvarint_any (b : Nat) (s : ByteArray) (k e : Nat) (w : World) (h : RX w b s k e) (hk : k ≤ s.size) (hs : s.size ≤ 9223372036854775807) :
    Calls Tryz.prog 111 #[.pointer (some ⟨b, 0, none⟩)] w (AnsX b s (.int .i64 (vq s k e).1) (vq s k e).2.1 (vq s k e).2.2 w) := by
  have hu := xuvarint_any b s k e w h hk hs
  have hb := rd_bds (tl s k)
  by_cases he : e = 0
  · subst he
    by_cases hl : rde (tl s k) = 0
    · rw [uq_ok hl] at hu
      rw [vq_ok hl]
      dsimp only at hu ⊢
      generalize rdv (tl s k) = v at *
      generalize k + rdn (tl s k) = K at *
      obtain ⟨hb1, _, _⟩ := hb
      clear hl
      go_enter Tryz.func111, Tryz.ntmps111
      go_wp2_with (first
        | (go_at_call 110; refine hu.mono ?_; rintro e w' ⟨rfl, h1, h2⟩)
        | (go_at_call 132; refine (ruz_any _ _ (by omega) (by omega)).mono ?_; rintro e w' ⟨rfl, rfl⟩))
      go_ret2
      exact ⟨rfl, h1, h2⟩
    · rw [uq_bad hl] at hu
      rw [vq_bad hl]
      dsimp only at hu ⊢
      generalize rde (tl s k) = E at *
      have hne : ((E : Int) != 0) = true := by rw [bne_iff_ne]; omega
      clear hl hb
      go_enter Tryz.func111, Tryz.ntmps111
      go_wp2_with (go_at_call 110; refine hu.mono ?_; rintro e w' ⟨rfl, h1, h2⟩)
      go_ret2
      exact ⟨rfl, h1, h2⟩
  · rw [uq_stale he] at hu
    rw [vq_stale he]
    dsimp only at hu ⊢
    have hne : ((e : Int) != 0) = true := by rw [bne_iff_ne]; omega
    clear he hb
    go_enter Tryz.func111, Tryz.ntmps111
    go_wp2_with (go_at_call 110; refine hu.mono ?_; rintro e w' ⟨rfl, h1, h2⟩)
    go_ret2
    exact ⟨rfl, h1, h2⟩
set_option maxHeartbeats 1000000 in
set_option maxRecDepth 20000 in
theorem xraw_any (b : Nat) (s : ByteArray) (k e : Nat) (n : Int) (w : World) (h : RX w b s k e) (hk : k ≤ s.size) (hs : s.size ≤ 9223372036854775807) (hm1 : -9223372036854775808 ≤ n) (hm2 : n ≤ 9223372036854775807) :
    Calls Tryz.prog 68 #[.pointer (some ⟨b, 0, none⟩), .int .i64 n] w (AnsX b s (.string (rq n s k e).1) (rq n s k e).2.1 (rq n s k e).2.2 w) := by
  have c0 := h.cS
  have c1 := h.cK
  have c2 := h.cE
  have f1 := h.fz 1
  by_cases he : e = 0
  · subst he
    have tl := xleft_any b s k 0 w h hk hs
    by_cases hn : n < 0
    · rw [rq_range hn]
      dsimp only
      go_enter Tryz.func68, Tryz.ntmps68
      go_wp2_with (go_at_call 112; refine (xfail_new b s k 1 _ h).mono ?_; rintro e w' ⟨rfl, rfl⟩)
      go_ret2
      exact ⟨rfl, h.setE 1, (Ch.refl _ _).setCell _ _ (fun _ => rfl)⟩
    · obtain ⟨N, rfl⟩ : ∃ N : Nat, n = (N : Int) := ⟨n.toNat, by omega⟩
      by_cases hl : k + N ≤ s.size
      · rw [rq_ok hl]
        dsimp only
        have hw : IntKind.i64.wrap ((k : Int) + (N : Int)) = ((k + N : Nat) : Int) := wrapX (by omega) (by omega)
        have hsl : (s.extract k (k + N)) = s.extract k (k + N) := rfl
        go_enter Tryz.func68, Tryz.ntmps68
        go_wp2_with (go_at_call 75; refine tl.mono ?_; rintro e w' ⟨rfl, n1, rfl⟩)
        go_region_held (fun w' => w'.cell? ⟨b, 0, none⟩ = some (.string s) ∧ w'.cell? ⟨b, 1, none⟩ = some (.int .i64 k) ∧ w'.cell? ⟨b, 2, none⟩ = some (.int .i64 0)) ((refine ⟨?_, ?_, ?_⟩ <;> go_simp)) (fail)
        all_goals
          go_wp2
          go_ret2
          exact ⟨by first | rfl | (congr 3), ((h.drewN _).drew).setK (k + N), (((Ch.refl _ _).drewN _).drew).setCell _ _ (fun _ => rfl)⟩
      · rw [rq_short hl]
        dsimp only
        go_enter Tryz.func68, Tryz.ntmps68
        go_wp2_with (first
          | (go_at_call 75; refine tl.mono ?_; rintro e w' ⟨rfl, n1, rfl⟩)
          | (go_at_call 112; refine (xfail_new b s k 20 _ (h.drewN _)).mono ?_; rintro e w' ⟨rfl, rfl⟩))
        go_ret2
        exact ⟨rfl, (h.drewN _).setE 20, ((Ch.refl _ _).drewN _).setCell _ _ (fun _ => rfl)⟩
  · rw [rq_stale he]
    dsimp only
    have hne : ((e : Int) != 0) = true := by rw [bne_iff_ne]; omega
    clear he
    go_enter Tryz.func68, Tryz.ntmps68
    go_wp2_with fail
    go_region_held (fun w' => w'.cell? ⟨b, 0, none⟩ = some (.string s) ∧ w'.cell? ⟨b, 1, none⟩ = some (.int .i64 k) ∧ w'.cell? ⟨b, 2, none⟩ = some (.int .i64 e)) ((refine ⟨?_, ?_, ?_⟩ <;> go_simp)) (fail)
    all_goals
      go_wp2
      go_ret2
      exact ⟨rfl, h.drew, (Ch.refl _ _).drew⟩
end Go.Proofs.YtpfaioncaolmjaaGreat
namespace Go.Proofs.YtpfaioncaolmjaaGreat
open Go.RowKit
set_option maxHeartbeats 1000000 in
set_option maxRecDepth 20000 in
theorem xtext_any (b : Nat) (s : ByteArray) (k e : Nat) (n : Int) (w : World) (h : RX w b s k e) (hk : k ≤ s.size) (hs : s.size ≤ 9223372036854775807) (hm1 : -9223372036854775808 ≤ n) (hm2 : n ≤ 9223372036854775807) :
    Calls Tryz.prog 69 #[.pointer (some ⟨b, 0, none⟩), .int .i64 n] w (AnsX b s (.string (tq n s k e).1) (tq n s k e).2.1 (tq n s k e).2.2 w) := by
  have c1 := h.cK
  have hu := xuvarint_any b s k e w h hk hs
  by_cases he : e = 0
  · subst he
    by_cases hl : rde (tl s k) = 0
    · rw [uq_ok hl] at hu
      have hb := rd_bds (tl s k)
      have hz := tl_size s k
      by_cases hx : ((rdv (tl s k) : Int) ≤ n ∨ rdv (tl s k) = 0) ∧ k + rdn (tl s k) + rdv (tl s k) ≤ s.size
      · rw [tq_ok hl hx]
        dsimp only at hu ⊢
        generalize rdv (tl s k) = v at *
        obtain ⟨hb1, hb2, hb3⟩ := hb
        have hKs : k + rdn (tl s k) ≤ s.size := by omega
        generalize k + rdn (tl s k) = K at *
        clear hl hb2 hb3 hz
        obtain ⟨hx1, hx2⟩ := hx
        by_cases hneg : n < 0
        · have hv0 : v = 0 := by omega
          subst hv0
          have hraw := fun w' h' => xraw_any b s K 0 ((0 : Nat) : Int) w' h' hKs hs (by omega) (by omega)
          rw [rq_ok hx2] at hraw
          dsimp only at hraw
          generalize s.extract K (K + 0) = d at *
          go_enter Tryz.func69, Tryz.ntmps69
          go_wp2_with (first
            | (go_at_call 110; refine hu.mono ?_; rintro e w1 ⟨rfl, h1, h2⟩)
            | (go_at_call 75; refine (xleft_any b s K 0 _ h1 hKs hs).mono ?_; rintro e w2 ⟨rfl, n1, rfl⟩)
            | (fail))
          refine (hraw _ (h1.drewN _)).mono ?_
          rintro e w3 ⟨rfl, h3, h4⟩
          go_wp2
          go_ret2
          exact ⟨rfl, h3, (h2.drewN _).trans h4⟩
        · have hraw := fun w' h' => xraw_any b s K 0 (v : Int) w' h' hKs hs (by omega) (by omega)
          rw [rq_ok hx2] at hraw
          dsimp only at hraw
          go_enter Tryz.func69, Tryz.ntmps69
          go_wp2_with (first
            | (go_at_call 110; refine hu.mono ?_; rintro e w1 ⟨rfl, h1, h2⟩)
            | (go_at_call 75; refine (xleft_any b s K 0 _ h1 hKs hs).mono ?_; rintro e w2 ⟨rfl, n1, rfl⟩)
            | (fail))
          refine (hraw _ (h1.drewN _)).mono ?_
          rintro e w3 ⟨rfl, h3, h4⟩
          go_wp2
          go_ret2
          exact ⟨rfl, h3, (h2.drewN _).trans h4⟩
      · rw [tq_long hl hx]
        dsimp only at hu ⊢
        generalize rdv (tl s k) = v at *
        obtain ⟨hb1, hb2, hb3⟩ := hb
        have hKs : k + rdn (tl s k) ≤ s.size := by omega
        generalize k + rdn (tl s k) = K at *
        clear hl hb2 hb3 hz
        by_cases hf : (v : Int) ≤ n ∨ v = 0
        · have hx2 : s.size < K + v := by omega
          clear hx
          by_cases hneg : n < 0
          · exfalso; omega
          · go_enter Tryz.func69, Tryz.ntmps69
            go_wp2_with (first
              | (go_at_call 110; refine hu.mono ?_; rintro e w1 ⟨rfl, h1, h2⟩)
              | (fail))
            have y1 := h1.cK
            have y2 := h1.fz 1
            refine (xleft_any b s K 0 _ h1 hKs hs).mono ?_
            rintro e w2 ⟨rfl, n1, rfl⟩
            go_wp2_with (go_at_call 112; refine (xfail_new b s k 21 _ ((h1.drewN _).setK k)).mono ?_; rintro e w3 ⟨rfl, rfl⟩)
            go_ret2
            exact ⟨rfl, ((h1.drewN _).setK k).setE 21, ((h2.drewN _).setCell _ _ (fun _ => rfl)).setCell _ _ (fun _ => rfl)⟩
        · have hf1 : n < (v : Int) := by omega
          have hf2 : 0 < v := by omega
          clear hx hf
          by_cases hneg : n < 0
          all_goals
            go_enter Tryz.func69, Tryz.ntmps69
            go_wp2_with fail
            refine hu.mono ?_
            rintro e w1 ⟨rfl, h1, h2⟩
            have y1 := h1.cK
            have y2 := h1.fz 1
            go_wp2_with (go_at_call 112; refine (xfail_new b s k 21 _ (h1.setK k)).mono ?_; rintro e w3 ⟨rfl, rfl⟩)
            go_ret2
            exact ⟨rfl, (h1.setK k).setE 21, (h2.setCell _ _ (fun _ => rfl)).setCell _ _ (fun _ => rfl)⟩
    · rw [uq_bad hl] at hu
      rw [tq_bad hl]
      dsimp only at hu ⊢
      generalize rde (tl s k) = E at *
      have hne : ((E : Int) != 0) = true := by rw [bne_iff_ne]; omega
      clear hl
      go_enter Tryz.func69, Tryz.ntmps69
      go_wp2_with (go_at_call 110; refine hu.mono ?_; rintro e w1 ⟨rfl, h1, h2⟩)
      go_ret2
      exact ⟨rfl, h1, h2⟩
  · rw [uq_stale he] at hu
    rw [tq_stale he]
    dsimp only at hu ⊢
    have hne : ((e : Int) != 0) = true := by rw [bne_iff_ne]; omega
    clear he
    go_enter Tryz.func69, Tryz.ntmps69
    go_wp2_with (go_at_call 110; refine hu.mono ?_; rintro e w1 ⟨rfl, h1, h2⟩)
    go_ret2
    exact ⟨rfl, h1, h2⟩
set_option maxHeartbeats 1000000 in
set_option maxRecDepth 20000 in
theorem xpart_ok (b : Nat) (s : ByteArray) (k : Nat) (n : Int) (w : World) (h : RX w b s k 0) (hk : k ≤ s.size) (hs : s.size ≤ 9223372036854775807) (hm1 : -9223372036854775808 ≤ n) (hm2 : n ≤ 9223372036854775807) (he : (rq n s k 0).2.2 = 0) :
    Calls Tryz.prog 73 #[.pointer (some ⟨b, 0, none⟩), .int .i64 n] w (fun e w' => ∃ q, w.heap.size ≤ q ∧ e = .returned (.tuple #[.pointer (some ⟨q, 0, none⟩), .int .i64 0]) ∧ RX w' q (rq n s k 0).1 0 0 ∧ RX w' b s (rq n s k 0).2.1 0 ∧ Ch (fun i => i = b) w w') := by
  have hr := xraw_any b s k 0 n w h hk hs hm1 hm2
  rw [he] at hr
  generalize (rq n s k 0).1 = t at *
  generalize (rq n s k 0).2.1 = K at *
  clear he
  go_enter Tryz.func73, Tryz.ntmps73
  go_wp2_with (first
    | (go_at_call 68; refine hr.mono ?_; rintro e w1 ⟨rfl, h1, h2⟩)
    | (go_at_call 19; refine (xnew_any _ _).mono ?_; rintro e w2 ⟨rfl, rfl⟩))
  go_ret2
  exact ⟨w1.heap.size, h2.size, rfl, heap_new _ _, h1.alloc _, h2.alloc _⟩
set_option maxHeartbeats 1000000 in
set_option maxRecDepth 20000 in
theorem xpart_no (b : Nat) (s : ByteArray) (k e : Nat) (n : Int) (w : World) (h : RX w b s k e) (hk : k ≤ s.size) (hs : s.size ≤ 9223372036854775807) (hm1 : -9223372036854775808 ≤ n) (hm2 : n ≤ 9223372036854775807) (he : (rq n s k e).2.2 ≠ 0) :
    Calls Tryz.prog 73 #[.pointer (some ⟨b, 0, none⟩), .int .i64 n] w (AnsX b s (.pointer none) (rq n s k e).2.1 (rq n s k e).2.2 w) := by
  have hr := xraw_any b s k e n w h hk hs hm1 hm2
  generalize (rq n s k e).1 = t at *
  generalize (rq n s k e).2.1 = K at *
  generalize (rq n s k e).2.2 = E at *
  have hne : ((E : Int) != 0) = true := by rw [bne_iff_ne]; omega
  clear he
  go_enter Tryz.func73, Tryz.ntmps73
  go_wp2_with (first
    | (go_at_call 68; refine hr.mono ?_; rintro e w1 ⟨rfl, h1, h2⟩))
  go_ret2
  exact ⟨rfl, h1, h2⟩
end Go.Proofs.YtpfaioncaolmjaaGreat
namespace Go.Proofs.YtpfaioncaolmjaaGreat
open Go.RowKit
set_option maxHeartbeats 2000000 in
set_option maxRecDepth 20000 in
theorem xopt_err (b : Nat) (s : ByteArray) (k e K E : Nat) (u n : Int) (w : World) (h : RX w b s k e) (hE : E ≠ 0)
    (hu : ∀ w', RX w' b s k e → Calls Tryz.prog 111 #[.pointer (some ⟨b, 0, none⟩)] w' (AnsX b s (.int .i64 u) K E w')) :
    Calls Tryz.prog 70 #[.pointer (some ⟨b, 0, none⟩), .int .i64 n] w (AnsX b s (.agg #[.bool false, .string ⟨#[]⟩]) K E w) := by
  have hne : ((E : Int) != 0) = true := by rw [bne_iff_ne]; omega
  clear hE
  have c1 := (h.alloc (.cells #[.bool false, .string ⟨#[]⟩] 76)).cK
  have l0 := h.lt
  have d1 : b ≠ w.heap.size := by omega
  have d2 : w.heap.size ≠ b := by omega
  go_enter Tryz.func70, Tryz.ntmps70
  go_wp2_with fail
  refine (hu _ (h.alloc _)).mono ?_
  rintro e w1 ⟨rfl, h1, h2⟩
  have gv : w1.heap[w.heap.size]? = some (.cells #[.bool false, .string ⟨#[]⟩] 76 (0, 0)) := (h2.block _ (by simp) (by omega)).trans (heap_new _ _)
  have y3 : w1.cell? ⟨w.heap.size, 0, none⟩ = some (.bool false) := (cell_of gv).trans rfl
  have y4 : w1.cell? ⟨w.heap.size, 1, none⟩ = some (.string ⟨#[]⟩) := (cell_of gv).trans rfl
  have y5 := froz_of (i := 0) gv
  have y6 := froz_of (i := 1) gv
  have HV := Hid.mk gv
  have hlv := lt_of_heap gv
  clear gv
  go_wp2
  have c7 : ((w1.setCell ⟨w.heap.size, 0, none⟩ (.bool false)).setCell ⟨w.heap.size, 1, none⟩ (.string ⟨#[]⟩)).cell? ⟨w.heap.size, 0, none⟩ = some (.bool false) := (cell_of (heap_set (heap_set HV.out))).trans rfl
  have c8 : ((w1.setCell ⟨w.heap.size, 0, none⟩ (.bool false)).setCell ⟨w.heap.size, 1, none⟩ (.string ⟨#[]⟩)).cell? ⟨w.heap.size, 1, none⟩ = some (.string ⟨#[]⟩) := (cell_of (heap_set (heap_set HV.out))).trans rfl
  exact bodyPost_ret (v := .tuple #[.agg #[.bool false, .string ⟨#[]⟩], .int .i64 E]) (by simp [results, Tryz.results70, go_sem, c7, c8]) rfl ⟨rfl, ((h1.far _ d1).far _ d1), ((((Ch.refl _ _).alloc _).trans h2).setCell _ _ (fun h => absurd h (by simp))).setCell _ _ (fun h => absurd h (by simp))⟩
set_option maxHeartbeats 2000000 in
set_option maxRecDepth 20000 in
theorem xopt_null (b : Nat) (s : ByteArray) (k K : Nat) (n : Int) (w : World) (h : RX w b s k 0)
    (hu : ∀ w', RX w' b s k 0 → Calls Tryz.prog 111 #[.pointer (some ⟨b, 0, none⟩)] w' (AnsX b s (.int .i64 (-1)) K 0 w')) :
    Calls Tryz.prog 70 #[.pointer (some ⟨b, 0, none⟩), .int .i64 n] w (AnsX b s (.agg #[.bool false, .string ⟨#[]⟩]) K 0 w) := by
  have c1 := (h.alloc (.cells #[.bool false, .string ⟨#[]⟩] 76)).cK
  have l0 := h.lt
  have d1 : b ≠ w.heap.size := by omega
  have d2 : w.heap.size ≠ b := by omega
  go_enter Tryz.func70, Tryz.ntmps70
  go_wp2_with fail
  refine (hu _ (h.alloc _)).mono ?_
  rintro e w1 ⟨rfl, h1, h2⟩
  have gv : w1.heap[w.heap.size]? = some (.cells #[.bool false, .string ⟨#[]⟩] 76 (0, 0)) := (h2.block _ (by simp) (by omega)).trans (heap_new _ _)
  have y3 : w1.cell? ⟨w.heap.size, 0, none⟩ = some (.bool false) := (cell_of gv).trans rfl
  have y4 : w1.cell? ⟨w.heap.size, 1, none⟩ = some (.string ⟨#[]⟩) := (cell_of gv).trans rfl
  have y5 := froz_of (i := 0) gv
  have y6 := froz_of (i := 1) gv
  have HV := Hid.mk gv
  have hlv := lt_of_heap gv
  clear gv
  go_wp2
  have c7 : ((w1.setCell ⟨w.heap.size, 0, none⟩ (.bool false)).setCell ⟨w.heap.size, 1, none⟩ (.string ⟨#[]⟩)).cell? ⟨w.heap.size, 0, none⟩ = some (.bool false) := (cell_of (heap_set (heap_set HV.out))).trans rfl
  have c8 : ((w1.setCell ⟨w.heap.size, 0, none⟩ (.bool false)).setCell ⟨w.heap.size, 1, none⟩ (.string ⟨#[]⟩)).cell? ⟨w.heap.size, 1, none⟩ = some (.string ⟨#[]⟩) := (cell_of (heap_set (heap_set HV.out))).trans rfl
  exact bodyPost_ret (v := .tuple #[.agg #[.bool false, .string ⟨#[]⟩], .int .i64 0]) (by simp [results, Tryz.results70, go_sem, c7, c8]) rfl ⟨rfl, ((h1.far _ d1).far _ d1), ((((Ch.refl _ _).alloc _).trans h2).setCell _ _ (fun h => absurd h (by simp))).setCell _ _ (fun h => absurd h (by simp))⟩
set_option maxHeartbeats 2000000 in
set_option maxRecDepth 20000 in
theorem xopt_neg (b : Nat) (s : ByteArray) (k K : Nat) (u n : Int) (w : World) (h : RX w b s k 0) (hm1 : -9223372036854775808 ≤ n) (hm2 : n ≤ 9223372036854775807) (hu1 : -9223372036854775808 ≤ u) (hu2 : u ≤ 9223372036854775807)
    (hu : ∀ w', RX w' b s k 0 → Calls Tryz.prog 111 #[.pointer (some ⟨b, 0, none⟩)] w' (AnsX b s (.int .i64 u) K 0 w')) (hn : u < -1) :
    Calls Tryz.prog 70 #[.pointer (some ⟨b, 0, none⟩), .int .i64 n] w (AnsX b s (.agg #[.bool false, .string ⟨#[]⟩]) k 21 w) := by
  have hne : (u == -1) = false := by rw [beq_eq_false_iff_ne]; omega
  have c1 := (h.alloc (.cells #[.bool false, .string ⟨#[]⟩] 76)).cK
  have l0 := h.lt
  have d1 : b ≠ w.heap.size := by omega
  have d2 : w.heap.size ≠ b := by omega
  by_cases hneg : n < 0
  all_goals
    go_enter Tryz.func70, Tryz.ntmps70
    go_wp2_with fail
    refine (hu _ (h.alloc _)).mono ?_
    rintro e w1 ⟨rfl, h1, h2⟩
    have gv : w1.heap[w.heap.size]? = some (.cells #[.bool false, .string ⟨#[]⟩] 76 (0, 0)) := (h2.block _ (by simp) (by omega)).trans (heap_new _ _)
    have y3 : w1.cell? ⟨w.heap.size, 0, none⟩ = some (.bool false) := (cell_of gv).trans rfl
    have y4 : w1.cell? ⟨w.heap.size, 1, none⟩ = some (.string ⟨#[]⟩) := (cell_of gv).trans rfl
    have y5 := froz_of (i := 0) gv
    have y6 := froz_of (i := 1) gv
    have HV := Hid.mk gv
    have hlv := lt_of_heap gv
    clear gv
    have y1 := h1.cK
    have y2 := h1.fz 1
    have y7 := h1.fz 2
    have hx := (h1.setK k)
    go_wp2_with (go_at_call 112; refine (xfail_new b s k 21 _ hx).mono ?_; rintro e w3 ⟨rfl, rfl⟩)
    have gv2 : ((w1.setCell ⟨b, 1, none⟩ (.int .i64 k)).setCell ⟨b, 2, none⟩ (.int .i64 21)).heap[w.heap.size]? = some (.cells #[.bool false, .string ⟨#[]⟩] 76 (0, 0)) := heap_set_far (heap_set_far HV.out d2) d2
    have c7 : ((((w1.setCell ⟨b, 1, none⟩ (.int .i64 k)).setCell ⟨b, 2, none⟩ (.int .i64 21)).setCell ⟨w.heap.size, 0, none⟩ (.bool false)).setCell ⟨w.heap.size, 1, none⟩ (.string ⟨#[]⟩)).cell? ⟨w.heap.size, 0, none⟩ = some (.bool false) := (cell_of (heap_set (heap_set gv2))).trans rfl
    have c8 : ((((w1.setCell ⟨b, 1, none⟩ (.int .i64 k)).setCell ⟨b, 2, none⟩ (.int .i64 21)).setCell ⟨w.heap.size, 0, none⟩ (.bool false)).setCell ⟨w.heap.size, 1, none⟩ (.string ⟨#[]⟩)).cell? ⟨w.heap.size, 1, none⟩ = some (.string ⟨#[]⟩) := (cell_of (heap_set (heap_set gv2))).trans rfl
    exact bodyPost_ret (v := .tuple #[.agg #[.bool false, .string ⟨#[]⟩], .int .i64 21]) (by simp [results, Tryz.results70, go_sem, c7, c8]) rfl ⟨rfl, (((hx.setE 21).far _ d1).far _ d1), ((((Ch.refl _ _).alloc _).trans ((h2.setCell ⟨b, 1, none⟩ (.int .i64 k) (fun _ => rfl)).setCell ⟨b, 2, none⟩ (.int .i64 21) (fun _ => rfl))).setCell _ _ (fun h => absurd h (by simp))).setCell _ _ (fun h => absurd h (by simp))⟩
set_option maxHeartbeats 2000000 in
set_option maxRecDepth 20000 in
theorem xopt_long1 (b : Nat) (s : ByteArray) (k K : Nat) (u n : Int) (w : World) (h : RX w b s k 0) (hm1 : -9223372036854775808 ≤ n) (hm2 : n ≤ 9223372036854775807) (hu1 : -9223372036854775808 ≤ u) (hu2 : u ≤ 9223372036854775807)
    (hu : ∀ w', RX w' b s k 0 → Calls Tryz.prog 111 #[.pointer (some ⟨b, 0, none⟩)] w' (AnsX b s (.int .i64 u) K 0 w')) (hn : n < u) (hn0 : 0 < u) :
    Calls Tryz.prog 70 #[.pointer (some ⟨b, 0, none⟩), .int .i64 n] w (AnsX b s (.agg #[.bool false, .string ⟨#[]⟩]) k 21 w) := by
  have hne : (u == -1) = false := by rw [beq_eq_false_iff_ne]; omega
  have c1 := (h.alloc (.cells #[.bool false, .string ⟨#[]⟩] 76)).cK
  have l0 := h.lt
  have d1 : b ≠ w.heap.size := by omega
  have d2 : w.heap.size ≠ b := by omega
  by_cases hneg : n < 0
  all_goals
    go_enter Tryz.func70, Tryz.ntmps70
    go_wp2_with fail
    refine (hu _ (h.alloc _)).mono ?_
    rintro e w1 ⟨rfl, h1, h2⟩
    have gv : w1.heap[w.heap.size]? = some (.cells #[.bool false, .string ⟨#[]⟩] 76 (0, 0)) := (h2.block _ (by simp) (by omega)).trans (heap_new _ _)
    have y3 : w1.cell? ⟨w.heap.size, 0, none⟩ = some (.bool false) := (cell_of gv).trans rfl
    have y4 : w1.cell? ⟨w.heap.size, 1, none⟩ = some (.string ⟨#[]⟩) := (cell_of gv).trans rfl
    have y5 := froz_of (i := 0) gv
    have y6 := froz_of (i := 1) gv
    have HV := Hid.mk gv
    have hlv := lt_of_heap gv
    clear gv
    have y1 := h1.cK
    have y2 := h1.fz 1
    have y7 := h1.fz 2
    have hx := (h1.setK k)
    go_wp2_with (go_at_call 112; refine (xfail_new b s k 21 _ hx).mono ?_; rintro e w3 ⟨rfl, rfl⟩)
    have gv2 : ((w1.setCell ⟨b, 1, none⟩ (.int .i64 k)).setCell ⟨b, 2, none⟩ (.int .i64 21)).heap[w.heap.size]? = some (.cells #[.bool false, .string ⟨#[]⟩] 76 (0, 0)) := heap_set_far (heap_set_far HV.out d2) d2
    have c7 : ((((w1.setCell ⟨b, 1, none⟩ (.int .i64 k)).setCell ⟨b, 2, none⟩ (.int .i64 21)).setCell ⟨w.heap.size, 0, none⟩ (.bool false)).setCell ⟨w.heap.size, 1, none⟩ (.string ⟨#[]⟩)).cell? ⟨w.heap.size, 0, none⟩ = some (.bool false) := (cell_of (heap_set (heap_set gv2))).trans rfl
    have c8 : ((((w1.setCell ⟨b, 1, none⟩ (.int .i64 k)).setCell ⟨b, 2, none⟩ (.int .i64 21)).setCell ⟨w.heap.size, 0, none⟩ (.bool false)).setCell ⟨w.heap.size, 1, none⟩ (.string ⟨#[]⟩)).cell? ⟨w.heap.size, 1, none⟩ = some (.string ⟨#[]⟩) := (cell_of (heap_set (heap_set gv2))).trans rfl
    exact bodyPost_ret (v := .tuple #[.agg #[.bool false, .string ⟨#[]⟩], .int .i64 21]) (by simp [results, Tryz.results70, go_sem, c7, c8]) rfl ⟨rfl, (((hx.setE 21).far _ d1).far _ d1), ((((Ch.refl _ _).alloc _).trans ((h2.setCell ⟨b, 1, none⟩ (.int .i64 k) (fun _ => rfl)).setCell ⟨b, 2, none⟩ (.int .i64 21) (fun _ => rfl))).setCell _ _ (fun h => absurd h (by simp))).setCell _ _ (fun h => absurd h (by simp))⟩
set_option maxHeartbeats 2000000 in
set_option maxRecDepth 20000 in
theorem xopt_long2 (b : Nat) (s : ByteArray) (k K : Nat) (u n : Int) (w : World) (h : RX w b s k 0) (hKs : K ≤ s.size) (hs : s.size ≤ 9223372036854775807) (hm1 : -9223372036854775808 ≤ n) (hm2 : n ≤ 9223372036854775807) (hu1 : -9223372036854775808 ≤ u) (hu2 : u ≤ 9223372036854775807)
    (hu : ∀ w', RX w' b s k 0 → Calls Tryz.prog 111 #[.pointer (some ⟨b, 0, none⟩)] w' (AnsX b s (.int .i64 u) K 0 w')) (hn : u ≤ n ∨ u = 0) (hn0 : 0 ≤ u) (hl : (s.size : Int) - K < u) :
    Calls Tryz.prog 70 #[.pointer (some ⟨b, 0, none⟩), .int .i64 n] w (AnsX b s (.agg #[.bool false, .string ⟨#[]⟩]) k 21 w) := by
  have hneg : ¬ n < 0 := by omega
  have hne : (u == -1) = false := by rw [beq_eq_false_iff_ne]; omega
  have c1 := (h.alloc (.cells #[.bool false, .string ⟨#[]⟩] 76)).cK
  have l0 := h.lt
  have d1 : b ≠ w.heap.size := by omega
  have d2 : w.heap.size ≠ b := by omega
  go_enter Tryz.func70, Tryz.ntmps70
  go_wp2_with fail
  refine (hu _ (h.alloc _)).mono ?_
  rintro e w1 ⟨rfl, h1, h2⟩
  have gv : w1.heap[w.heap.size]? = some (.cells #[.bool false, .string ⟨#[]⟩] 76 (0, 0)) := (h2.block _ (by simp) (by omega)).trans (heap_new _ _)
  have y3 : w1.cell? ⟨w.heap.size, 0, none⟩ = some (.bool false) := (cell_of gv).trans rfl
  have y4 : w1.cell? ⟨w.heap.size, 1, none⟩ = some (.string ⟨#[]⟩) := (cell_of gv).trans rfl
  have y5 := froz_of (i := 0) gv
  have y6 := froz_of (i := 1) gv
  have HV := Hid.mk gv
  have hlv := lt_of_heap gv
  clear gv
  have y1 := h1.cK
  have y2 := h1.fz 1
  have y7 := h1.fz 2
  go_wp2_with fail
  refine (xleft_any b s K 0 _ h1 hKs hs).mono ?_
  rintro e w2 ⟨rfl, n1, rfl⟩
  have hx := ((h1.drewN n1).setK k)
  go_wp2_with (go_at_call 112; refine (xfail_new b s k 21 _ hx).mono ?_; rintro e w3 ⟨rfl, rfl⟩)
  have gv2 : (((w1.drewN n1).setCell ⟨b, 1, none⟩ (.int .i64 k)).setCell ⟨b, 2, none⟩ (.int .i64 21)).heap[w.heap.size]? = some (.cells #[.bool false, .string ⟨#[]⟩] 76 (0, 0)) := heap_set_far (heap_set_far HV.out d2) d2
  have c7 : (((((w1.drewN n1).setCell ⟨b, 1, none⟩ (.int .i64 k)).setCell ⟨b, 2, none⟩ (.int .i64 21)).setCell ⟨w.heap.size, 0, none⟩ (.bool false)).setCell ⟨w.heap.size, 1, none⟩ (.string ⟨#[]⟩)).cell? ⟨w.heap.size, 0, none⟩ = some (.bool false) := (cell_of (heap_set (heap_set gv2))).trans rfl
  have c8 : (((((w1.drewN n1).setCell ⟨b, 1, none⟩ (.int .i64 k)).setCell ⟨b, 2, none⟩ (.int .i64 21)).setCell ⟨w.heap.size, 0, none⟩ (.bool false)).setCell ⟨w.heap.size, 1, none⟩ (.string ⟨#[]⟩)).cell? ⟨w.heap.size, 1, none⟩ = some (.string ⟨#[]⟩) := (cell_of (heap_set (heap_set gv2))).trans rfl
  exact bodyPost_ret (v := .tuple #[.agg #[.bool false, .string ⟨#[]⟩], .int .i64 21]) (by simp [results, Tryz.results70, go_sem, c7, c8]) rfl ⟨rfl, (((hx.setE 21).far _ d1).far _ d1), ((((Ch.refl _ _).alloc _).trans (((h2.drewN n1).setCell ⟨b, 1, none⟩ (.int .i64 k) (fun _ => rfl)).setCell ⟨b, 2, none⟩ (.int .i64 21) (fun _ => rfl))).setCell _ _ (fun h => absurd h (by simp))).setCell _ _ (fun h => absurd h (by simp))⟩
set_option maxHeartbeats 2000000 in
set_option maxRecDepth 20000 in
theorem xopt_ok (b : Nat) (s : ByteArray) (k K N : Nat) (n : Int) (w : World) (h : RX w b s k 0) (hs : s.size ≤ 9223372036854775807) (hm1 : -9223372036854775808 ≤ n) (hm2 : n ≤ 9223372036854775807)
    (hu : ∀ w', RX w' b s k 0 → Calls Tryz.prog 111 #[.pointer (some ⟨b, 0, none⟩)] w' (AnsX b s (.int .i64 N) K 0 w')) (hn : (N : Int) ≤ n ∨ N = 0) (hl : K + N ≤ s.size) :
    Calls Tryz.prog 70 #[.pointer (some ⟨b, 0, none⟩), .int .i64 n] w (AnsX b s (.agg #[.bool true, .string (s.extract K (K + N))]) (K + N) 0 w) := by
  have hKs : K ≤ s.size := by omega
  have hne : ((N : Int) == -1) = false := by rw [beq_eq_false_iff_ne]; omega
  have c1 := (h.alloc (.cells #[.bool false, .string ⟨#[]⟩] 76)).cK
  have l0 := h.lt
  have d1 : b ≠ w.heap.size := by omega
  have d2 : w.heap.size ≠ b := by omega
  by_cases hneg : n < 0
  · have hN0 : N = 0 := by omega
    subst hN0
    have hraw := fun w' h' => xraw_any b s K 0 (((0 : Nat) : Int) : Int) w' h' hKs hs (by omega) (by omega)
    rw [rq_ok (by omega)] at hraw
    dsimp only at hraw
    generalize s.extract K (K + 0) = d at *
    go_enter Tryz.func70, Tryz.ntmps70
    go_wp2_with fail
    refine (hu _ (h.alloc _)).mono ?_
    rintro e w1 ⟨rfl, h1, h2⟩
    have gv : w1.heap[w.heap.size]? = some (.cells #[.bool false, .string ⟨#[]⟩] 76 (0, 0)) := (h2.block _ (by simp) (by omega)).trans (heap_new _ _)
    have y3 : w1.cell? ⟨w.heap.size, 0, none⟩ = some (.bool false) := (cell_of gv).trans rfl
    have y4 : w1.cell? ⟨w.heap.size, 1, none⟩ = some (.string ⟨#[]⟩) := (cell_of gv).trans rfl
    have y5 := froz_of (i := 0) gv
    have y6 := froz_of (i := 1) gv
    have HV := Hid.mk gv
    have hlv := lt_of_heap gv
    clear gv
    go_wp2_with fail
    refine (xleft_any b s K 0 _ h1 hKs hs).mono ?_
    rintro e w2 ⟨rfl, n1, rfl⟩
    go_wp2_with fail
    refine (hraw _ (h1.drewN _)).mono ?_
    rintro e w3 ⟨rfl, h3, h4⟩
    have gv3 : w3.heap[w.heap.size]? = some (.cells #[.bool false, .string ⟨#[]⟩] 76 (0, 0)) := (h4.block _ hlv d2).trans HV.out
    have z3 : w3.cell? ⟨w.heap.size, 0, none⟩ = some (.bool false) := (cell_of gv3).trans rfl
    have z4 : w3.cell? ⟨w.heap.size, 1, none⟩ = some (.string ⟨#[]⟩) := (cell_of gv3).trans rfl
    have z5 := froz_of (i := 0) gv3
    have z6 := froz_of (i := 1) gv3
    have HV3 := Hid.mk gv3
    clear gv3
    go_wp2
    have c7 : ((w3.setCell ⟨w.heap.size, 0, none⟩ (.bool true)).setCell ⟨w.heap.size, 1, none⟩ (.string d)).cell? ⟨w.heap.size, 0, none⟩ = some (.bool true) := (cell_of (heap_set (heap_set HV3.out))).trans rfl
    have c8 : ((w3.setCell ⟨w.heap.size, 0, none⟩ (.bool true)).setCell ⟨w.heap.size, 1, none⟩ (.string d)).cell? ⟨w.heap.size, 1, none⟩ = some (.string d) := (cell_of (heap_set (heap_set HV3.out))).trans rfl
    exact bodyPost_ret (v := .tuple #[.agg #[.bool true, .string d], .int .i64 0]) (by simp [results, Tryz.results70, go_sem, c7, c8]) rfl ⟨rfl, ((h3.far _ d1).far _ d1), ((((Ch.refl _ _).alloc _).trans ((h2.drewN _).trans h4)).setCell _ _ (fun h => absurd h (by simp))).setCell _ _ (fun h => absurd h (by simp))⟩
  · have hraw := fun w' h' => xraw_any b s K 0 (N : Int) w' h' hKs hs (by omega) (by omega)
    rw [rq_ok (by omega)] at hraw
    dsimp only at hraw
    generalize s.extract K (K + N) = d at *
    go_enter Tryz.func70, Tryz.ntmps70
    go_wp2_with fail
    refine (hu _ (h.alloc _)).mono ?_
    rintro e w1 ⟨rfl, h1, h2⟩
    have gv : w1.heap[w.heap.size]? = some (.cells #[.bool false, .string ⟨#[]⟩] 76 (0, 0)) := (h2.block _ (by simp) (by omega)).trans (heap_new _ _)
    have y3 : w1.cell? ⟨w.heap.size, 0, none⟩ = some (.bool false) := (cell_of gv).trans rfl
    have y4 : w1.cell? ⟨w.heap.size, 1, none⟩ = some (.string ⟨#[]⟩) := (cell_of gv).trans rfl
    have y5 := froz_of (i := 0) gv
    have y6 := froz_of (i := 1) gv
    have HV := Hid.mk gv
    have hlv := lt_of_heap gv
    clear gv
    go_wp2_with fail
    refine (xleft_any b s K 0 _ h1 hKs hs).mono ?_
    rintro e w2 ⟨rfl, n1, rfl⟩
    go_wp2_with fail
    refine (hraw _ (h1.drewN _)).mono ?_
    rintro e w3 ⟨rfl, h3, h4⟩
    have gv3 : w3.heap[w.heap.size]? = some (.cells #[.bool false, .string ⟨#[]⟩] 76 (0, 0)) := (h4.block _ hlv d2).trans HV.out
    have z3 : w3.cell? ⟨w.heap.size, 0, none⟩ = some (.bool false) := (cell_of gv3).trans rfl
    have z4 : w3.cell? ⟨w.heap.size, 1, none⟩ = some (.string ⟨#[]⟩) := (cell_of gv3).trans rfl
    have z5 := froz_of (i := 0) gv3
    have z6 := froz_of (i := 1) gv3
    have HV3 := Hid.mk gv3
    clear gv3
    go_wp2
    have c7 : ((w3.setCell ⟨w.heap.size, 0, none⟩ (.bool true)).setCell ⟨w.heap.size, 1, none⟩ (.string d)).cell? ⟨w.heap.size, 0, none⟩ = some (.bool true) := (cell_of (heap_set (heap_set HV3.out))).trans rfl
    have c8 : ((w3.setCell ⟨w.heap.size, 0, none⟩ (.bool true)).setCell ⟨w.heap.size, 1, none⟩ (.string d)).cell? ⟨w.heap.size, 1, none⟩ = some (.string d) := (cell_of (heap_set (heap_set HV3.out))).trans rfl
    exact bodyPost_ret (v := .tuple #[.agg #[.bool true, .string d], .int .i64 0]) (by simp [results, Tryz.results70, go_sem, c7, c8]) rfl ⟨rfl, ((h3.far _ d1).far _ d1), ((((Ch.refl _ _).alloc _).trans ((h2.drewN _).trans h4)).setCell _ _ (fun h => absurd h (by simp))).setCell _ _ (fun h => absurd h (by simp))⟩
/-- The whole. -/
theorem xopt_any (b : Nat) (s : ByteArray) (k e : Nat) (n : Int) (w : World) (h : RX w b s k e) (hk : k ≤ s.size) (hs : s.size ≤ 9223372036854775807) (hm1 : -9223372036854775808 ≤ n) (hm2 : n ≤ 9223372036854775807) :
    Calls Tryz.prog 70 #[.pointer (some ⟨b, 0, none⟩), .int .i64 n] w (AnsX b s (.agg #[.bool (oq n s k e).1, .string (oq n s k e).2.1]) (oq n s k e).2.2.1 (oq n s k e).2.2.2 w) := by
  have hu := fun w' h' => xvarint_any b s k e w' h' hk hs
  by_cases he : e = 0
  · subst he
    by_cases hl : rde (tl s k) = 0
    · rw [vq_ok hl] at hu
      have hb := rd_bds (tl s k)
      have hz := tl_size s k
      have hub := M.uz_bd (u := (rdv (tl s k) : Int)) (by omega) hb.1
      have hKs : k + rdn (tl s k) ≤ s.size := by omega
      by_cases hz1 : M.uz (rdv (tl s k)) = -1
      · rw [oq_null hl hz1]
        rw [hz1] at hu
        exact xopt_null b s k _ n w h hu
      · by_cases hx : 0 ≤ M.uz (rdv (tl s k)) ∧ (M.uz (rdv (tl s k)) ≤ n ∨ M.uz (rdv (tl s k)) = 0) ∧ k + rdn (tl s k) + (M.uz (rdv (tl s k))).toNat ≤ s.size
        · obtain ⟨N, hN⟩ : ∃ N : Nat, M.uz (rdv (tl s k)) = (N : Int) := ⟨(M.uz (rdv (tl s k))).toNat, by omega⟩
          rw [hN] at hx hu
          rw [oq_ok hl hN (by omega) (by omega)]
          exact xopt_ok b s k _ N n w h hs hm1 hm2 hu (by omega) (by omega)
        · rw [oq_long hl hz1 hx]
          dsimp only at hu ⊢
          by_cases h0 : 0 ≤ M.uz (rdv (tl s k))
          · by_cases hf : M.uz (rdv (tl s k)) ≤ n ∨ M.uz (rdv (tl s k)) = 0
            · exact xopt_long2 b s k _ _ n w h hKs hs hm1 hm2 hub.1 hub.2 hu hf h0 (by omega)
            · exact xopt_long1 b s k _ _ n w h hm1 hm2 hub.1 hub.2 hu (by omega) (by omega)
          · exact xopt_neg b s k _ _ n w h hm1 hm2 hub.1 hub.2 hu (by omega)
    · rw [vq_bad hl] at hu
      rw [oq_bad hl]
      exact xopt_err b s k 0 k _ _ n w h hl hu
  · rw [vq_stale he] at hu
    rw [oq_stale he]
    exact xopt_err b s k e k e _ n w h he hu
end Go.Proofs.YtpfaioncaolmjaaGreat
