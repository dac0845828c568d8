/- Texts of the proof, put together: RX, RX2, RX3, RX4, RX5, XRd, XHd, XRe. -/
import Derived.Test.YtihokphamgkkcaaGreatSays
import Derived.Deep.QuietTactic
import Derived.BigQuiet
import Derived.Deep.RegionHeld
import Derived.Test.YtihokphamgkkcaaGreatMRd
import Derived.Deep.RegionHeld3
namespace Go.Proofs.YtihokphamgkkcaaGreat
open Go.RowKit
/-- The document's reader: its bytes, where it stands, its error. -/
def RX (w : World) (b : Nat) (s : ByteArray) (k e : Nat) : Prop := w.heap[b]? = some (.cells #[.string s, .int .i64 k, .int .i64 e] 238 (0, 0))
theorem RX.cK {w : World} {b : Nat} {s : ByteArray} {k e : Nat} (h : RX w b s k e) : w.cell? ⟨b, 1, none⟩ = some (.int .i64 k) := (cell_of h).trans rfl
theorem RX.cS {w : World} {b : Nat} {s : ByteArray} {k e : Nat} (h : RX w b s k e) : w.cell? ⟨b, 0, none⟩ = some (.string s) := (cell_of h).trans rfl
theorem RX.cE {w : World} {b : Nat} {s : ByteArray} {k e : Nat} (h : RX w b s k e) : w.cell? ⟨b, 2, none⟩ = some (.int .i64 e) := (cell_of h).trans rfl
theorem RX.fz {w : World} {b : Nat} {s : ByteArray} {k e : Nat} (h : RX w b s k e) (i : Nat) : w.frozen? ⟨b, i, none⟩ = false := froz_of h
theorem RX.lt {w : World} {b : Nat} {s : ByteArray} {k e : Nat} (h : RX w b s k e) : b < w.heap.size := lt_of_heap h
theorem RX.setK {w : World} {b : Nat} {s : ByteArray} {k e : Nat} (h : RX w b s k e) (k' : Nat) : RX (w.setCell ⟨b, 1, none⟩ (.int .i64 k')) b s k' e := heap_set h
theorem RX.setE {w : World} {b : Nat} {s : ByteArray} {k e : Nat} (h : RX w b s k e) (e' : Nat) : RX (w.setCell ⟨b, 2, none⟩ (.int .i64 e')) b s k e' := heap_set h
theorem RX.far {w : World} {b : Nat} {s : ByteArray} {k e : Nat} (h : RX w b s k e) {p : Addr} (v : Value) (hp : b ≠ p.block) : RX (w.setCell p v) b s k e := heap_set_far h hp
theorem RX.alloc {w : World} {b : Nat} {s : ByteArray} {k e : Nat} (h : RX w b s k e) (o : Obj) : RX (w.alloc o) b s k e := heap_alloc_at h
theorem RX.drew {w : World} {b : Nat} {s : ByteArray} {k e : Nat} (h : RX w b s k e) : RX w.drew b s k e := h
theorem RX.drewN {w : World} {b : Nat} {s : ByteArray} {k e : Nat} (h : RX w b s k e) (n : Nat) : RX (w.drewN n) b s k e := h
theorem RX.ch {S : Nat → Prop} {w w' : World} {b : Nat} {s : ByteArray} {k e : Nat} (h : RX w b s k e) (hc : Ch S w w') (hS : ¬ S b) : RX w' b s k e := (hc.block b h.lt hS).trans h
theorem RX.below {w w' : World} {b : Nat} {s : ByteArray} {k e B : Nat} (h : RX w b s k e) (hc : Below B w w') (hB : b < B) : RX w' b s k e := (hc.block b hB).trans h
/-- What Done answers. -/
def dqx (s : ByteArray) (k e : Nat) : Nat := if e = 0 ∧ k < s.size then 22 else e
/-- What a call of the document's reader answers, and how it stands behind it. -/
def AnsX (b : Nat) (s : ByteArray) (v : Value) (k' e' : Nat) (w : World) (e : Ending) (w' : World) : Prop := e = .returned (.tuple #[v, .int .i64 e']) ∧ RX w' b s k' e' ∧ Ch (fun i => i = b) w w'
theorem xnew_any (s : ByteArray) (w : World) :
    Calls Tryz.prog 151 #[.string s] w fun e w' => e = .returned (.pointer (some ⟨w.heap.size, 0, none⟩)) ∧ w' = w.alloc (.cells #[.string s, .int .i64 0, .int .i64 0] 238) := by
  go_enter Tryz.func151, Tryz.ntmps151
  go_wp2
  go_ret
  exact ⟨rfl, rfl⟩
theorem xat_any (b : Nat) (s : ByteArray) (k e : Nat) (w : World) (h : RX w b s k e) :
    Calls Tryz.prog 158 #[.pointer (some ⟨b, 0, none⟩)] w fun r w' => r = .returned (.int .i64 k) ∧ w' = w := by
  have c := h.cK
  go_enter Tryz.func158, Tryz.ntmps158
  go_wp2
  go_ret
  exact ⟨rfl, rfl⟩
theorem xleft_any (b : Nat) (s : ByteArray) (k e : Nat) (w : World) (h : RX w b s k e) (hk : k ≤ s.size) (hs : s.size ≤ 9223372036854775807) :
    Calls Tryz.prog 153 #[.pointer (some ⟨b, 0, none⟩)] w fun r w' => r = .returned (.int .i64 ((s.size : Int) - k)) ∧ ∃ n, w' = w.drewN n := by
  have c0 := h.cS
  have c1 := h.cK
  go_enter Tryz.func153, Tryz.ntmps153
  go_wp2
  go_quiet (fail)
  go_wp2
  go_ret
  exact ⟨rfl, _, rfl⟩
theorem xfail_new (b : Nat) (s : ByteArray) (k E : Nat) (w : World) (h : RX w b s k 0) :
    Calls Tryz.prog 190 #[.pointer (some ⟨b, 0, none⟩), .int .i64 E] w fun r w' => r = .returned (.int .i64 E) ∧ w' = w.setCell ⟨b, 2, none⟩ (.int .i64 E) := by
  have c := h.cE
  have f := h.fz 2
  go_enter Tryz.func190, Tryz.ntmps190
  go_wp2
  go_ret
  exact ⟨rfl, rfl⟩
theorem xfail_old (b : Nat) (s : ByteArray) (k e : Nat) (E : Int) (w : World) (h : RX w b s k e) (he : e ≠ 0) :
    Calls Tryz.prog 190 #[.pointer (some ⟨b, 0, none⟩), .int .i64 E] w fun r w' => r = .returned (.int .i64 e) ∧ w' = w := by
  have c := h.cE
  have hne : ((e : Int) == 0) = false := by rw [beq_eq_false_iff_ne]; omega
  clear he
  go_enter Tryz.func190, Tryz.ntmps190
  go_wp2
  go_ret
  exact ⟨rfl, rfl⟩
theorem wrapX {n : Int} (h1 : -9223372036854775808 ≤ n) (h2 : n ≤ 9223372036854775807) : IntKind.i64.wrap n = n := by
  simp only [IntKind.wrap, IntKind.bits, IntKind.signed, Bool.true_and]; split <;> rename_i h <;> simp at h <;> omega
theorem bex_eq (s : ByteArray) (k j : Nat) (h1 : ((k : Int) + (j : Int)).toNat < s.size) (h2 : k + j < s.size) (Y : Int) : IntKind.u64.wrap (Y + IntKind.u64.wrap ((s[((k : Int) + (j : Int)).toNat]'h1).toNat : Int)) = IntKind.u64.wrap (Y + ((s[k + j]'h2).toNat : Int)) := by
  have e : ((k : Int) + (j : Int)).toNat = k + j := by omega
  simp only [e]
  have h := s[k + j].toNat_lt
  have e2 : IntKind.u64.wrap (s[k + j].toNat : Int) = (s[k + j].toNat : Int) := by rw [IntKind.wrap_u64]; omega
  rw [e2]
theorem bex_step (s : ByteArray) (k j : Nat) (hj : k + j < s.size) (n : Nat) (hn : j < n) (h8 : n ≤ 8) (hk : k + n ≤ s.size) :
    IntKind.u64.wrap (IntKind.u64.wrap ((be ((bl (s.extract k (k + n))).take j) : Int) * 256) + (s[k + j].toNat : Int)) = ((be ((bl (s.extract k (k + n))).take (j + 1)) : Nat) : Int) := by
  have hz : (s.extract k (k + n)).size = n := by simp [ByteArray.size_extract]; omega
  have hl : j < (bl (s.extract k (k + n))).length := by rw [bl_len, hz]; exact hn
  have e : (bl (s.extract k (k + n))).take (j + 1) = (bl (s.extract k (k + n))).take j ++ [s[k + j].toNat] := by
    rw [List.take_succ_eq_append_getElem hl]; congr 2; simp [bl, ByteArray.data_extract]; rfl
  have hb := be_lt ((bl (s.extract k (k + n))).take j) (fun b hb => bl_byte _ b (List.mem_of_mem_take hb))
  rw [List.length_take, Nat.min_eq_left (by omega)] at hb
  have hp : (256 : Nat) ^ j ≤ 256 ^ 7 := Nat.pow_le_pow_right (by omega) (by omega)
  have h256 := s[k + j].toNat_lt
  rw [e, be_snoc, IntKind.wrap_u64, IntKind.wrap_u64]
  omega
set_option maxHeartbeats 1000000 in
set_option maxRecDepth 20000 in
theorem xfixed_ok (b : Nat) (s : ByteArray) (k n : Nat) (w : World) (h : RX w b s k 0) (hk : k + n ≤ s.size) (hs : s.size ≤ 9223372036854775807) (hn : n ≤ 8) :
    Calls Tryz.prog 215 #[.pointer (some ⟨b, 0, none⟩), .int .i64 n] w (AnsX b s (.int .u64 (be (bl (s.extract k (k + n))))) (k + n) 0 w) := by
  have c0 := h.cS
  have c1 := h.cK
  have c2 := h.cE
  have f1 := h.fz 1
  have tl := xleft_any b s k 0 w h (by omega) hs
  have hz : (bl (s.extract k (k + n))).length = n := by rw [bl_len]; simp [ByteArray.size_extract]; omega
  have hst : ∀ j (_ : j < n) (hkj : k + j < s.size), IntKind.u64.wrap (IntKind.u64.wrap ((be ((bl (s.extract k (k + n))).take j) : Int) * 256) + (s[k + j].toNat : Int)) = ((be ((bl (s.extract k (k + n))).take (j + 1)) : Nat) : Int) := fun j hj hkj => bex_step s k j hkj n hj hn hk
  generalize bl (s.extract k (k + n)) = t at hz hst ⊢
  go_enter Tryz.func215, Tryz.ntmps215
  go_wp2_with (go_at_call 153; refine tl.mono ?_; rintro e w' ⟨rfl, n1, rfl⟩)
  go_loopw [6, 7] (fun v i wr => ∃ j m : Nat, j ≤ n ∧ i = .int .i64 j ∧ v = .int .u64 (be (t.take j)) ∧ wr = w.drewN m) (fun _ i _ => n - (intOf i).toNat)
  case atStart => exact ⟨0, n1, by omega, rfl, rfl, rfl⟩
  case round =>
    obtain ⟨j, m, hj, rfl, rfl, rfl⟩ := hrel
    by_cases hlt : j < n
    · have hlt' : k + j < s.size := by omega
      have HS := Hid.mk (hst j hlt hlt')
      have hw : IntKind.i64.wrap ((k : Int) + (j : Int)) = ((k + j : Nat) : Int) := wrapX (by omega) (by omega)
      clear hst
      go_wp2
      go_region_held (fun w' => w'.cell? ⟨b, 0, none⟩ = some (.string s) ∧ w'.cell? ⟨b, 1, none⟩ = some (.int .i64 k)) ((refine ⟨?_, ?_⟩ <;> go_simp)) (fail)
      go_wp2
      go_roundw
      case rel => exact ⟨j + 1, m + 1, by omega, by go_num, by rw [bex_eq s k j _ hlt', HS.out], rfl⟩
      case measure => simp [intOf]; omega
    · have e : t.take j = t := List.take_of_length_le (by omega)
      have HE := Hid.mk e
      clear e hst
      go_wp2
      go_ret2
      exact ⟨by rw [HE.out]; rfl, (h.drewN _).setK (k + n), ((Ch.refl _ _).drewN _).setCell _ _ (fun _ => rfl)⟩
end Go.Proofs.YtihokphamgkkcaaGreat
namespace Go.Proofs.YtihokphamgkkcaaGreat
open Go.RowKit
theorem fx_lt (n : Nat) (s : ByteArray) (k e : Nat) : (fx n s k e).1 < 256 ^ n := by
  have hp : 0 < 256 ^ n := Nat.pow_pos (by omega)
  by_cases he : e = 0
  · subst he
    by_cases h : k + n ≤ s.size
    · rw [fx_ok h]; exact be_ext s k n h
    · rw [fx_short h]; exact hp
  · rw [fx_stale he]; exact hp
set_option maxHeartbeats 1000000 in
set_option maxRecDepth 20000 in
theorem xfixed_any (b : Nat) (s : ByteArray) (k e n : Nat) (w : World) (h : RX w b s k e) (hk : k ≤ s.size) (hs : s.size ≤ 9223372036854775807) (hn : n ≤ 8) :
    Calls Tryz.prog 215 #[.pointer (some ⟨b, 0, none⟩), .int .i64 n] w (AnsX b s (.int .u64 (fx n s k e).1) (fx n s k e).2.1 (fx n s k e).2.2 w) := by
  have c2 := h.cE
  by_cases he : e = 0
  · subst he
    by_cases hl : k + n ≤ s.size
    · rw [fx_ok hl]
      exact xfixed_ok b s k n w h hl hs hn
    · rw [fx_short hl]
      dsimp only
      have tl := xleft_any b s k 0 w h hk hs
      go_enter Tryz.func215, Tryz.ntmps215
      go_wp2_with (first
        | (go_at_call 153; refine tl.mono ?_; rintro e w' ⟨rfl, n1, rfl⟩)
        | (go_at_call 190; refine (xfail_new b s k 20 _ (h.drewN _)).mono ?_; rintro e w' ⟨rfl, rfl⟩))
      go_ret2
      exact ⟨rfl, (h.drewN _).setE 20, ((Ch.refl _ _).drewN _).setCell _ _ (fun _ => rfl)⟩
  · rw [fx_stale he]
    dsimp only
    have hne : ((e : Int) != 0) = true := by rw [bne_iff_ne]; omega
    have HE := Hid.mk he
    clear he
    go_enter Tryz.func215, Tryz.ntmps215
    go_wp2_with (first
      | (go_at_call 190; refine (xfail_old b s k e _ _ h HE.out).mono ?_; rintro e w' ⟨rfl, rfl⟩))
    go_ret2
    exact ⟨rfl, h, Ch.refl _ _⟩
set_option maxHeartbeats 1000000 in
set_option maxRecDepth 20000 in
theorem xu8_any (b : Nat) (s : ByteArray) (k e : Nat) (w : World) (h : RX w b s k e) (hk : k ≤ s.size) (hs : s.size ≤ 9223372036854775807) :
    Calls Tryz.prog 192 #[.pointer (some ⟨b, 0, none⟩)] w (AnsX b s (.int .u8 ((fx 1 s k e).1 : Int)) (fx 1 s k e).2.1 (fx 1 s k e).2.2 w) := by
  have hf := xfixed_any b s k e 1 w h hk hs (by omega)
  have hv := fx_lt 1 s k e
  generalize fx 1 s k e = q at hf hv ⊢
  obtain ⟨v, K, E⟩ := q
  dsimp only at hf hv ⊢
  go_enter Tryz.func192, Tryz.ntmps192
  go_wp2_with (go_at_call 215; refine hf.mono ?_; rintro e w' ⟨rfl, h1, h2⟩)
  go_ret2
  exact ⟨rfl, h1, h2⟩
set_option maxHeartbeats 1000000 in
set_option maxRecDepth 20000 in
theorem xuvarint_any (b : Nat) (s : ByteArray) (k e : Nat) (w : World) (h : RX w b s k e) (hk : k ≤ s.size) (hs : s.size ≤ 9223372036854775807) :
    Calls Tryz.prog 152 #[.pointer (some ⟨b, 0, none⟩)] w (AnsX b s (.int .u64 (uq s k e).1) (uq s k e).2.1 (uq s k e).2.2 w) := by
  have c0 := h.cS
  have c1 := h.cK
  have c2 := h.cE
  have f1 := h.fz 1
  by_cases he : e = 0
  · subst he
    have hz := tl_size s k
    have hrd := fun w' => rread_any (tl s k) w' (by omega)
    have hbd := rd_bds (tl s k)
    by_cases hl : rde (tl s k) = 0
    · rw [uq_ok hl]
      dsimp only
      rw [hl] at hrd
      have hsl : s.extract k s.size = tl s k := rfl
      generalize tl s k = t at *
      obtain ⟨hb1, hb2, hb3⟩ := hbd
      go_enter Tryz.func152, Tryz.ntmps152
      go_wp2_with fail
      go_region_held (fun w' => w'.cell? ⟨b, 0, none⟩ = some (.string s) ∧ w'.cell? ⟨b, 1, none⟩ = some (.int .i64 k) ∧ w'.cell? ⟨b, 2, none⟩ = some (.int .i64 0)) ((refine ⟨?_, ?_, ?_⟩ <;> go_simp)) ((go_at_call 189; refine (hrd _).mono ?_; rintro e w' ⟨rfl, rfl⟩))
      all_goals
        go_wp2
        go_ret2
        exact ⟨rfl, h.drew.setK (k + rdn t), ((Ch.refl _ _).drew).setCell _ _ (fun _ => rfl)⟩
    · rw [uq_bad hl]
      dsimp only
      have hz0 := M.rd_zero (bl (tl s k)) 0 0 hl
      have hv0 : rdv (tl s k) = 0 := hz0.1
      have hn0 : rdn (tl s k) = 0 := hz0.2
      rw [hv0, hn0] at hrd
      have hsl : s.extract k s.size = tl s k := rfl
      generalize tl s k = t at *
      have hne : ((rde t : Int) != 0) = true := by rw [bne_iff_ne]; omega
      clear hl hz0 hv0 hn0 hbd
      go_enter Tryz.func152, Tryz.ntmps152
      go_wp2_with fail
      go_region_held (fun w' => w'.cell? ⟨b, 0, none⟩ = some (.string s) ∧ w'.cell? ⟨b, 1, none⟩ = some (.int .i64 k) ∧ w'.cell? ⟨b, 2, none⟩ = some (.int .i64 0)) ((refine ⟨?_, ?_, ?_⟩ <;> go_simp)) ((go_at_call 189; refine (hrd _).mono ?_; rintro e w' ⟨rfl, rfl⟩))
      all_goals
        go_wp2_with (go_at_call 190; refine (xfail_new b s k (rde t) _ h.drew).mono ?_; rintro e w' ⟨rfl, rfl⟩)
        go_ret2
        exact ⟨rfl, h.drew.setE (rde t), ((Ch.refl _ _).drew).setCell _ _ (fun _ => rfl)⟩
  · rw [uq_stale he]
    dsimp only
    have hne : ((e : Int) != 0) = true := by rw [bne_iff_ne]; omega
    clear he
    go_enter Tryz.func152, Tryz.ntmps152
    go_wp2_with fail
    go_region_held (fun w' => w'.cell? ⟨b, 0, none⟩ = some (.string s) ∧ w'.cell? ⟨b, 1, none⟩ = some (.int .i64 k) ∧ w'.cell? ⟨b, 2, none⟩ = some (.int .i64 e)) ((refine ⟨?_, ?_, ?_⟩ <;> go_simp)) (fail)
    all_goals
      go_wp2
      go_ret2
      exact ⟨rfl, h.drew, (Ch.refl _ _).drew⟩
end Go.Proofs.YtihokphamgkkcaaGreat
namespace Go.Proofs.YtihokphamgkkcaaGreat
open Go.RowKit
set_option maxHeartbeats 1000000 in
set_option maxRecDepth 20000 in
theorem xvarint_any (b : Nat) (s : ByteArray) (k e : Nat) (w : World) (h : RX w b s k e) (hk : k ≤ s.size) (hs : s.size ≤ 9223372036854775807) :
    Calls Tryz.prog 193 #[.pointer (some ⟨b, 0, none⟩)] w (AnsX b s (.int .i64 (vq s k e).1) (vq s k e).2.1 (vq s k e).2.2 w) := by
  have hu := xuvarint_any b s k e w h hk hs
  have hb := rd_bds (tl s k)
  by_cases he : e = 0
  · subst he
    by_cases hl : rde (tl s k) = 0
    · rw [uq_ok hl] at hu
      rw [vq_ok hl]
      dsimp only at hu ⊢
      generalize rdv (tl s k) = v at *
      generalize k + rdn (tl s k) = K at *
      obtain ⟨hb1, _, _⟩ := hb
      clear hl
      go_enter Tryz.func193, Tryz.ntmps193
      go_wp2_with (first
        | (go_at_call 152; refine hu.mono ?_; rintro e w' ⟨rfl, h1, h2⟩)
        | (go_at_call 216; refine (ruz_any _ _ (by omega) (by omega)).mono ?_; rintro e w' ⟨rfl, rfl⟩))
      go_ret2
      exact ⟨rfl, h1, h2⟩
    · rw [uq_bad hl] at hu
      rw [vq_bad hl]
      dsimp only at hu ⊢
      generalize rde (tl s k) = E at *
      have hne : ((E : Int) != 0) = true := by rw [bne_iff_ne]; omega
      clear hl hb
      go_enter Tryz.func193, Tryz.ntmps193
      go_wp2_with (go_at_call 152; refine hu.mono ?_; rintro e w' ⟨rfl, h1, h2⟩)
      go_ret2
      exact ⟨rfl, h1, h2⟩
  · rw [uq_stale he] at hu
    rw [vq_stale he]
    dsimp only at hu ⊢
    have hne : ((e : Int) != 0) = true := by rw [bne_iff_ne]; omega
    clear he hb
    go_enter Tryz.func193, Tryz.ntmps193
    go_wp2_with (go_at_call 152; refine hu.mono ?_; rintro e w' ⟨rfl, h1, h2⟩)
    go_ret2
    exact ⟨rfl, h1, h2⟩
set_option maxHeartbeats 1000000 in
set_option maxRecDepth 20000 in
theorem xraw_any (b : Nat) (s : ByteArray) (k e : Nat) (n : Int) (w : World) (h : RX w b s k e) (hk : k ≤ s.size) (hs : s.size ≤ 9223372036854775807) (hm1 : -9223372036854775808 ≤ n) (hm2 : n ≤ 9223372036854775807) :
    Calls Tryz.prog 191 #[.pointer (some ⟨b, 0, none⟩), .int .i64 n] w (AnsX b s (.string (rq n s k e).1) (rq n s k e).2.1 (rq n s k e).2.2 w) := by
  have c0 := h.cS
  have c1 := h.cK
  have c2 := h.cE
  have f1 := h.fz 1
  by_cases he : e = 0
  · subst he
    have tl := xleft_any b s k 0 w h hk hs
    by_cases hn : n < 0
    · rw [rq_range hn]
      dsimp only
      go_enter Tryz.func191, Tryz.ntmps191
      go_wp2_with (go_at_call 190; refine (xfail_new b s k 1 _ h).mono ?_; rintro e w' ⟨rfl, rfl⟩)
      go_ret2
      exact ⟨rfl, h.setE 1, (Ch.refl _ _).setCell _ _ (fun _ => rfl)⟩
    · obtain ⟨N, rfl⟩ : ∃ N : Nat, n = (N : Int) := ⟨n.toNat, by omega⟩
      by_cases hl : k + N ≤ s.size
      · rw [rq_ok hl]
        dsimp only
        have hw : IntKind.i64.wrap ((k : Int) + (N : Int)) = ((k + N : Nat) : Int) := wrapX (by omega) (by omega)
        have hsl : (s.extract k (k + N)) = s.extract k (k + N) := rfl
        go_enter Tryz.func191, Tryz.ntmps191
        go_wp2_with (go_at_call 153; refine tl.mono ?_; rintro e w' ⟨rfl, n1, rfl⟩)
        go_region_held (fun w' => w'.cell? ⟨b, 0, none⟩ = some (.string s) ∧ w'.cell? ⟨b, 1, none⟩ = some (.int .i64 k) ∧ w'.cell? ⟨b, 2, none⟩ = some (.int .i64 0)) ((refine ⟨?_, ?_, ?_⟩ <;> go_simp)) (fail)
        all_goals
          go_wp2
          go_ret2
          exact ⟨by first | rfl | (congr 3), ((h.drewN _).drew).setK (k + N), (((Ch.refl _ _).drewN _).drew).setCell _ _ (fun _ => rfl)⟩
      · rw [rq_short hl]
        dsimp only
        go_enter Tryz.func191, Tryz.ntmps191
        go_wp2_with (first
          | (go_at_call 153; refine tl.mono ?_; rintro e w' ⟨rfl, n1, rfl⟩)
          | (go_at_call 190; refine (xfail_new b s k 20 _ (h.drewN _)).mono ?_; rintro e w' ⟨rfl, rfl⟩))
        go_ret2
        exact ⟨rfl, (h.drewN _).setE 20, ((Ch.refl _ _).drewN _).setCell _ _ (fun _ => rfl)⟩
  · rw [rq_stale he]
    dsimp only
    have hne : ((e : Int) != 0) = true := by rw [bne_iff_ne]; omega
    clear he
    go_enter Tryz.func191, Tryz.ntmps191
    go_wp2_with fail
    go_region_held (fun w' => w'.cell? ⟨b, 0, none⟩ = some (.string s) ∧ w'.cell? ⟨b, 1, none⟩ = some (.int .i64 k) ∧ w'.cell? ⟨b, 2, none⟩ = some (.int .i64 e)) ((refine ⟨?_, ?_, ?_⟩ <;> go_simp)) (fail)
    all_goals
      go_wp2
      go_ret2
      exact ⟨rfl, h.drew, (Ch.refl _ _).drew⟩
end Go.Proofs.YtihokphamgkkcaaGreat
namespace Go.Proofs.YtihokphamgkkcaaGreat
open Go.RowKit
set_option maxHeartbeats 1000000 in
set_option maxRecDepth 20000 in
theorem xtext_any (b : Nat) (s : ByteArray) (k e : Nat) (n : Int) (w : World) (h : RX w b s k e) (hk : k ≤ s.size) (hs : s.size ≤ 9223372036854775807) (hm1 : -9223372036854775808 ≤ n) (hm2 : n ≤ 9223372036854775807) :
    Calls Tryz.prog 195 #[.pointer (some ⟨b, 0, none⟩), .int .i64 n] w (AnsX b s (.string (tq n s k e).1) (tq n s k e).2.1 (tq n s k e).2.2 w) := by
  have c1 := h.cK
  have hu := xuvarint_any b s k e w h hk hs
  by_cases he : e = 0
  · subst he
    by_cases hl : rde (tl s k) = 0
    · rw [uq_ok hl] at hu
      have hb := rd_bds (tl s k)
      have hz := tl_size s k
      by_cases hx : ((rdv (tl s k) : Int) ≤ n ∨ rdv (tl s k) = 0) ∧ k + rdn (tl s k) + rdv (tl s k) ≤ s.size
      · rw [tq_ok hl hx]
        dsimp only at hu ⊢
        generalize rdv (tl s k) = v at *
        obtain ⟨hb1, hb2, hb3⟩ := hb
        have hKs : k + rdn (tl s k) ≤ s.size := by omega
        generalize k + rdn (tl s k) = K at *
        clear hl hb2 hb3 hz
        obtain ⟨hx1, hx2⟩ := hx
        by_cases hneg : n < 0
        · have hv0 : v = 0 := by omega
          subst hv0
          have hraw := fun w' h' => xraw_any b s K 0 ((0 : Nat) : Int) w' h' hKs hs (by omega) (by omega)
          rw [rq_ok hx2] at hraw
          dsimp only at hraw
          generalize s.extract K (K + 0) = d at *
          go_enter Tryz.func195, Tryz.ntmps195
          go_wp2_with (first
            | (go_at_call 152; refine hu.mono ?_; rintro e w1 ⟨rfl, h1, h2⟩)
            | (go_at_call 153; refine (xleft_any b s K 0 _ h1 hKs hs).mono ?_; rintro e w2 ⟨rfl, n1, rfl⟩)
            | (fail))
          refine (hraw _ (h1.drewN _)).mono ?_
          rintro e w3 ⟨rfl, h3, h4⟩
          go_wp2
          go_ret2
          exact ⟨rfl, h3, (h2.drewN _).trans h4⟩
        · have hraw := fun w' h' => xraw_any b s K 0 (v : Int) w' h' hKs hs (by omega) (by omega)
          rw [rq_ok hx2] at hraw
          dsimp only at hraw
          go_enter Tryz.func195, Tryz.ntmps195
          go_wp2_with (first
            | (go_at_call 152; refine hu.mono ?_; rintro e w1 ⟨rfl, h1, h2⟩)
            | (go_at_call 153; refine (xleft_any b s K 0 _ h1 hKs hs).mono ?_; rintro e w2 ⟨rfl, n1, rfl⟩)
            | (fail))
          refine (hraw _ (h1.drewN _)).mono ?_
          rintro e w3 ⟨rfl, h3, h4⟩
          go_wp2
          go_ret2
          exact ⟨rfl, h3, (h2.drewN _).trans h4⟩
      · rw [tq_long hl hx]
        dsimp only at hu ⊢
        generalize rdv (tl s k) = v at *
        obtain ⟨hb1, hb2, hb3⟩ := hb
        have hKs : k + rdn (tl s k) ≤ s.size := by omega
        generalize k + rdn (tl s k) = K at *
        clear hl hb2 hb3 hz
        by_cases hf : (v : Int) ≤ n ∨ v = 0
        · have hx2 : s.size < K + v := by omega
          clear hx
          by_cases hneg : n < 0
          · exfalso; omega
          · go_enter Tryz.func195, Tryz.ntmps195
            go_wp2_with (first
              | (go_at_call 152; refine hu.mono ?_; rintro e w1 ⟨rfl, h1, h2⟩)
              | (fail))
            have y1 := h1.cK
            have y2 := h1.fz 1
            refine (xleft_any b s K 0 _ h1 hKs hs).mono ?_
            rintro e w2 ⟨rfl, n1, rfl⟩
            go_wp2_with (go_at_call 190; refine (xfail_new b s k 21 _ ((h1.drewN _).setK k)).mono ?_; rintro e w3 ⟨rfl, rfl⟩)
            go_ret2
            exact ⟨rfl, ((h1.drewN _).setK k).setE 21, ((h2.drewN _).setCell _ _ (fun _ => rfl)).setCell _ _ (fun _ => rfl)⟩
        · have hf1 : n < (v : Int) := by omega
          have hf2 : 0 < v := by omega
          clear hx hf
          by_cases hneg : n < 0
          all_goals
            go_enter Tryz.func195, Tryz.ntmps195
            go_wp2_with fail
            refine hu.mono ?_
            rintro e w1 ⟨rfl, h1, h2⟩
            have y1 := h1.cK
            have y2 := h1.fz 1
            go_wp2_with (go_at_call 190; refine (xfail_new b s k 21 _ (h1.setK k)).mono ?_; rintro e w3 ⟨rfl, rfl⟩)
            go_ret2
            exact ⟨rfl, (h1.setK k).setE 21, (h2.setCell _ _ (fun _ => rfl)).setCell _ _ (fun _ => rfl)⟩
    · rw [uq_bad hl] at hu
      rw [tq_bad hl]
      dsimp only at hu ⊢
      generalize rde (tl s k) = E at *
      have hne : ((E : Int) != 0) = true := by rw [bne_iff_ne]; omega
      clear hl
      go_enter Tryz.func195, Tryz.ntmps195
      go_wp2_with (go_at_call 152; refine hu.mono ?_; rintro e w1 ⟨rfl, h1, h2⟩)
      go_ret2
      exact ⟨rfl, h1, h2⟩
  · rw [uq_stale he] at hu
    rw [tq_stale he]
    dsimp only at hu ⊢
    have hne : ((e : Int) != 0) = true := by rw [bne_iff_ne]; omega
    clear he
    go_enter Tryz.func195, Tryz.ntmps195
    go_wp2_with (go_at_call 152; refine hu.mono ?_; rintro e w1 ⟨rfl, h1, h2⟩)
    go_ret2
    exact ⟨rfl, h1, h2⟩
set_option maxHeartbeats 1000000 in
set_option maxRecDepth 20000 in
theorem xpart_ok (b : Nat) (s : ByteArray) (k : Nat) (n : Int) (w : World) (h : RX w b s k 0) (hk : k ≤ s.size) (hs : s.size ≤ 9223372036854775807) (hm1 : -9223372036854775808 ≤ n) (hm2 : n ≤ 9223372036854775807) (he : (rq n s k 0).2.2 = 0) :
    Calls Tryz.prog 154 #[.pointer (some ⟨b, 0, none⟩), .int .i64 n] w (fun e w' => ∃ q, w.heap.size ≤ q ∧ e = .returned (.tuple #[.pointer (some ⟨q, 0, none⟩), .int .i64 0]) ∧ RX w' q (rq n s k 0).1 0 0 ∧ RX w' b s (rq n s k 0).2.1 0 ∧ Ch (fun i => i = b) w w') := by
  have hr := xraw_any b s k 0 n w h hk hs hm1 hm2
  rw [he] at hr
  generalize (rq n s k 0).1 = t at *
  generalize (rq n s k 0).2.1 = K at *
  clear he
  go_enter Tryz.func154, Tryz.ntmps154
  go_wp2_with (first
    | (go_at_call 191; refine hr.mono ?_; rintro e w1 ⟨rfl, h1, h2⟩)
    | (go_at_call 151; refine (xnew_any _ _).mono ?_; rintro e w2 ⟨rfl, rfl⟩))
  go_ret2
  exact ⟨w1.heap.size, h2.size, rfl, heap_new _ _, h1.alloc _, h2.alloc _⟩
set_option maxHeartbeats 1000000 in
set_option maxRecDepth 20000 in
theorem xpart_no (b : Nat) (s : ByteArray) (k e : Nat) (n : Int) (w : World) (h : RX w b s k e) (hk : k ≤ s.size) (hs : s.size ≤ 9223372036854775807) (hm1 : -9223372036854775808 ≤ n) (hm2 : n ≤ 9223372036854775807) (he : (rq n s k e).2.2 ≠ 0) :
    Calls Tryz.prog 154 #[.pointer (some ⟨b, 0, none⟩), .int .i64 n] w (AnsX b s (.pointer none) (rq n s k e).2.1 (rq n s k e).2.2 w) := by
  have hr := xraw_any b s k e n w h hk hs hm1 hm2
  generalize (rq n s k e).1 = t at *
  generalize (rq n s k e).2.1 = K at *
  generalize (rq n s k e).2.2 = E at *
  have hne : ((E : Int) != 0) = true := by rw [bne_iff_ne]; omega
  clear he
  go_enter Tryz.func154, Tryz.ntmps154
  go_wp2_with (first
    | (go_at_call 191; refine hr.mono ?_; rintro e w1 ⟨rfl, h1, h2⟩))
  go_ret2
  exact ⟨rfl, h1, h2⟩
end Go.Proofs.YtihokphamgkkcaaGreat
namespace Go.Proofs.YtihokphamgkkcaaGreat
open Go.RowKit
set_option maxHeartbeats 2000000 in
set_option maxRecDepth 20000 in
theorem xopt_err (b : Nat) (s : ByteArray) (k e K E : Nat) (u n : Int) (w : World) (h : RX w b s k e) (hE : E ≠ 0)
    (hu : ∀ w', RX w' b s k e → Calls Tryz.prog 193 #[.pointer (some ⟨b, 0, none⟩)] w' (AnsX b s (.int .i64 u) K E w')) :
    Calls Tryz.prog 156 #[.pointer (some ⟨b, 0, none⟩), .int .i64 n] w (AnsX b s (.agg #[.bool false, .string ⟨#[]⟩]) K E w) := by
  have hne : ((E : Int) != 0) = true := by rw [bne_iff_ne]; omega
  clear hE
  have c1 := (h.alloc (.cells #[.bool false, .string ⟨#[]⟩] 46)).cK
  have l0 := h.lt
  have d1 : b ≠ w.heap.size := by omega
  have d2 : w.heap.size ≠ b := by omega
  go_enter Tryz.func156, Tryz.ntmps156
  go_wp2_with fail
  refine (hu _ (h.alloc _)).mono ?_
  rintro e w1 ⟨rfl, h1, h2⟩
  have gv : w1.heap[w.heap.size]? = some (.cells #[.bool false, .string ⟨#[]⟩] 46 (0, 0)) := (h2.block _ (by simp) (by omega)).trans (heap_new _ _)
  have y3 : w1.cell? ⟨w.heap.size, 0, none⟩ = some (.bool false) := (cell_of gv).trans rfl
  have y4 : w1.cell? ⟨w.heap.size, 1, none⟩ = some (.string ⟨#[]⟩) := (cell_of gv).trans rfl
  have y5 := froz_of (i := 0) gv
  have y6 := froz_of (i := 1) gv
  have HV := Hid.mk gv
  have hlv := lt_of_heap gv
  clear gv
  go_wp2
  have c7 : ((w1.setCell ⟨w.heap.size, 0, none⟩ (.bool false)).setCell ⟨w.heap.size, 1, none⟩ (.string ⟨#[]⟩)).cell? ⟨w.heap.size, 0, none⟩ = some (.bool false) := (cell_of (heap_set (heap_set HV.out))).trans rfl
  have c8 : ((w1.setCell ⟨w.heap.size, 0, none⟩ (.bool false)).setCell ⟨w.heap.size, 1, none⟩ (.string ⟨#[]⟩)).cell? ⟨w.heap.size, 1, none⟩ = some (.string ⟨#[]⟩) := (cell_of (heap_set (heap_set HV.out))).trans rfl
  exact bodyPost_ret (v := .tuple #[.agg #[.bool false, .string ⟨#[]⟩], .int .i64 E]) (by simp [results, Tryz.results156, go_sem, c7, c8]) rfl ⟨rfl, ((h1.far _ d1).far _ d1), ((((Ch.refl _ _).alloc _).trans h2).setCell _ _ (fun h => absurd h (by simp))).setCell _ _ (fun h => absurd h (by simp))⟩
set_option maxHeartbeats 2000000 in
set_option maxRecDepth 20000 in
theorem xopt_null (b : Nat) (s : ByteArray) (k K : Nat) (n : Int) (w : World) (h : RX w b s k 0)
    (hu : ∀ w', RX w' b s k 0 → Calls Tryz.prog 193 #[.pointer (some ⟨b, 0, none⟩)] w' (AnsX b s (.int .i64 (-1)) K 0 w')) :
    Calls Tryz.prog 156 #[.pointer (some ⟨b, 0, none⟩), .int .i64 n] w (AnsX b s (.agg #[.bool false, .string ⟨#[]⟩]) K 0 w) := by
  have c1 := (h.alloc (.cells #[.bool false, .string ⟨#[]⟩] 46)).cK
  have l0 := h.lt
  have d1 : b ≠ w.heap.size := by omega
  have d2 : w.heap.size ≠ b := by omega
  go_enter Tryz.func156, Tryz.ntmps156
  go_wp2_with fail
  refine (hu _ (h.alloc _)).mono ?_
  rintro e w1 ⟨rfl, h1, h2⟩
  have gv : w1.heap[w.heap.size]? = some (.cells #[.bool false, .string ⟨#[]⟩] 46 (0, 0)) := (h2.block _ (by simp) (by omega)).trans (heap_new _ _)
  have y3 : w1.cell? ⟨w.heap.size, 0, none⟩ = some (.bool false) := (cell_of gv).trans rfl
  have y4 : w1.cell? ⟨w.heap.size, 1, none⟩ = some (.string ⟨#[]⟩) := (cell_of gv).trans rfl
  have y5 := froz_of (i := 0) gv
  have y6 := froz_of (i := 1) gv
  have HV := Hid.mk gv
  have hlv := lt_of_heap gv
  clear gv
  go_wp2
  have c7 : ((w1.setCell ⟨w.heap.size, 0, none⟩ (.bool false)).setCell ⟨w.heap.size, 1, none⟩ (.string ⟨#[]⟩)).cell? ⟨w.heap.size, 0, none⟩ = some (.bool false) := (cell_of (heap_set (heap_set HV.out))).trans rfl
  have c8 : ((w1.setCell ⟨w.heap.size, 0, none⟩ (.bool false)).setCell ⟨w.heap.size, 1, none⟩ (.string ⟨#[]⟩)).cell? ⟨w.heap.size, 1, none⟩ = some (.string ⟨#[]⟩) := (cell_of (heap_set (heap_set HV.out))).trans rfl
  exact bodyPost_ret (v := .tuple #[.agg #[.bool false, .string ⟨#[]⟩], .int .i64 0]) (by simp [results, Tryz.results156, go_sem, c7, c8]) rfl ⟨rfl, ((h1.far _ d1).far _ d1), ((((Ch.refl _ _).alloc _).trans h2).setCell _ _ (fun h => absurd h (by simp))).setCell _ _ (fun h => absurd h (by simp))⟩
set_option maxHeartbeats 2000000 in
set_option maxRecDepth 20000 in
theorem xopt_neg (b : Nat) (s : ByteArray) (k K : Nat) (u n : Int) (w : World) (h : RX w b s k 0) (hm1 : -9223372036854775808 ≤ n) (hm2 : n ≤ 9223372036854775807) (hu1 : -9223372036854775808 ≤ u) (hu2 : u ≤ 9223372036854775807)
    (hu : ∀ w', RX w' b s k 0 → Calls Tryz.prog 193 #[.pointer (some ⟨b, 0, none⟩)] w' (AnsX b s (.int .i64 u) K 0 w')) (hn : u < -1) :
    Calls Tryz.prog 156 #[.pointer (some ⟨b, 0, none⟩), .int .i64 n] w (AnsX b s (.agg #[.bool false, .string ⟨#[]⟩]) k 21 w) := by
  have hne : (u == -1) = false := by rw [beq_eq_false_iff_ne]; omega
  have c1 := (h.alloc (.cells #[.bool false, .string ⟨#[]⟩] 46)).cK
  have l0 := h.lt
  have d1 : b ≠ w.heap.size := by omega
  have d2 : w.heap.size ≠ b := by omega
  by_cases hneg : n < 0
  all_goals
    go_enter Tryz.func156, Tryz.ntmps156
    go_wp2_with fail
    refine (hu _ (h.alloc _)).mono ?_
    rintro e w1 ⟨rfl, h1, h2⟩
    have gv : w1.heap[w.heap.size]? = some (.cells #[.bool false, .string ⟨#[]⟩] 46 (0, 0)) := (h2.block _ (by simp) (by omega)).trans (heap_new _ _)
    have y3 : w1.cell? ⟨w.heap.size, 0, none⟩ = some (.bool false) := (cell_of gv).trans rfl
    have y4 : w1.cell? ⟨w.heap.size, 1, none⟩ = some (.string ⟨#[]⟩) := (cell_of gv).trans rfl
    have y5 := froz_of (i := 0) gv
    have y6 := froz_of (i := 1) gv
    have HV := Hid.mk gv
    have hlv := lt_of_heap gv
    clear gv
    have y1 := h1.cK
    have y2 := h1.fz 1
    have y7 := h1.fz 2
    have hx := (h1.setK k)
    go_wp2_with (go_at_call 190; refine (xfail_new b s k 21 _ hx).mono ?_; rintro e w3 ⟨rfl, rfl⟩)
    have gv2 : ((w1.setCell ⟨b, 1, none⟩ (.int .i64 k)).setCell ⟨b, 2, none⟩ (.int .i64 21)).heap[w.heap.size]? = some (.cells #[.bool false, .string ⟨#[]⟩] 46 (0, 0)) := heap_set_far (heap_set_far HV.out d2) d2
    have c7 : ((((w1.setCell ⟨b, 1, none⟩ (.int .i64 k)).setCell ⟨b, 2, none⟩ (.int .i64 21)).setCell ⟨w.heap.size, 0, none⟩ (.bool false)).setCell ⟨w.heap.size, 1, none⟩ (.string ⟨#[]⟩)).cell? ⟨w.heap.size, 0, none⟩ = some (.bool false) := (cell_of (heap_set (heap_set gv2))).trans rfl
    have c8 : ((((w1.setCell ⟨b, 1, none⟩ (.int .i64 k)).setCell ⟨b, 2, none⟩ (.int .i64 21)).setCell ⟨w.heap.size, 0, none⟩ (.bool false)).setCell ⟨w.heap.size, 1, none⟩ (.string ⟨#[]⟩)).cell? ⟨w.heap.size, 1, none⟩ = some (.string ⟨#[]⟩) := (cell_of (heap_set (heap_set gv2))).trans rfl
    exact bodyPost_ret (v := .tuple #[.agg #[.bool false, .string ⟨#[]⟩], .int .i64 21]) (by simp [results, Tryz.results156, go_sem, c7, c8]) rfl ⟨rfl, (((hx.setE 21).far _ d1).far _ d1), ((((Ch.refl _ _).alloc _).trans ((h2.setCell ⟨b, 1, none⟩ (.int .i64 k) (fun _ => rfl)).setCell ⟨b, 2, none⟩ (.int .i64 21) (fun _ => rfl))).setCell _ _ (fun h => absurd h (by simp))).setCell _ _ (fun h => absurd h (by simp))⟩
set_option maxHeartbeats 2000000 in
set_option maxRecDepth 20000 in
theorem xopt_long1 (b : Nat) (s : ByteArray) (k K : Nat) (u n : Int) (w : World) (h : RX w b s k 0) (hm1 : -9223372036854775808 ≤ n) (hm2 : n ≤ 9223372036854775807) (hu1 : -9223372036854775808 ≤ u) (hu2 : u ≤ 9223372036854775807)
    (hu : ∀ w', RX w' b s k 0 → Calls Tryz.prog 193 #[.pointer (some ⟨b, 0, none⟩)] w' (AnsX b s (.int .i64 u) K 0 w')) (hn : n < u) (hn0 : 0 < u) :
    Calls Tryz.prog 156 #[.pointer (some ⟨b, 0, none⟩), .int .i64 n] w (AnsX b s (.agg #[.bool false, .string ⟨#[]⟩]) k 21 w) := by
  have hne : (u == -1) = false := by rw [beq_eq_false_iff_ne]; omega
  have c1 := (h.alloc (.cells #[.bool false, .string ⟨#[]⟩] 46)).cK
  have l0 := h.lt
  have d1 : b ≠ w.heap.size := by omega
  have d2 : w.heap.size ≠ b := by omega
  by_cases hneg : n < 0
  all_goals
    go_enter Tryz.func156, Tryz.ntmps156
    go_wp2_with fail
    refine (hu _ (h.alloc _)).mono ?_
    rintro e w1 ⟨rfl, h1, h2⟩
    have gv : w1.heap[w.heap.size]? = some (.cells #[.bool false, .string ⟨#[]⟩] 46 (0, 0)) := (h2.block _ (by simp) (by omega)).trans (heap_new _ _)
    have y3 : w1.cell? ⟨w.heap.size, 0, none⟩ = some (.bool false) := (cell_of gv).trans rfl
    have y4 : w1.cell? ⟨w.heap.size, 1, none⟩ = some (.string ⟨#[]⟩) := (cell_of gv).trans rfl
    have y5 := froz_of (i := 0) gv
    have y6 := froz_of (i := 1) gv
    have HV := Hid.mk gv
    have hlv := lt_of_heap gv
    clear gv
    have y1 := h1.cK
    have y2 := h1.fz 1
    have y7 := h1.fz 2
    have hx := (h1.setK k)
    go_wp2_with (go_at_call 190; refine (xfail_new b s k 21 _ hx).mono ?_; rintro e w3 ⟨rfl, rfl⟩)
    have gv2 : ((w1.setCell ⟨b, 1, none⟩ (.int .i64 k)).setCell ⟨b, 2, none⟩ (.int .i64 21)).heap[w.heap.size]? = some (.cells #[.bool false, .string ⟨#[]⟩] 46 (0, 0)) := heap_set_far (heap_set_far HV.out d2) d2
    have c7 : ((((w1.setCell ⟨b, 1, none⟩ (.int .i64 k)).setCell ⟨b, 2, none⟩ (.int .i64 21)).setCell ⟨w.heap.size, 0, none⟩ (.bool false)).setCell ⟨w.heap.size, 1, none⟩ (.string ⟨#[]⟩)).cell? ⟨w.heap.size, 0, none⟩ = some (.bool false) := (cell_of (heap_set (heap_set gv2))).trans rfl
    have c8 : ((((w1.setCell ⟨b, 1, none⟩ (.int .i64 k)).setCell ⟨b, 2, none⟩ (.int .i64 21)).setCell ⟨w.heap.size, 0, none⟩ (.bool false)).setCell ⟨w.heap.size, 1, none⟩ (.string ⟨#[]⟩)).cell? ⟨w.heap.size, 1, none⟩ = some (.string ⟨#[]⟩) := (cell_of (heap_set (heap_set gv2))).trans rfl
    exact bodyPost_ret (v := .tuple #[.agg #[.bool false, .string ⟨#[]⟩], .int .i64 21]) (by simp [results, Tryz.results156, go_sem, c7, c8]) rfl ⟨rfl, (((hx.setE 21).far _ d1).far _ d1), ((((Ch.refl _ _).alloc _).trans ((h2.setCell ⟨b, 1, none⟩ (.int .i64 k) (fun _ => rfl)).setCell ⟨b, 2, none⟩ (.int .i64 21) (fun _ => rfl))).setCell _ _ (fun h => absurd h (by simp))).setCell _ _ (fun h => absurd h (by simp))⟩
set_option maxHeartbeats 2000000 in
set_option maxRecDepth 20000 in
theorem xopt_long2 (b : Nat) (s : ByteArray) (k K : Nat) (u n : Int) (w : World) (h : RX w b s k 0) (hKs : K ≤ s.size) (hs : s.size ≤ 9223372036854775807) (hm1 : -9223372036854775808 ≤ n) (hm2 : n ≤ 9223372036854775807) (hu1 : -9223372036854775808 ≤ u) (hu2 : u ≤ 9223372036854775807)
    (hu : ∀ w', RX w' b s k 0 → Calls Tryz.prog 193 #[.pointer (some ⟨b, 0, none⟩)] w' (AnsX b s (.int .i64 u) K 0 w')) (hn : u ≤ n ∨ u = 0) (hn0 : 0 ≤ u) (hl : (s.size : Int) - K < u) :
    Calls Tryz.prog 156 #[.pointer (some ⟨b, 0, none⟩), .int .i64 n] w (AnsX b s (.agg #[.bool false, .string ⟨#[]⟩]) k 21 w) := by
  have hneg : ¬ n < 0 := by omega
  have hne : (u == -1) = false := by rw [beq_eq_false_iff_ne]; omega
  have c1 := (h.alloc (.cells #[.bool false, .string ⟨#[]⟩] 46)).cK
  have l0 := h.lt
  have d1 : b ≠ w.heap.size := by omega
  have d2 : w.heap.size ≠ b := by omega
  go_enter Tryz.func156, Tryz.ntmps156
  go_wp2_with fail
  refine (hu _ (h.alloc _)).mono ?_
  rintro e w1 ⟨rfl, h1, h2⟩
  have gv : w1.heap[w.heap.size]? = some (.cells #[.bool false, .string ⟨#[]⟩] 46 (0, 0)) := (h2.block _ (by simp) (by omega)).trans (heap_new _ _)
  have y3 : w1.cell? ⟨w.heap.size, 0, none⟩ = some (.bool false) := (cell_of gv).trans rfl
  have y4 : w1.cell? ⟨w.heap.size, 1, none⟩ = some (.string ⟨#[]⟩) := (cell_of gv).trans rfl
  have y5 := froz_of (i := 0) gv
  have y6 := froz_of (i := 1) gv
  have HV := Hid.mk gv
  have hlv := lt_of_heap gv
  clear gv
  have y1 := h1.cK
  have y2 := h1.fz 1
  have y7 := h1.fz 2
  go_wp2_with fail
  refine (xleft_any b s K 0 _ h1 hKs hs).mono ?_
  rintro e w2 ⟨rfl, n1, rfl⟩
  have hx := ((h1.drewN n1).setK k)
  go_wp2_with (go_at_call 190; refine (xfail_new b s k 21 _ hx).mono ?_; rintro e w3 ⟨rfl, rfl⟩)
  have gv2 : (((w1.drewN n1).setCell ⟨b, 1, none⟩ (.int .i64 k)).setCell ⟨b, 2, none⟩ (.int .i64 21)).heap[w.heap.size]? = some (.cells #[.bool false, .string ⟨#[]⟩] 46 (0, 0)) := heap_set_far (heap_set_far HV.out d2) d2
  have c7 : (((((w1.drewN n1).setCell ⟨b, 1, none⟩ (.int .i64 k)).setCell ⟨b, 2, none⟩ (.int .i64 21)).setCell ⟨w.heap.size, 0, none⟩ (.bool false)).setCell ⟨w.heap.size, 1, none⟩ (.string ⟨#[]⟩)).cell? ⟨w.heap.size, 0, none⟩ = some (.bool false) := (cell_of (heap_set (heap_set gv2))).trans rfl
  have c8 : (((((w1.drewN n1).setCell ⟨b, 1, none⟩ (.int .i64 k)).setCell ⟨b, 2, none⟩ (.int .i64 21)).setCell ⟨w.heap.size, 0, none⟩ (.bool false)).setCell ⟨w.heap.size, 1, none⟩ (.string ⟨#[]⟩)).cell? ⟨w.heap.size, 1, none⟩ = some (.string ⟨#[]⟩) := (cell_of (heap_set (heap_set gv2))).trans rfl
  exact bodyPost_ret (v := .tuple #[.agg #[.bool false, .string ⟨#[]⟩], .int .i64 21]) (by simp [results, Tryz.results156, go_sem, c7, c8]) rfl ⟨rfl, (((hx.setE 21).far _ d1).far _ d1), ((((Ch.refl _ _).alloc _).trans (((h2.drewN n1).setCell ⟨b, 1, none⟩ (.int .i64 k) (fun _ => rfl)).setCell ⟨b, 2, none⟩ (.int .i64 21) (fun _ => rfl))).setCell _ _ (fun h => absurd h (by simp))).setCell _ _ (fun h => absurd h (by simp))⟩
set_option maxHeartbeats 2000000 in
set_option maxRecDepth 20000 in
theorem xopt_ok (b : Nat) (s : ByteArray) (k K N : Nat) (n : Int) (w : World) (h : RX w b s k 0) (hs : s.size ≤ 9223372036854775807) (hm1 : -9223372036854775808 ≤ n) (hm2 : n ≤ 9223372036854775807)
    (hu : ∀ w', RX w' b s k 0 → Calls Tryz.prog 193 #[.pointer (some ⟨b, 0, none⟩)] w' (AnsX b s (.int .i64 N) K 0 w')) (hn : (N : Int) ≤ n ∨ N = 0) (hl : K + N ≤ s.size) :
    Calls Tryz.prog 156 #[.pointer (some ⟨b, 0, none⟩), .int .i64 n] w (AnsX b s (.agg #[.bool true, .string (s.extract K (K + N))]) (K + N) 0 w) := by
  have hKs : K ≤ s.size := by omega
  have hne : ((N : Int) == -1) = false := by rw [beq_eq_false_iff_ne]; omega
  have c1 := (h.alloc (.cells #[.bool false, .string ⟨#[]⟩] 46)).cK
  have l0 := h.lt
  have d1 : b ≠ w.heap.size := by omega
  have d2 : w.heap.size ≠ b := by omega
  by_cases hneg : n < 0
  · have hN0 : N = 0 := by omega
    subst hN0
    have hraw := fun w' h' => xraw_any b s K 0 (((0 : Nat) : Int) : Int) w' h' hKs hs (by omega) (by omega)
    rw [rq_ok (by omega)] at hraw
    dsimp only at hraw
    generalize s.extract K (K + 0) = d at *
    go_enter Tryz.func156, Tryz.ntmps156
    go_wp2_with fail
    refine (hu _ (h.alloc _)).mono ?_
    rintro e w1 ⟨rfl, h1, h2⟩
    have gv : w1.heap[w.heap.size]? = some (.cells #[.bool false, .string ⟨#[]⟩] 46 (0, 0)) := (h2.block _ (by simp) (by omega)).trans (heap_new _ _)
    have y3 : w1.cell? ⟨w.heap.size, 0, none⟩ = some (.bool false) := (cell_of gv).trans rfl
    have y4 : w1.cell? ⟨w.heap.size, 1, none⟩ = some (.string ⟨#[]⟩) := (cell_of gv).trans rfl
    have y5 := froz_of (i := 0) gv
    have y6 := froz_of (i := 1) gv
    have HV := Hid.mk gv
    have hlv := lt_of_heap gv
    clear gv
    go_wp2_with fail
    refine (xleft_any b s K 0 _ h1 hKs hs).mono ?_
    rintro e w2 ⟨rfl, n1, rfl⟩
    go_wp2_with fail
    refine (hraw _ (h1.drewN _)).mono ?_
    rintro e w3 ⟨rfl, h3, h4⟩
    have gv3 : w3.heap[w.heap.size]? = some (.cells #[.bool false, .string ⟨#[]⟩] 46 (0, 0)) := (h4.block _ hlv d2).trans HV.out
    have z3 : w3.cell? ⟨w.heap.size, 0, none⟩ = some (.bool false) := (cell_of gv3).trans rfl
    have z4 : w3.cell? ⟨w.heap.size, 1, none⟩ = some (.string ⟨#[]⟩) := (cell_of gv3).trans rfl
    have z5 := froz_of (i := 0) gv3
    have z6 := froz_of (i := 1) gv3
    have HV3 := Hid.mk gv3
    clear gv3
    go_wp2
    have c7 : ((w3.setCell ⟨w.heap.size, 0, none⟩ (.bool true)).setCell ⟨w.heap.size, 1, none⟩ (.string d)).cell? ⟨w.heap.size, 0, none⟩ = some (.bool true) := (cell_of (heap_set (heap_set HV3.out))).trans rfl
    have c8 : ((w3.setCell ⟨w.heap.size, 0, none⟩ (.bool true)).setCell ⟨w.heap.size, 1, none⟩ (.string d)).cell? ⟨w.heap.size, 1, none⟩ = some (.string d) := (cell_of (heap_set (heap_set HV3.out))).trans rfl
    exact bodyPost_ret (v := .tuple #[.agg #[.bool true, .string d], .int .i64 0]) (by simp [results, Tryz.results156, go_sem, c7, c8]) rfl ⟨rfl, ((h3.far _ d1).far _ d1), ((((Ch.refl _ _).alloc _).trans ((h2.drewN _).trans h4)).setCell _ _ (fun h => absurd h (by simp))).setCell _ _ (fun h => absurd h (by simp))⟩
  · have hraw := fun w' h' => xraw_any b s K 0 (N : Int) w' h' hKs hs (by omega) (by omega)
    rw [rq_ok (by omega)] at hraw
    dsimp only at hraw
    generalize s.extract K (K + N) = d at *
    go_enter Tryz.func156, Tryz.ntmps156
    go_wp2_with fail
    refine (hu _ (h.alloc _)).mono ?_
    rintro e w1 ⟨rfl, h1, h2⟩
    have gv : w1.heap[w.heap.size]? = some (.cells #[.bool false, .string ⟨#[]⟩] 46 (0, 0)) := (h2.block _ (by simp) (by omega)).trans (heap_new _ _)
    have y3 : w1.cell? ⟨w.heap.size, 0, none⟩ = some (.bool false) := (cell_of gv).trans rfl
    have y4 : w1.cell? ⟨w.heap.size, 1, none⟩ = some (.string ⟨#[]⟩) := (cell_of gv).trans rfl
    have y5 := froz_of (i := 0) gv
    have y6 := froz_of (i := 1) gv
    have HV := Hid.mk gv
    have hlv := lt_of_heap gv
    clear gv
    go_wp2_with fail
    refine (xleft_any b s K 0 _ h1 hKs hs).mono ?_
    rintro e w2 ⟨rfl, n1, rfl⟩
    go_wp2_with fail
    refine (hraw _ (h1.drewN _)).mono ?_
    rintro e w3 ⟨rfl, h3, h4⟩
    have gv3 : w3.heap[w.heap.size]? = some (.cells #[.bool false, .string ⟨#[]⟩] 46 (0, 0)) := (h4.block _ hlv d2).trans HV.out
    have z3 : w3.cell? ⟨w.heap.size, 0, none⟩ = some (.bool false) := (cell_of gv3).trans rfl
    have z4 : w3.cell? ⟨w.heap.size, 1, none⟩ = some (.string ⟨#[]⟩) := (cell_of gv3).trans rfl
    have z5 := froz_of (i := 0) gv3
    have z6 := froz_of (i := 1) gv3
    have HV3 := Hid.mk gv3
    clear gv3
    go_wp2
    have c7 : ((w3.setCell ⟨w.heap.size, 0, none⟩ (.bool true)).setCell ⟨w.heap.size, 1, none⟩ (.string d)).cell? ⟨w.heap.size, 0, none⟩ = some (.bool true) := (cell_of (heap_set (heap_set HV3.out))).trans rfl
    have c8 : ((w3.setCell ⟨w.heap.size, 0, none⟩ (.bool true)).setCell ⟨w.heap.size, 1, none⟩ (.string d)).cell? ⟨w.heap.size, 1, none⟩ = some (.string d) := (cell_of (heap_set (heap_set HV3.out))).trans rfl
    exact bodyPost_ret (v := .tuple #[.agg #[.bool true, .string d], .int .i64 0]) (by simp [results, Tryz.results156, go_sem, c7, c8]) rfl ⟨rfl, ((h3.far _ d1).far _ d1), ((((Ch.refl _ _).alloc _).trans ((h2.drewN _).trans h4)).setCell _ _ (fun h => absurd h (by simp))).setCell _ _ (fun h => absurd h (by simp))⟩
/-- The whole. -/
theorem xopt_any (b : Nat) (s : ByteArray) (k e : Nat) (n : Int) (w : World) (h : RX w b s k e) (hk : k ≤ s.size) (hs : s.size ≤ 9223372036854775807) (hm1 : -9223372036854775808 ≤ n) (hm2 : n ≤ 9223372036854775807) :
    Calls Tryz.prog 156 #[.pointer (some ⟨b, 0, none⟩), .int .i64 n] w (AnsX b s (.agg #[.bool (oq n s k e).1, .string (oq n s k e).2.1]) (oq n s k e).2.2.1 (oq n s k e).2.2.2 w) := by
  have hu := fun w' h' => xvarint_any b s k e w' h' hk hs
  by_cases he : e = 0
  · subst he
    by_cases hl : rde (tl s k) = 0
    · rw [vq_ok hl] at hu
      have hb := rd_bds (tl s k)
      have hz := tl_size s k
      have hub := M.uz_bd (u := (rdv (tl s k) : Int)) (by omega) hb.1
      have hKs : k + rdn (tl s k) ≤ s.size := by omega
      by_cases hz1 : M.uz (rdv (tl s k)) = -1
      · rw [oq_null hl hz1]
        rw [hz1] at hu
        exact xopt_null b s k _ n w h hu
      · by_cases hx : 0 ≤ M.uz (rdv (tl s k)) ∧ (M.uz (rdv (tl s k)) ≤ n ∨ M.uz (rdv (tl s k)) = 0) ∧ k + rdn (tl s k) + (M.uz (rdv (tl s k))).toNat ≤ s.size
        · obtain ⟨N, hN⟩ : ∃ N : Nat, M.uz (rdv (tl s k)) = (N : Int) := ⟨(M.uz (rdv (tl s k))).toNat, by omega⟩
          rw [hN] at hx hu
          rw [oq_ok hl hN (by omega) (by omega)]
          exact xopt_ok b s k _ N n w h hs hm1 hm2 hu (by omega) (by omega)
        · rw [oq_long hl hz1 hx]
          dsimp only at hu ⊢
          by_cases h0 : 0 ≤ M.uz (rdv (tl s k))
          · by_cases hf : M.uz (rdv (tl s k)) ≤ n ∨ M.uz (rdv (tl s k)) = 0
            · exact xopt_long2 b s k _ _ n w h hKs hs hm1 hm2 hub.1 hub.2 hu hf h0 (by omega)
            · exact xopt_long1 b s k _ _ n w h hm1 hm2 hub.1 hub.2 hu (by omega) (by omega)
          · exact xopt_neg b s k _ _ n w h hm1 hm2 hub.1 hub.2 hu (by omega)
    · rw [vq_bad hl] at hu
      rw [oq_bad hl]
      exact xopt_err b s k 0 k _ _ n w h hl hu
  · rw [vq_stale he] at hu
    rw [oq_stale he]
    exact xopt_err b s k e k e _ n w h he hu
end Go.Proofs.YtihokphamgkkcaaGreat
namespace Go.Proofs.YtihokphamgkkcaaGreat
open Go.RowKit
theorem tq_left {p : ByteArray} {k : Nat} (hs : p.size ≤ 9223372036854775807) : tq ((p.size : Int) - k) p k 0 = tq MX p k 0 := by
  by_cases h : rde (tl p k) = 0
  · by_cases h1 : k + rdn (tl p k) + rdv (tl p k) ≤ p.size
    · rw [tq_ok h ⟨Or.inl (by omega), h1⟩, tq_ok h ⟨Or.inl (by unfold MX; omega), h1⟩]
    · rw [tq_long h (fun x => h1 x.2), tq_long h (fun x => h1 x.2)]
  · rw [tq_bad h, tq_bad h]
theorem oq_left {p : ByteArray} {k : Nat} (hs : p.size ≤ 9223372036854775807) : oq ((p.size : Int) - k) p k 0 = oq MX p k 0 := by
  by_cases h : rde (tl p k) = 0
  · by_cases hz : M.uz (rdv (tl p k)) = -1
    · rw [oq_null h hz, oq_null h hz]
    · by_cases h1 : 0 ≤ M.uz (rdv (tl p k)) ∧ k + rdn (tl p k) + (M.uz (rdv (tl p k))).toNat ≤ p.size
      · obtain ⟨n, hn⟩ : ∃ n : Nat, M.uz (rdv (tl p k)) = n := ⟨_, (Int.toNat_of_nonneg h1.1).symm⟩
        have h2 := h1.2
        rw [hn, Int.toNat_natCast] at h2
        rw [oq_ok h hn (Or.inl (by omega)) h2, oq_ok h hn (Or.inl (by unfold MX; omega)) h2]
      · rw [oq_long h hz (fun x => h1 ⟨x.1, x.2.2⟩), oq_long h hz (fun x => h1 ⟨x.1, x.2.2⟩)]
  · rw [oq_bad h, oq_bad h]
theorem rmore_ok (t f : Int) (w : World) (h : I64 (t + f)) : Calls Tryz.prog 194 #[.int .i64 t, .int .i64 f] w fun e w' => e = .returned (.tuple #[.int .i64 (t + f), .bool true]) ∧ w' = w := by
  have hx : IntKind.i64.wrap (t + f) = t + f := wrap_in h.1 h.2
  obtain ⟨h1, h2⟩ := h
  by_cases h : f < 0
  · have e1 : t + f < t := by omega
    go_enter Tryz.func194, Tryz.ntmps194
    go_wp2
    go_ret2
    exact ⟨rfl, rfl⟩
  · have e1 : ¬ t + f < t := by omega
    go_enter Tryz.func194, Tryz.ntmps194
    go_wp2
    go_ret2
    exact ⟨rfl, rfl⟩
theorem rmore_no (t f : Int) (w : World) (ht : I64 t) (hf : I64 f) (h : ¬ I64 (t + f)) : Calls Tryz.prog 194 #[.int .i64 t, .int .i64 f] w fun e w' => e = .returned (.tuple #[.int .i64 (wrap64 (t + f)), .bool false]) ∧ w' = w := by
  unfold I64 at *
  by_cases h0 : f < 0
  · have e1 : ¬ wrap64 (t + f) < t := by unfold wrap64; omega
    have e2 : (f == 0) = false := by rw [beq_eq_false_iff_ne]; omega
    go_enter Tryz.func194, Tryz.ntmps194
    go_wp2
    go_ret2
    exact ⟨rfl, rfl⟩
  · have e1 : wrap64 (t + f) < t := by unfold wrap64; omega
    have e2 : (f == 0) = false := by rw [beq_eq_false_iff_ne]; omega
    go_enter Tryz.func194, Tryz.ntmps194
    go_wp2
    go_ret2
    exact ⟨rfl, rfl⟩
/-- What times answers. -/
def tm (p : ByteArray) (first : Int) (n : Nat) : Except Nat (Int × Nat) := match fx 1 p 0 0 with
  | (a, k1, e1) => if e1 ≠ 0 then .error e1 else if a ≠ 0 then .error 26 else match vq p k1 0 with
    | (d, k2, e2) => if e2 ≠ 0 then .error e2 else if ¬ I64 (first + d) then .error 27 else match uq p k2 0 with
      | (c, k3, e3) => if e3 ≠ 0 then .error e3 else if c ≠ n then .error 27 else .ok (first + d, k3)
theorem r1_tm (p : ByteArray) (first : Int) (n : Nat) : r1 p first n = match tm p first n with
    | .error e => .error e
    | .ok y => r4 p y.1 y.2 := by
  unfold r1 tm
  obtain ⟨a, k1, e1, hA⟩ : ∃ a k1 e1, fx 1 p 0 0 = (a, k1, e1) := ⟨_, _, _, rfl⟩
  rw [hA]
  dsimp only
  by_cases h1 : e1 = 0
  · rw [if_neg (show ¬ (e1 ≠ 0) by simpa using h1), if_neg (show ¬ (e1 ≠ 0) by simpa using h1)]
    by_cases h2 : a = 0
    · rw [if_neg (show ¬ (a ≠ 0) by simpa using h2), if_neg (show ¬ (a ≠ 0) by simpa using h2)]
      unfold r2
      obtain ⟨d, k2, e2, hB⟩ : ∃ d k2 e2, vq p k1 0 = (d, k2, e2) := ⟨_, _, _, rfl⟩
      rw [hB]
      dsimp only
      by_cases h3 : e2 = 0
      · rw [if_neg (show ¬ (e2 ≠ 0) by simpa using h3), if_neg (show ¬ (e2 ≠ 0) by simpa using h3)]
        by_cases h4 : I64 (first + d)
        · rw [if_neg (show ¬ (¬ I64 (first + d)) by simpa using h4), if_neg (show ¬ (¬ I64 (first + d)) by simpa using h4)]
          unfold r3
          obtain ⟨c, k3, e3, hC⟩ : ∃ c k3 e3, uq p k2 0 = (c, k3, e3) := ⟨_, _, _, rfl⟩
          rw [hC]
          dsimp only
          by_cases h5 : e3 = 0
          · rw [if_neg (show ¬ (e3 ≠ 0) by simpa using h5), if_neg (show ¬ (e3 ≠ 0) by simpa using h5)]
            by_cases h6 : c = n
            · rw [if_neg (show ¬ (c ≠ n) by simpa using h6), if_neg (show ¬ (c ≠ n) by simpa using h6)]
            · rw [if_pos (show c ≠ n from h6), if_pos (show c ≠ n from h6)]
          · rw [if_pos (show e3 ≠ 0 from h5), if_pos (show e3 ≠ 0 from h5)]
        · rw [if_pos (show ¬ I64 (first + d) from h4), if_pos (show ¬ I64 (first + d) from h4)]
      · rw [if_pos (show e2 ≠ 0 from h3), if_pos (show e2 ≠ 0 from h3)]
    · rw [if_pos (show a ≠ 0 from h2), if_pos (show a ≠ 0 from h2)]
  · rw [if_pos (show e1 ≠ 0 from h1), if_pos (show e1 ≠ 0 from h1)]
def TPost (b : Nat) (p : ByteArray) (R : Except Nat (Int × Nat)) (w : World) (r : Ending) (w' : World) : Prop :=
  Ch (fun i => i = b) w w' ∧ match R with
    | .error x => r = .returned (.tuple #[.int .i64 0, .int .i64 x]) ∧ x ≠ 0
    | .ok y => r = .returned (.tuple #[.int .i64 y.1, .int .i64 0]) ∧ RX w' b p y.2 0 ∧ y.2 ≤ p.size ∧ I64 y.1
set_option maxHeartbeats 1000000 in
set_option maxRecDepth 20000 in
theorem xtimes_any (b : Nat) (p : ByteArray) (first : Int) (N : Nat) (w : World) (h : RX w b p 0 0) (hs : p.size ≤ 9223372036854775807) (hf : I64 first) (hN : N < 65536) :
    Calls Tryz.prog 155 #[.pointer (some ⟨b, 0, none⟩), .int .i64 first, .int .i64 N] w (TPost b p (tm p first N) w) := by
  generalize HT : tm p first N = T
  unfold tm at HT
  obtain ⟨a, k1, e1, hA⟩ : ∃ a k1 e1, fx 1 p 0 0 = (a, k1, e1) := ⟨_, _, _, rfl⟩
  have c1 := xu8_any b p 0 0 w h (Nat.zero_le _) hs
  have hk1 := fx_le (n := 1) (e := 0) (Nat.zero_le p.size)
  rw [hA] at c1 hk1 HT
  dsimp only at c1 hk1 HT
  have C1 := hid c1
  have hw : IntKind.u64.wrap (N : Int) = N := by rw [IntKind.wrap_u64]; omega
  clear c1 hA h
  by_cases h1 : e1 = 0
  · subst h1
    rw [if_neg (by simp)] at HT
    by_cases h2 : a = 0
    · subst h2
      rw [if_neg (by simp)] at HT
      obtain ⟨d, k2, e2, hB⟩ : ∃ d k2 e2, vq p k1 0 = (d, k2, e2) := ⟨_, _, _, rfl⟩
      have c2 := fun x h => xvarint_any b p k1 0 x h hk1 hs
      have hk2 := vq_le (e := 0) hk1
      have hd := vq_bd (s := p) (k := k1) (e := 0)
      simp only [hB] at c2
      rw [hB] at hk2 HT hd
      dsimp only at hk2 HT hd
      have C2 := hid c2
      clear c2 hB
      by_cases h3 : e2 = 0
      · subst h3
        rw [if_neg (by simp)] at HT
        by_cases h4 : I64 (first + d)
        · rw [if_neg (by simpa using h4)] at HT
          obtain ⟨c, k3, e3, hC⟩ : ∃ c k3 e3, uq p k2 0 = (c, k3, e3) := ⟨_, _, _, rfl⟩
          have c3 := fun x h => xuvarint_any b p k2 0 x h hk2 hs
          have hk3 := uq_le (e := 0) hk2
          simp only [hC] at c3
          rw [hC] at hk3 HT
          dsimp only at hk3 HT
          have C3 := hid c3
          have CM := hid (fun x => rmore_ok first d x h4)
          have H4 := hid h4
          have HK3 := hid hk3
          clear c3 hC hk3 h4 hk2 hd hk1 hs hf
          by_cases h5 : e3 = 0
          · subst h5
            rw [if_neg (by simp)] at HT
            by_cases h6 : c = N
            · subst h6
              rw [if_neg (by simp)] at HT
              subst HT
              skip
              go_enter Tryz.func155, Tryz.ntmps155
              go_wp2_with fail
              refine C1.out.mono ?_
              rintro r w1 ⟨rfl, h1, hc1⟩
              have HC1 := hid hc1
              have H1 := hid h1
              clear hc1 h1
              go_wp2_with fail
              refine (C2.out _ H1.out).mono ?_
              rintro r w2 ⟨rfl, h2, hc2⟩
              have HC2 := hid (HC1.out.trans hc2)
              have H2 := hid h2
              clear hc2 h2
              go_wp2_with (go_at_call 194; refine (CM.out _).mono ?_; rintro e w' ⟨rfl, rfl⟩)
              refine (C3.out _ H2.out).mono ?_
              rintro r w3 ⟨rfl, h3, hc3⟩
              have HC3 := hid (HC2.out.trans hc3)
              have H3 := hid h3
              clear hc3 h3
              go_wp2_with fail
              go_ret2
              exact ⟨HC3.out, rfl, H3.out, HK3.out, H4.out⟩
            · rw [if_pos h6] at HT
              subst HT
              have hne : ((c : Int) != (N : Int)) = true := by rw [bne_iff_ne]; omega
              clear h6
              go_enter Tryz.func155, Tryz.ntmps155
              go_wp2_with fail
              refine C1.out.mono ?_
              rintro r w1 ⟨rfl, h1, hc1⟩
              have HC1 := hid hc1
              have H1 := hid h1
              clear hc1 h1
              go_wp2_with fail
              refine (C2.out _ H1.out).mono ?_
              rintro r w2 ⟨rfl, h2, hc2⟩
              have HC2 := hid (HC1.out.trans hc2)
              have H2 := hid h2
              clear hc2 h2
              go_wp2_with (go_at_call 194; refine (CM.out _).mono ?_; rintro e w' ⟨rfl, rfl⟩)
              refine (C3.out _ H2.out).mono ?_
              rintro r w3 ⟨rfl, h3, hc3⟩
              have HC3 := hid (HC2.out.trans hc3)
              have H3 := hid h3
              clear hc3 h3
              go_wp2_with fail
              go_ret2
              exact ⟨HC3.out, rfl, by decide⟩
          · rw [if_pos h5] at HT
            subst HT
            have hne : ((e3 : Int) != 0) = true := by rw [bne_iff_ne]; omega
            have HX := hid h5
            clear h5
            go_enter Tryz.func155, Tryz.ntmps155
            go_wp2_with fail
            refine C1.out.mono ?_
            rintro r w1 ⟨rfl, h1, hc1⟩
            have HC1 := hid hc1
            have H1 := hid h1
            clear hc1 h1
            go_wp2_with fail
            refine (C2.out _ H1.out).mono ?_
            rintro r w2 ⟨rfl, h2, hc2⟩
            have HC2 := hid (HC1.out.trans hc2)
            have H2 := hid h2
            clear hc2 h2
            go_wp2_with (go_at_call 194; refine (CM.out _).mono ?_; rintro e w' ⟨rfl, rfl⟩)
            refine (C3.out _ H2.out).mono ?_
            rintro r w3 ⟨rfl, h3, hc3⟩
            have HC3 := hid (HC2.out.trans hc3)
            have H3 := hid h3
            clear hc3 h3
            go_wp2_with fail
            go_ret2
            exact ⟨HC3.out, rfl, HX.out⟩
        · rw [if_pos h4] at HT
          subst HT
          have CM := hid (fun x => rmore_no first d x hf hd h4)
          clear h4 hd hk1 hk2 hs hf
          go_enter Tryz.func155, Tryz.ntmps155
          go_wp2_with fail
          refine C1.out.mono ?_
          rintro r w1 ⟨rfl, h1, hc1⟩
          have HC1 := hid hc1
          have H1 := hid h1
          clear hc1 h1
          go_wp2_with fail
          refine (C2.out _ H1.out).mono ?_
          rintro r w2 ⟨rfl, h2, hc2⟩
          have HC2 := hid (HC1.out.trans hc2)
          have H2 := hid h2
          clear hc2 h2
          go_wp2_with (go_at_call 194; refine (CM.out _).mono ?_; rintro e w' ⟨rfl, rfl⟩)
          go_ret2
          exact ⟨HC2.out, rfl, by decide⟩
      · rw [if_pos h3] at HT
        subst HT
        have hne : ((e2 : Int) != 0) = true := by rw [bne_iff_ne]; omega
        have HX := hid h3
        clear h3 hd hk1 hk2 hs hf
        go_enter Tryz.func155, Tryz.ntmps155
        go_wp2_with fail
        refine C1.out.mono ?_
        rintro r w1 ⟨rfl, h1, hc1⟩
        have HC1 := hid hc1
        have H1 := hid h1
        clear hc1 h1
        go_wp2_with fail
        refine (C2.out _ H1.out).mono ?_
        rintro r w2 ⟨rfl, h2, hc2⟩
        have HC2 := hid (HC1.out.trans hc2)
        have H2 := hid h2
        clear hc2 h2
        go_wp2_with fail
        go_ret2
        exact ⟨HC2.out, rfl, HX.out⟩
    · rw [if_pos h2] at HT
      subst HT
      have hne : ((a : Int) != 0) = true := by rw [bne_iff_ne]; omega
      clear h2 hk1 hs hf
      go_enter Tryz.func155, Tryz.ntmps155
      go_wp2_with fail
      refine C1.out.mono ?_
      rintro r w1 ⟨rfl, h1, hc1⟩
      go_wp2_with fail
      go_ret2
      exact ⟨hc1, rfl, by decide⟩
  · rw [if_pos h1] at HT
    subst HT
    have hne : ((e1 : Int) != 0) = true := by rw [bne_iff_ne]; omega
    have HX := hid h1
    clear h1 hk1 hs hf
    go_enter Tryz.func155, Tryz.ntmps155
    go_wp2_with fail
    refine C1.out.mono ?_
    rintro r w1 ⟨rfl, h1, hc1⟩
    go_wp2_with fail
    go_ret2
    exact ⟨hc1, rfl, HX.out⟩
end Go.Proofs.YtihokphamgkkcaaGreat
namespace Go.Proofs.YtihokphamgkkcaaGreat
open Go.RowKit
def hd4 (p : ByteArray) (k : Nat) : Except Nat (List Hdr × Nat) := match uq p k 0 with
  | (c, k1, e1) => if e1 ≠ 0 then .error e1 else if 1024 < c then .error 5 else hdq p c k1
theorem r6_hd (p : ByteArray) (t : Int) (kh : Bool) (kd : ByteArray) (vh : Bool) (vd : ByteArray) (k : Nat) : r6 p t kh kd vh vd k = match hd4 p k with
    | .error e => .error e
    | .ok y => if y.2 < p.size then .error 26 else .ok ⟨t, kh, kd, vh, vd, y.1⟩ := by
  unfold r6 hd4
  obtain ⟨c, k1, e1, hC⟩ : ∃ c k1 e1, uq p k 0 = (c, k1, e1) := ⟨_, _, _, rfl⟩
  rw [hC]
  dsimp only
  by_cases h1 : e1 = 0
  · rw [if_neg (show ¬ (e1 ≠ 0) by simpa using h1), if_neg (show ¬ (e1 ≠ 0) by simpa using h1)]
    by_cases h2 : 1024 < c
    · rw [if_pos h2, if_pos h2]
    · rw [if_neg h2, if_neg h2]
      unfold r7
      cases hdq p c k1 with
      | error e => rfl
      | ok y => rfl
  · rw [if_pos (show e1 ≠ 0 from h1), if_pos (show e1 ≠ 0 from h1)]
def HXPost (b : Nat) (p : ByteArray) (B : Nat) (R : Except Nat (List Hdr × Nat)) (w : World) (r : Ending) (w' : World) : Prop :=
  Ch (fun i => i = b) w w' ∧ match R with
    | .error x => r = .returned (.tuple #[.slice none 0 0, .int .i64 x]) ∧ x ≠ 0
    | .ok y => ∃ v, r = .returned (.tuple #[v, .int .i64 0]) ∧ OwnH w' B v y.1 ∧ RX w' b p y.2 0 ∧ y.2 ≤ p.size
set_option maxHeartbeats 1000000 in
set_option maxRecDepth 20000 in
theorem xheaders_any (b : Nat) (p : ByteArray) (k : Nat) (w : World) (h : RX w b p k 0) (hk : k ≤ p.size) (hs : p.size ≤ 9223372036854775807) :
    Calls Tryz.prog 157 #[.pointer (some ⟨b, 0, none⟩)] w (HXPost b p w.heap.size (hd4 p k) w) := by
  generalize HT : hd4 p k = T
  unfold hd4 at HT
  obtain ⟨c, k1, e1, hA⟩ : ∃ c k1 e1, uq p k 0 = (c, k1, e1) := ⟨_, _, _, rfl⟩
  have c1 := xuvarint_any b p k 0 w h hk hs
  have hk1 := uq_le (e := 0) hk
  rw [hA] at c1 hk1 HT
  dsimp only at c1 hk1 HT
  have C1 := hid c1
  have hlb := h.lt
  clear c1 hA h
  by_cases h1 : e1 = 0
  · subst h1
    rw [if_neg (by simp)] at HT
    by_cases h2 : 1024 < c
    · rw [if_pos h2] at HT
      subst HT
      have hne : decide ((1024 : Int) < (c : Int)) = true := decide_eq_true (by omega)
      clear h2 hk1 hs
      go_enter Tryz.func157, Tryz.ntmps157
      go_wp2_with fail
      refine C1.out.mono ?_
      rintro r w1 ⟨rfl, h1, hc1⟩
      go_wp2_with fail
      go_ret2
      exact ⟨hc1, rfl, by decide⟩
    · rw [if_neg h2] at HT
      subst HT
      have hne : decide ((1024 : Int) < (c : Int)) = false := decide_eq_false (by omega)
      have H2 := hid h2
      have HK1 := hid hk1
      have HS := hid hs
      have hcv : IntKind.i64.wrap (c : Int) = c := wrap_in (by omega) (by omega)
      obtain ⟨i0, hi, hz0, hz1, hz2⟩ := info_parts Tryz.infoHdr
      clear h2 hk1 hs
      go_enter Tryz.func157, Tryz.ntmps157
      go_wp2_with fail
      refine C1.out.mono ?_
      rintro r w1 ⟨rfl, h1, hc1⟩
      have HC1 := hid hc1
      have H1 := hid h1
      clear hc1 h1
      go_wp2_with fail
      go_loopg [4, 7] c (fun g o i wr => ∃ (j kk : Nat) (acc : List Hdr), j + g = c ∧ i = .int .i64 j ∧ Hid (acc.length = j) ∧ Hid (kk ≤ p.size) ∧ Hid (hdq p c k1 = pre acc (hdq p g kk)) ∧ Hid (OwnH wr w.heap.size o acc) ∧ Hid (RX wr b p kk 0) ∧ Hid (Ch (fun i => i = b) w wr))
      case atStart => exact ⟨0, k1, [], by omega, rfl, rfl, HK1.out, (pre_nil _).symm, ownH_nil _ _, H1, HC1⟩
      case round =>
        clear HC1 H1
        obtain ⟨j, kk, acc, hk, rfl, HA, HKK, HP, HO, HR, HCH⟩ := hrel
        have h2 := H2.out
        by_cases hlt : j < c
        · obtain ⟨g, rfl⟩ : ∃ g, gk = g + 1 := ⟨gk - 1, by omega⟩
          obtain ⟨T, kt, et, hT⟩ : ∃ T kt et, tq MX p kk 0 = (T, kt, et) := ⟨_, _, _, rfl⟩
          obtain ⟨O, D, ko, eo, hO⟩ : ∃ O D ko eo, oq MX p kt et = (O, D, ko, eo) := ⟨_, _, _, _, rfl⟩
          have HST2 := hid (hdq_step p g kk T kt et O D ko eo hT hO)
          have hs := HS.out
          have hkk := HKK.out
          have ct := fun x h => xtext_any b p kk 0 ((p.size : Int) - kk) x h hkk hs (by omega) (by omega)
          have hkt := tq_le (m := MX) (e := 0) hkk
          simp only [tq_left hs, hT] at ct
          rw [hT] at hkt
          dsimp only at hkt
          have cl1 := fun x h => xleft_any b p kk 0 x h hkk hs
          have cl2 := fun x h => xleft_any b p kt 0 x h hkt hs
          have CT := hid ct
          have CL1 := hid cl1
          have CL2 := hid cl2
          have hlt' : (j : Int) < c := by omega
          have HLT := hid hlt
          clear ct cl1 cl2 hkk
          by_cases het : et = 0
          · subst het
            have hko := oq_le (m := MX) (e := 0) hkt
            rw [hO] at hko
            dsimp only at hko
            have co := fun x h => xopt_any b p kt 0 ((p.size : Int) - kt) x h hkt hs (by omega) (by omega)
            simp only [oq_left hs, hO] at co
            have CO := hid co
            have HKO := hid hko
            clear co hT hO hkt hko hs
            go_wp2_with fail
            refine (CL1.out _ HR.out).mono ?_
            rintro r w4 ⟨rfl, n4, rfl⟩
            go_wp2_with fail
            refine (CT.out _ (HR.out.drewN n4)).mono ?_
            rintro r w5 ⟨rfl, hr5, hc5⟩
            have HC5 := hid ((HCH.out.drewN n4).trans hc5)
            have HO5 : Hid (OwnH w5 w.heap.size u4 acc) := own_apart HO.out (fun x hx => by
              have hb := World.ownsRow.lt HO.out x hx
              exact hc5.block x hb.2 (by omega))
            have HR5 := hid hr5
            clear hr5 hc5
            go_wp2_with fail
            refine (CL2.out _ HR5.out).mono ?_
            rintro r w6 ⟨rfl, n6, rfl⟩
            go_wp2_with fail
            refine (CO.out _ (HR5.out.drewN n6)).mono ?_
            rintro r w7 ⟨rfl, hr7, hc7⟩
            have HC7 := hid ((HC5.out.drewN n6).trans hc7)
            have HO7 : Hid (OwnH w7 w.heap.size u4 acc) := own_apart HO5.out (fun x hx => by
              have hb := World.ownsRow.lt HO5.out x hx
              exact hc7.block x hb.2 (by omega))
            have HR7 := hid hr7
            have hsz7 := HC7.out.size
            clear hr7 hc7
            by_cases he : eo = 0
            · subst he
              have HN := hid (HST2.out.2 rfl)
              have ho6 : w7.ownsRow w.heap.size 51 3 u4 acc.length (hcs acc) := HO7.out
              have hal := HA.out
              rw [hal] at ho6
              clear HST2
              go_wp2_with (at_builtin; refine wpList_append_own _ rfl _ _ 47 rfl w.heap.size 51 i0 (.agg #[.string ⟨#[]⟩, .bool false, .string ⟨#[]⟩]) 3 40 Tryz.underHdrs hi hz0 hz1 hz2 rfl (by decide) _ _ _ rfl ((ho6.alloc _).alloc _) ⟨w7.heap.size + 1, 0, none⟩ 1 1 (hc1 (T, O, D)) rfl rfl ?c1 ?c2 ?c3 ?c4 ?c5 ?_)
              case c1 => first | exact fun j u h => h | exact cells_newN _ (hc1 (T, O, D)) _ _ (by simp)
              case c2 => exact hc1_one _
              case c3 => unfold maxLen; omega
              case c4 => omega
              case c5 => first | omega | (simp; omega)
              intro v' w9 hown9 hgrow9 _
              have hb9 : Below w.heap.size (w7.alloc (.cells #[.bool O, .string D] 46)) w9 := bel_step (Below.refl _ _) (ho6.alloc _) (by simp; omega) hgrow9
              have hc9 : Ch (fun i => i = b) w w9 := ⟨hb9.os.trans HC7.out.os, hb9.tape.trans HC7.out.tape, hb9.output.trans HC7.out.output, Nat.le_trans hsz7 (Nat.le_trans (by simp) hb9.size), fun i hi hs => ((hb9.block i hi).trans (Below.heap_alloc _ _ _ (by omega))).trans (HC7.out.block i hi hs)⟩
              have HR9 : Hid (RX w9 b p ko 0) := ((hb9.block b hlb).trans (Below.heap_alloc _ _ _ (by omega))).trans HR7.out
              have HC9 := hid hc9
              have HO9 : Hid (OwnH w9 w.heap.size v' (acc ++ [(T, O, D)])) := ownH_snoc hown9 HA.out
              clear hown9 hgrow9 ho6 hb9 hc9
              go_wp2_with fail
              go_roundg g
              case measure => omega
              case rel =>
                exact ⟨j + 1, ko, acc ++ [(T, O, D)], by omega, by go_num, by show _ = _; rw [List.length_append, HA.out]; rfl, HKO, by show _ = _; rw [HP.out, HN.out, pre_pre], HO9, HR9, HC9⟩
            · have hne2 : ((eo : Int) != 0) = true := by rw [bne_iff_ne]; omega
              have HN := hid (HST2.out.1 he)
              have HF : Hid (hdq p c k1 = .error eo) := by show _ = _; rw [HP.out, HN.out]; rfl
              have HE := hid he
              clear he HST2
              go_wp2_with fail
              go_ret2
              show HXPost _ _ _ _ _ _ _
              rw [HF.out]
              exact ⟨by first | exact HC7.out | exact HC7.out.alloc _, rfl, HE.out⟩
          · have hne2 : ((et : Int) != 0) = true := by rw [bne_iff_ne]; omega
            have hoe : eo = et := by rw [oq_stale het] at hO; injection hO with _ hO; injection hO with _ hO; injection hO with _ hO; exact hO.symm
            have HN := hid (HST2.out.1 (by rw [hoe]; exact het))
            have HF : Hid (hdq p c k1 = .error et) := by show _ = _; rw [HP.out, HN.out, hoe]; rfl
            have HE := hid het
            clear het HST2 hT hO hoe hkt hs CL2
            go_wp2_with fail
            refine (CL1.out _ HR.out).mono ?_
            rintro r w4 ⟨rfl, n4, rfl⟩
            go_wp2_with fail
            refine (CT.out _ (HR.out.drewN n4)).mono ?_
            rintro r w5 ⟨rfl, hr5, hc5⟩
            have HC5 := hid ((HCH.out.drewN n4).trans hc5)
            clear hr5 hc5
            go_wp2_with fail
            go_ret2
            show HXPost _ _ _ _ _ _ _
            rw [HF.out]
            exact ⟨by first | exact HC5.out | exact HC5.out.alloc _, rfl, HE.out⟩
        · have hj : gk = 0 := by omega
          subst hj
          have HF : Hid (hdq p c k1 = .ok (acc, kk)) := by show _ = _; rw [HP.out]; simp [hdq, pre]
          have hge : ¬ (j : Int) < c := by omega
          go_wp2_with fail
          go_ret2
          show HXPost _ _ _ _ _ _ _
          rw [HF.out]
          exact ⟨HCH.out, _, rfl, HO.out, HR.out, HKK.out⟩
  · rw [if_pos h1] at HT
    subst HT
    have hne : ((e1 : Int) != 0) = true := by rw [bne_iff_ne]; omega
    have HX := hid h1
    clear h1 hk1 hs
    go_enter Tryz.func157, Tryz.ntmps157
    go_wp2_with fail
    refine C1.out.mono ?_
    rintro r w1 ⟨rfl, h1, hc1⟩
    go_wp2_with fail
    go_ret2
    exact ⟨hc1, rfl, HX.out⟩
set_option maxHeartbeats 400000 in
set_option maxRecDepth 20000 in
theorem xread_no (s : ByteArray) (first n : Int) (w : World) (hn : ¬ (0 ≤ n ∧ n < 65536)) :
    Calls Tryz.prog 111 #[.string s, .int .i64 first, .int .i64 n] w (ReadPost (rd5 s first n) w) := by
  have hR1 : rd5 s first n = .error 1 := by unfold rd5; rw [if_pos hn]
  rw [hR1]
  clear hR1
  have HQB : Hid (Below w.heap.size w (w.alloc (.cells #[.int .i64 0, .bool false, .string ⟨#[]⟩, .bool false, .string ⟨#[]⟩, .slice none 0 0] 49))) := (Below.refl _ w).alloc (Nat.le_refl _) _
  by_cases h0 : n < 0
  · go_enter Tryz.func111, Tryz.ntmps111
    go_wp2_with fail
    obtain ⟨j0, j1, j2, j3, j4, j5⟩ := cells6 (heap_new w (.cells #[.int .i64 0, .bool false, .string ⟨#[]⟩, .bool false, .string ⟨#[]⟩, .slice none 0 0] 49))
    refine bodyPost_ret (v := .tuple #[noRec, .int .i64 0, .int .i64 1]) (by simp [results, noRec, Tryz.results111, go_sem]) rfl ?_
    exact ⟨HQB.out, rfl, by decide⟩
  · have h1 : ¬ n < 65536 := by omega
    go_enter Tryz.func111, Tryz.ntmps111
    go_wp2_with fail
    obtain ⟨j0, j1, j2, j3, j4, j5⟩ := cells6 (heap_new w (.cells #[.int .i64 0, .bool false, .string ⟨#[]⟩, .bool false, .string ⟨#[]⟩, .slice none 0 0] 49))
    refine bodyPost_ret (v := .tuple #[noRec, .int .i64 0, .int .i64 1]) (by simp [results, noRec, Tryz.results111, go_sem]) rfl ?_
    exact ⟨HQB.out, rfl, by decide⟩
end Go.Proofs.YtihokphamgkkcaaGreat
namespace Go.Proofs.YtihokphamgkkcaaGreat
open Go.RowKit
/-- Where the document's Read stands: its reader, the room for its answer. -/
structure XJ (w : World) (b : Nat) (s : ByteArray) (K : Nat) (x : World) : Prop where
  r : RX x b s K 0
  rr : x.heap[w.heap.size]? = some (.cells #[.int .i64 0, .bool false, .string ⟨#[]⟩, .bool false, .string ⟨#[]⟩, .slice none 0 0] 49 (0, 0))
  bel : Below w.heap.size w x
/-- The same, with the part and the record that it makes. -/
structure XI (w : World) (q b O : Nat) (P s : ByteArray) (k K : Nat) (c : Array Value) (x : World) : Prop where
  p : RX x q P k 0
  o : x.heap[O]? = some (.cells c 49 (0, 0))
  j : XJ w b s K x
theorem rx_ne {x : World} {q O : Nat} {P : ByteArray} {k e : Nat} {c : Array Value} (h : RX x q P k e) (ho : x.heap[O]? = some (.cells c 49 (0, 0))) : O ≠ q := fun e => by
  have h2 : x.heap[q]? = _ := h
  rw [e, h2] at ho
  injection ho with h1
  injection h1 with h3 h4 h5
  exact absurd h4 (by decide)
theorem XJ.drewN {w x : World} {b : Nat} {s : ByteArray} {K : Nat} (h : XJ w b s K x) (n : Nat) : XJ w b s K (x.drewN n) := ⟨h.r, h.rr, drewN_bel h.bel n⟩
theorem XJ.drew {w x : World} {b : Nat} {s : ByteArray} {K : Nat} (h : XJ w b s K x) : XJ w b s K x.drew := ⟨h.r, h.rr, h.bel.drew⟩
theorem XJ.alloc {w x : World} {b : Nat} {s : ByteArray} {K : Nat} (h : XJ w b s K x) (o : Obj) : XJ w b s K (x.alloc o) := ⟨h.r.alloc o, heap_alloc_at h.rr, h.bel.alloc h.bel.size o⟩
theorem XJ.ch {w x x' : World} {b q : Nat} {s P : ByteArray} {K k : Nat} (h : XJ w b s K x) (hp : RX x q P k 0) (hq : w.heap.size ≤ q) (hqb : b ≠ q) (hc : Ch (fun i => i = q) x x') : XJ w b s K x' :=
  ⟨h.r.ch hc hqb, (hc.block _ (lt_of_heap h.rr) (rx_ne hp h.rr)).trans h.rr, h.bel.trans (hc.below h.bel.size (fun i hi e => by omega))⟩
theorem XI.drew {w x : World} {q b O : Nat} {P s : ByteArray} {k K : Nat} {c : Array Value} (h : XI w q b O P s k K c x) : XI w q b O P s k K c x.drew := ⟨h.p, h.o, h.j.drew⟩
theorem XI.drewN {w x : World} {q b O : Nat} {P s : ByteArray} {k K : Nat} {c : Array Value} (h : XI w q b O P s k K c x) (n : Nat) : XI w q b O P s k K c (x.drewN n) := ⟨h.p, h.o, h.j.drewN n⟩
theorem XI.ch {w x x' : World} {q b O : Nat} {P s : ByteArray} {k k' K : Nat} {c : Array Value} (h : XI w q b O P s k K c x) (hq : w.heap.size ≤ q) (hqb : b ≠ q) (hc : Ch (fun i => i = q) x x') (hp : RX x' q P k' 0) : XI w q b O P s k' K c x' :=
  ⟨hp, (hc.block O (lt_of_heap h.o) (rx_ne h.p h.o)).trans h.o, h.j.ch h.p hq hqb hc⟩
theorem XJ.set {w x : World} {b : Nat} {s : ByteArray} {K : Nat} (h : XJ w b s K x) {O : Nat} (i : Nat) (v : Value) (h1 : b ≠ O) (h2 : w.heap.size < O) : XJ w b s K (x.setCell ⟨O, i, none⟩ v) := ⟨h.r.far v h1, heap_set_far h.rr (by show w.heap.size ≠ O; omega), h.bel.setCell (by show w.heap.size ≤ O; omega) _⟩
theorem xlI {w : World} {q b O : Nat} {P s : ByteArray} {k K : Nat} {c : Array Value} (x : World) (h : XI w q b O P s k K c x) (hk : k ≤ P.size) (hs : P.size ≤ 9223372036854775807) :
    Calls Tryz.prog 153 #[.pointer (some ⟨q, 0, none⟩)] x fun r w' => r = .returned (.int .i64 ((P.size : Int) - k)) ∧ XI w q b O P s k K c w' :=
  (xleft_any q P k 0 x h.p hk hs).mono fun _ _ hh => by
    obtain ⟨h1, n, rfl⟩ := hh
    exact ⟨h1, h.drewN n⟩
def bnd (f : Int × Nat → Except Nat Rec) : Except Nat (Int × Nat) → Except Nat Rec
  | .error e => .error e
  | .ok y => f y
theorem r1_bnd (p : ByteArray) (first : Int) (n : Nat) : r1 p first n = bnd (fun y => r4 p y.1 y.2) (tm p first n) := by
  rw [r1_tm]
  cases tm p first n <;> rfl
def gg (m : Nat) : Except Nat Rec → Except Nat (Rec × Nat)
  | .error e => .error e
  | .ok r => if 16777216 < m then .error 66 else .ok (r, m)
theorem rd_gg {s : ByteArray} {first : Int} {N L k1 : Nat} (hN : N < 65536) (hu : uq s 0 0 = (L, k1, 0)) (hx : k1 + L ≤ s.size) : rd5 s first N = gg (k1 + L) (r1 (s.extract k1 (k1 + L)) first N) := by
  unfold rd5
  rw [if_neg (by omega), Int.toNat_natCast]
  unfold nxt
  rw [hu]
  dsimp only
  rw [if_neg (by simp)]
  unfold nx2
  rw [if_neg (by omega)]
  cases r1 (s.extract k1 (k1 + L)) first N with
  | error e => rfl
  | ok r => dsimp only [gg]; rw [Nat.sub_zero]
def bndh (f : List Hdr × Nat → Except Nat Rec) : Except Nat (List Hdr × Nat) → Except Nat Rec
  | .error e => .error e
  | .ok y => f y
theorem r6_bnd (p : ByteArray) (t : Int) (kh : Bool) (kd : ByteArray) (vh : Bool) (vd : ByteArray) (k : Nat) : r6 p t kh kd vh vd k = bndh (fun y => if y.2 < p.size then .error 26 else .ok ⟨t, kh, kd, vh, vd, y.1⟩) (hd4 p k) := by
  rw [r6_hd]
  cases hd4 p k <;> rfl
theorem heap_set_eq {x : World} {B : Nat} {v u : Value} {rs : List Hdr} {g O i : Nat} {c : Array Value} (h : OwnH x B v rs) (hg : v.ownBlock = some g) (ho : x.heap[O]? = some (.cells c 49 (0, 0))) : (x.setCell ⟨O, i, none⟩ u).heap[g]? = x.heap[g]? := by
  have hne : g ≠ O := fun e => own_ne h (e ▸ ho) (by decide) hg
  exact Below.heap_setCell x ⟨O, i, none⟩ u g hne
theorem rd_e1 {s : ByteArray} {first : Int} {N L k1 e1 : Nat} (hN : N < 65536) (hu : uq s 0 0 = (L, k1, e1)) (he : e1 ≠ 0) : rd5 s first N = .error e1 := by
  unfold rd5
  rw [if_neg (by omega), Int.toNat_natCast]
  unfold nxt
  rw [hu]
  dsimp only
  rw [if_pos he]
theorem rd_e2 {s : ByteArray} {first : Int} {N L k1 : Nat} (hN : N < 65536) (hu : uq s 0 0 = (L, k1, 0)) (hx : s.size < k1 + L) : rd5 s first N = .error 21 := by
  unfold rd5
  rw [if_neg (by omega), Int.toNat_natCast]
  unfold nxt
  rw [hu]
  dsimp only
  rw [if_neg (by simp)]
  unfold nx2
  rw [if_pos hx]
theorem r4_e {P : ByteArray} {t : Int} {k : Nat} {b : Bool} {d : ByteArray} {k' e : Nat} (h : oq MX P k 0 = (b, d, k', e)) : r4 P t k = if e ≠ 0 then .error e else r5 P t b d k' := by unfold r4; rw [h]
theorem r5_e {P : ByteArray} {t : Int} {kh : Bool} {kd : ByteArray} {k : Nat} {b : Bool} {d : ByteArray} {k' e : Nat} (h : oq MX P k 0 = (b, d, k', e)) : r5 P t kh kd k = if e ≠ 0 then .error e else r6 P t kh kd b d k' := by unfold r5; rw [h]
set_option maxHeartbeats 2000000 in
set_option maxRecDepth 20000 in
theorem xread_yes (s : ByteArray) (first : Int) (N : Nat) (w : World) (hN : N < 65536) (hs : s.size ≤ 9223372036854775807) (hf : I64 first) (R0 : Except Nat (Rec × Nat)) (hR0 : rd5 s first N = R0) :
    Calls Tryz.prog 111 #[.string s, .int .i64 first, .int .i64 N] w (ReadPost R0 w) := by
  obtain ⟨L, k1, e1, hu⟩ : ∃ L k1 e1, uq s 0 0 = (L, k1, e1) := ⟨_, _, _, rfl⟩
  have hk1 := uq_le (e := 0) (Nat.zero_le s.size)
  have hL := uq_bd (s := s) (k := 0) (e := 0)
  have cu := fun x b h => xuvarint_any b s 0 0 x h (Nat.zero_le _) hs
  simp only [hu] at cu
  rw [hu] at hk1 hL
  dsimp only at hk1 hL
  have CU := hid cu
  have HU := hid hu
  have HR0 : Hid (∀ _ : Unit, rd5 s first N = R0) := fun _ => hR0
  clear hR0
  have HK1 := hid hk1
  have HL := hid hL
  have HS := hid hs
  have HFI := hid hf
  have h0 : decide ((N : Int) < 0) = false := decide_eq_false (by omega)
  have h1 : decide ((65536 : Int) ≤ (N : Int)) = false := decide_eq_false (by omega)
  have HN := hid hN
  clear cu hu hk1 hL hs hf hN
  go_enter Tryz.func111, Tryz.ntmps111
  go_wp2_with fail
  clear h0 h1
  have hR : (w.alloc (.cells #[.int .i64 0, .bool false, .string ⟨#[]⟩, .bool false, .string ⟨#[]⟩, .slice none 0 0] 49)).heap[w.heap.size]? = some (.cells #[.int .i64 0, .bool false, .string ⟨#[]⟩, .bool false, .string ⟨#[]⟩, .slice none 0 0] 49 (0, 0)) := heap_new _ _
  have hB : Below w.heap.size w (w.alloc (.cells #[.int .i64 0, .bool false, .string ⟨#[]⟩, .bool false, .string ⟨#[]⟩, .slice none 0 0] 49)) := (Below.refl _ w).alloc (Nat.le_refl _) _
  generalize w.alloc (.cells #[.int .i64 0, .bool false, .string ⟨#[]⟩, .bool false, .string ⟨#[]⟩, .slice none 0 0] 49) = w0 at *
  refine (xnew_any s w0).mono ?_
  rintro r w1 ⟨rfl, rfl⟩
  have J1 : XJ w w0.heap.size s 0 (w0.alloc (.cells #[.string s, .int .i64 0, .int .i64 0] 238)) := ⟨heap_new _ _, heap_alloc_at hR, hB.alloc hB.size _⟩
  have hbw : w.heap.size < w0.heap.size := lt_of_heap hR
  generalize w0.alloc (.cells #[.string s, .int .i64 0, .int .i64 0] 238) = w1 at *
  generalize w0.heap.size = b at *
  clear hR hB
  have HJ1 := hid J1
  clear J1
  go_wp2_with fail
  refine (CU.out _ _ HJ1.out.r).mono ?_
  rintro r w2 ⟨rfl, hr2, hc2⟩
  have hrr2 := (hc2.block _ (lt_of_heap HJ1.out.rr) (rx_ne HJ1.out.r HJ1.out.rr)).trans HJ1.out.rr
  have hbel2 := HJ1.out.bel.trans (hc2.below HJ1.out.bel.size (fun i hi e => by omega))
  have HR2 := hid hr2
  have HRR2 := hid hrr2
  have HB2 := hid hbel2
  clear hr2 hc2 hrr2 hbel2 HJ1
  by_cases he1 : e1 = 0
  · subst he1
    have HJ2 : Hid (XJ w b s k1 w2) := ⟨HR2.out, HRR2.out, HB2.out⟩
    clear HR2 HRR2 HB2
    have CL := hid (xleft_any b s k1 0 w2 HJ2.out.r HK1.out HS.out)
    have hs := HS.out
    have hk1 := HK1.out
    have hwl : IntKind.u64.wrap ((s.size : Int) - k1) = (s.size : Int) - k1 := by rw [IntKind.wrap_u64]; omega
    by_cases hx : k1 + L ≤ s.size
    · have hd1 : decide ((s.size : Int) - k1 < (L : Int)) = false := decide_eq_false (by omega)
      have hcl : IntKind.i64.wrap (L : Int) = L := wrap_in (by omega) (by omega)
      have HG : Hid (R0 = gg (k1 + L) (r1 (s.extract k1 (k1 + L)) first N)) := (HR0.out ()).symm.trans (rd_gg (first := first) HN.out HU.out hx)
      have cp := fun x h => xpart_ok b s k1 L x h hk1 hs (by omega) (by omega) (by rw [rq_ok hx])
      simp only [rq_ok hx] at cp
      have CP := hid cp
      have hPs : (s.extract k1 (k1 + L)).size ≤ 9223372036854775807 := by rw [ByteArray.size_extract]; omega
      have HX := hid hx
      have HPS := hid hPs
      clear cp hx hs hk1
      generalize s.extract k1 (k1 + L) = P at *
      go_wp2_with fail
      refine CL.out.mono ?_
      rintro r w3 ⟨rfl, n3, rfl⟩
      have HJ3 := hid (HJ2.out.drewN n3)
      clear HJ2 CL
      generalize w2.drewN n3 = w3 at *
      go_wp2_with fail
      refine (CP.out _ HJ3.out.r).mono ?_
      rintro r w4 ⟨q, hq, rfl, hp4, hr4, hc4⟩
      have hqw : w.heap.size ≤ q := Nat.le_trans HJ3.out.bel.size hq
      have hqb : b ≠ q := by have := HJ3.out.r.lt; omega
      have HJ4 : Hid (XJ w b s (k1 + L) w4) := ⟨hr4, (hc4.block _ (lt_of_heap HJ3.out.rr) (rx_ne HJ3.out.r HJ3.out.rr)).trans HJ3.out.rr, HJ3.out.bel.trans (hc4.below HJ3.out.bel.size (fun i hi e => by omega))⟩
      have HP4 := hid hp4
      have CT := hid (xtimes_any q P first N w4 hp4 hPs HFI.out HN.out)
      have HG2 : Hid (R0 = gg (k1 + L) (bnd (fun y => r4 P y.1 y.2) (tm P first N))) := by show _ = _; rw [HG.out, r1_bnd]
      clear hp4 hr4 hc4 HJ3 CP hq HG hPs
      go_wp2_with fail
      refine CT.out.mono ?_
      rintro r w5 ⟨hc5, hm5⟩
      have HJ5 := hid (HJ4.out.ch HP4.out hqw hqb hc5)
      clear hc5 CT
      cases ht : tm P first N with
      | error x =>
        rw [ht] at hm5 HG2
        obtain ⟨rfl, hx0⟩ := hm5
        have HF : Hid (R0 = .error x) := HG2.out
        have hne : ((x : Int) != 0) = true := by rw [bne_iff_ne]; omega
        have HX0 := hid hx0
        clear hx0 ht HG2
        have rr := HJ5.out.rr
        obtain ⟨m0, m1, m2, m3, m4, m5⟩ := cells6 rr
        have n0 := froz_of (i := 0) rr
        have n1 := froz_of (i := 1) rr
        have n2 := froz_of (i := 2) rr
        have n3 := froz_of (i := 3) rr
        have n4 := froz_of (i := 4) rr
        have n5 := froz_of (i := 5) rr
        clear rr
        go_wp2_with fail
        have f11 : ((((((w5.setCell ⟨w.heap.size, 0, none⟩ (.int .i64 0)).setCell ⟨w.heap.size, 1, none⟩ (.bool false)).setCell ⟨w.heap.size, 2, none⟩ (.string ⟨#[]⟩)).setCell ⟨w.heap.size, 3, none⟩ (.bool false)).setCell ⟨w.heap.size, 4, none⟩ (.string ⟨#[]⟩)).setCell ⟨w.heap.size, 5, none⟩ (.slice none 0 0)).heap[w.heap.size]? = some (.cells #[.int .i64 0, .bool false, .string ⟨#[]⟩, .bool false, .string ⟨#[]⟩, .slice none 0 0] 49 (0, 0)) := heap_set (heap_set (heap_set (heap_set (heap_set (heap_set HJ5.out.rr)))))
        obtain ⟨j0, j1, j2, j3, j4, j5⟩ := cells6 f11
        clear f11
        refine bodyPost_ret (v := .tuple #[noRec, .int .i64 0, .int .i64 x]) (by simp [results, noRec, Tryz.results111, go_sem, j0, j1, j2, j3, j4, j5]) rfl ?_
        refine ⟨store6_bel HJ5.out.bel, ?_⟩
        rw [HF.out]
        exact ⟨rfl, HX0.out⟩
      | ok y =>
        obtain ⟨t, k⟩ := y
        rw [ht] at hm5 HG2
        obtain ⟨rfl, hp5, hk5, hT5⟩ := hm5
        dsimp only at hp5 hk5 HG2
        have HP5 := hid hp5
        have HK5 := hid hk5
        clear ht hp5 hT5
        go_wp2_with fail
        have hOb : b ≠ w5.heap.size := by have := HJ5.out.r.lt; omega
        have hOw : w.heap.size < w5.heap.size := lt_of_heap HJ5.out.rr
        have HI : Hid (XI w q b w5.heap.size P s k (k1 + L) #[.int .i64 t, .bool false, .string ⟨#[]⟩, .bool false, .string ⟨#[]⟩, .slice none 0 0] (w5.alloc (.cells #[.int .i64 t, .bool false, .string ⟨#[]⟩, .bool false, .string ⟨#[]⟩, .slice none 0 0] 49))) := ⟨HP5.out.alloc _, heap_new _ _, HJ5.out.alloc _⟩
        have HKX := HK5
        clear HJ5 HP5 HK5 hk5
        generalize w5.alloc (.cells #[.int .i64 t, .bool false, .string ⟨#[]⟩, .bool false, .string ⟨#[]⟩, .slice none 0 0] 49) = w6 at *
        generalize w5.heap.size = O at *
        obtain ⟨kh, kd, ka, ea, hoa⟩ : ∃ kh kd ka ea, oq MX P k 0 = (kh, kd, ka, ea) := ⟨_, _, _, _, rfl⟩
        have hPs := HPS.out
        have hkx := HKX.out
        have co := fun x hh => xopt_any q P k 0 ((P.size : Int) - k) x hh hkx hPs (by omega) (by omega)
        have hka := oq_le (m := MX) (e := 0) hkx
        simp only [oq_left hPs, hoa] at co
        rw [hoa] at hka
        dsimp only at hka
        have HKA := hid hka
        have CO := hid co
        have HG3 : Hid (R0 = gg (k1 + L) (if ea ≠ 0 then .error ea else r5 P t kh kd ka)) := by show _ = _; rw [HG2.out]; dsimp only [bnd]; rw [r4_e hoa]
        clear HG2
        clear co hka hPs hkx hoa
        refine (xlI _ HI.out HKX.out HPS.out).mono ?_
        rintro r wl ⟨rfl, hIl⟩
        have HIl := hid hIl
        clear hIl HI HKX
        go_wp2_with fail
        refine (CO.out _ HIl.out.p).mono ?_
        rintro r wo ⟨rfl, hpo, hco⟩
        have ho6 := (hco.block O (lt_of_heap HIl.out.o) (rx_ne HIl.out.p HIl.out.o)).trans HIl.out.o
        have HJo := hid (HIl.out.j.ch HIl.out.p hqw hqb hco)
        have HO6 := hid ho6
        have HPo := hid hpo
        clear hpo hco CO HIl
        obtain ⟨m0, m1, m2, m3, m4, m5⟩ := cells6 ho6
        have n1 := froz_of (i := 1) ho6
        have n2 := froz_of (i := 2) ho6
        clear ho6
        by_cases hee : ea = 0
        · subst hee
          rw [if_neg (by simp)] at HG3
          have HI2 : Hid (XI w q b O P s ka (k1 + L) #[.int .i64 t, .bool kh, .string kd, .bool false, .string ⟨#[]⟩, .slice none 0 0] ((wo.setCell ⟨O, 1, none⟩ (.bool kh)).setCell ⟨O, 2, none⟩ (.string kd))) := ⟨(HPo.out.far _ (by have := rx_ne HPo.out HO6.out; exact fun e => this e.symm)).far _ (by have := rx_ne HPo.out HO6.out; exact fun e => this e.symm), heap_set (heap_set HO6.out), (HJo.out.set 1 _ hOb hOw).set 2 _ hOb hOw⟩
          have HKX := HKA
          clear HJo HO6 HPo HKA
          go_wp2_with fail
          clear m0 m1 m2 m3 m4 m5 n1 n2
          generalize ((wo.setCell ⟨O, 1, none⟩ (.bool kh)).setCell ⟨O, 2, none⟩ (.string kd)) = wv at *
          have HI := HI2
          clear HI2
          obtain ⟨vh, vd, kb, eb, hob⟩ : ∃ vh vd kb eb, oq MX P ka 0 = (vh, vd, kb, eb) := ⟨_, _, _, _, rfl⟩
          have hPs := HPS.out
          have hkx := HKX.out
          have co := fun x hh => xopt_any q P ka 0 ((P.size : Int) - ka) x hh hkx hPs (by omega) (by omega)
          have hka := oq_le (m := MX) (e := 0) hkx
          simp only [oq_left hPs, hob] at co
          rw [hob] at hka
          dsimp only at hka
          have HKA := hid hka
          have CO := hid co
          have HG4 : Hid (R0 = gg (k1 + L) (if eb ≠ 0 then .error eb else r6 P t kh kd vh vd kb)) := by show _ = _; rw [HG3.out, r5_e hob]
          clear HG3
          clear co hka hPs hkx hob
          refine (xlI _ HI.out HKX.out HPS.out).mono ?_
          rintro r wl ⟨rfl, hIl⟩
          have HIl := hid hIl
          clear hIl HI HKX
          go_wp2_with fail
          refine (CO.out _ HIl.out.p).mono ?_
          rintro r wo ⟨rfl, hpo, hco⟩
          have ho6 := (hco.block O (lt_of_heap HIl.out.o) (rx_ne HIl.out.p HIl.out.o)).trans HIl.out.o
          have HJo := hid (HIl.out.j.ch HIl.out.p hqw hqb hco)
          have HO6 := hid ho6
          have HPo := hid hpo
          clear hpo hco CO HIl
          obtain ⟨m0, m1, m2, m3, m4, m5⟩ := cells6 ho6
          have n3 := froz_of (i := 3) ho6
          have n4 := froz_of (i := 4) ho6
          clear ho6
          by_cases hee : eb = 0
          · subst hee
            rw [if_neg (by simp)] at HG4
            have HI2 : Hid (XI w q b O P s kb (k1 + L) #[.int .i64 t, .bool kh, .string kd, .bool vh, .string vd, .slice none 0 0] ((wo.setCell ⟨O, 3, none⟩ (.bool vh)).setCell ⟨O, 4, none⟩ (.string vd))) := ⟨(HPo.out.far _ (by have := rx_ne HPo.out HO6.out; exact fun e => this e.symm)).far _ (by have := rx_ne HPo.out HO6.out; exact fun e => this e.symm), heap_set (heap_set HO6.out), (HJo.out.set 3 _ hOb hOw).set 4 _ hOb hOw⟩
            have HKX := HKA
            clear HJo HO6 HPo HKA
            go_wp2_with fail
            clear m0 m1 m2 m3 m4 m5 n3 n4
            generalize ((wo.setCell ⟨O, 3, none⟩ (.bool vh)).setCell ⟨O, 4, none⟩ (.string vd)) = wv at *
            have HI := HI2
            clear HI2
            have hPs := HPS.out
            have hkx := HKX.out
            have CH := hid (fun x hh => xheaders_any q P kb x hh hkx hPs)
            have HG5 : Hid (R0 = gg (k1 + L) (bndh (fun y => if y.2 < P.size then .error 26 else .ok ⟨t, kh, kd, vh, vd, y.1⟩) (hd4 P kb))) := by show _ = _; rw [HG4.out, r6_bnd]
            clear hPs hkx HG4
            refine (CH.out _ HI.out.p).mono ?_
            rintro r wo ⟨hco, hmo⟩
            have ho6 := (hco.block O (lt_of_heap HI.out.o) (rx_ne HI.out.p HI.out.o)).trans HI.out.o
            have HJo := hid (HI.out.j.ch HI.out.p hqw hqb hco)
            have HO6 := hid ho6
            have hszh := HI.out.j.bel.size
            clear hco CH HKX HI
            obtain ⟨m0, m1, m2, m3, m4, m5⟩ := cells6 ho6
            have n5 := froz_of (i := 5) ho6
            clear ho6
            cases hh : hd4 P kb with
            | error x =>
              rw [hh] at hmo HG5
              obtain ⟨rfl, hx0⟩ := hmo
              have HF : Hid (R0 = .error x) := HG5.out
              have hne : ((x : Int) != 0) = true := by rw [bne_iff_ne]; omega
              have HX0 := hid hx0
              have HJE : Hid (XJ w b s (k1 + L) (wo.setCell ⟨O, 5, none⟩ (.slice none 0 0))) := HJo.out.set 5 _ hOb hOw
              clear hx0 hh HG5 HJo HO6
              have rr := HJE.out.rr
              obtain ⟨o0, o1, o2, o3, o4, o5⟩ := cells6 rr
              have p0 := froz_of (i := 0) rr
              have p1 := froz_of (i := 1) rr
              have p2 := froz_of (i := 2) rr
              have p3 := froz_of (i := 3) rr
              have p4 := froz_of (i := 4) rr
              have p5 := froz_of (i := 5) rr
              clear rr
              go_wp2_with fail
              have f11 : (((((((wo.setCell ⟨O, 5, none⟩ (.slice none 0 0)).setCell ⟨w.heap.size, 0, none⟩ (.int .i64 0)).setCell ⟨w.heap.size, 1, none⟩ (.bool false)).setCell ⟨w.heap.size, 2, none⟩ (.string ⟨#[]⟩)).setCell ⟨w.heap.size, 3, none⟩ (.bool false)).setCell ⟨w.heap.size, 4, none⟩ (.string ⟨#[]⟩)).setCell ⟨w.heap.size, 5, none⟩ (.slice none 0 0)).heap[w.heap.size]? = some (.cells #[.int .i64 0, .bool false, .string ⟨#[]⟩, .bool false, .string ⟨#[]⟩, .slice none 0 0] 49 (0, 0)) := heap_set (heap_set (heap_set (heap_set (heap_set (heap_set HJE.out.rr)))))
              obtain ⟨j0, j1, j2, j3, j4, j5⟩ := cells6 f11
              clear f11
              refine bodyPost_ret (v := .tuple #[noRec, .int .i64 0, .int .i64 x]) (by simp [results, noRec, Tryz.results111, go_sem, j0, j1, j2, j3, j4, j5]) rfl ?_
              refine ⟨store6_bel HJE.out.bel, ?_⟩
              rw [HF.out]
              exact ⟨rfl, HX0.out⟩
            | ok y =>
              obtain ⟨hs, kc⟩ := y
              rw [hh] at hmo HG5
              obtain ⟨v, rfl, hov, hpo, hkc⟩ := hmo
              obtain ⟨a, cap, rfl, _, _⟩ := OwnH.slice hov
              dsimp only [bndh] at HG5 hov hpo hkc
              have HOV := hid hov
              have HI : Hid (XI w q b O P s kc (k1 + L) #[.int .i64 t, .bool kh, .string kd, .bool vh, .string vd, .slice a hs.length cap] (wo.setCell ⟨O, 5, none⟩ (.slice a hs.length cap))) := ⟨hpo.far _ (by have := rx_ne hpo HO6.out; exact fun e => this e.symm), heap_set HO6.out, HJo.out.set 5 _ hOb hOw⟩
              have HOW : Hid (OwnH (wo.setCell ⟨O, 5, none⟩ (.slice a hs.length cap)) w.heap.size (.slice a hs.length cap) hs) := own_base hszh (own_apart hov (fun g hg => (heap_set_eq hov hg HO6.out)))
              have HKX := hid hkc
              clear hov hpo hkc HJo HO6 hh HOV
              go_wp2_with fail
              clear m0 m1 m2 m3 m4 m5 n5
              generalize wo.setCell ⟨O, 5, none⟩ (.slice a hs.length cap) = w9 at *
              have hPs := HPS.out
              have hkc := HKX.out
              have CL9 := hid (xleft_any q P kc 0 w9 HI.out.p hkc hPs)
              generalize hM1 : k1 + L = M1 at *
              by_cases hlast : kc < P.size
              · have hd9 : decide (kc < P.size) = true := decide_eq_true hlast
                rw [if_pos hlast] at HG5
                have HF : Hid (R0 = .error 26) := HG5.out
                clear HG5 hPs hkc
                refine CL9.out.mono ?_
                rintro r wl ⟨rfl, n9, rfl⟩
                have HJE := hid (HI.out.j.drewN n9)
                clear HI CL9 HOW
                generalize w9.drewN n9 = w10 at *
                have rr := HJE.out.rr
                obtain ⟨m0, m1, m2, m3, m4, m5⟩ := cells6 rr
                have n0 := froz_of (i := 0) rr
                have n1 := froz_of (i := 1) rr
                have n2 := froz_of (i := 2) rr
                have n3 := froz_of (i := 3) rr
                have n4 := froz_of (i := 4) rr
                have n5 := froz_of (i := 5) rr
                clear rr
                go_wp2_with fail
                have f11 : ((((((w10.setCell ⟨w.heap.size, 0, none⟩ (.int .i64 0)).setCell ⟨w.heap.size, 1, none⟩ (.bool false)).setCell ⟨w.heap.size, 2, none⟩ (.string ⟨#[]⟩)).setCell ⟨w.heap.size, 3, none⟩ (.bool false)).setCell ⟨w.heap.size, 4, none⟩ (.string ⟨#[]⟩)).setCell ⟨w.heap.size, 5, none⟩ (.slice none 0 0)).heap[w.heap.size]? = some (.cells #[.int .i64 0, .bool false, .string ⟨#[]⟩, .bool false, .string ⟨#[]⟩, .slice none 0 0] 49 (0, 0)) := heap_set (heap_set (heap_set (heap_set (heap_set (heap_set HJE.out.rr)))))
                obtain ⟨j0, j1, j2, j3, j4, j5⟩ := cells6 f11
                clear f11
                refine bodyPost_ret (v := .tuple #[noRec, .int .i64 0, .int .i64 26]) (by simp [results, noRec, Tryz.results111, go_sem, j0, j1, j2, j3, j4, j5]) rfl ?_
                refine ⟨store6_bel HJE.out.bel, ?_⟩
                rw [HF.out]
                exact ⟨rfl, by decide⟩
              · have hd9 : decide (kc < P.size) = false := decide_eq_false hlast
                rw [if_neg hlast] at HG5
                clear hPs hkc
                refine CL9.out.mono ?_
                rintro r wl ⟨rfl, n9, rfl⟩
                have HI9 := hid (HI.out.drewN n9)
                have HOW9 := hid (show OwnH (w9.drewN n9) w.heap.size (.slice a hs.length cap) hs from HOW.out)
                clear HI CL9 HOW
                generalize w9.drewN n9 = w10 at *
                have CA := hid (xat_any b s M1 0 w10 HI9.out.j.r)
                by_cases hbig : 16777216 < M1
                · have hd8 : decide ((16777216 : Int) < (M1 : Int)) = true := decide_eq_true (by omega)
                  have HF : Hid (R0 = .error 66) := by show _ = _; rw [HG5.out]; unfold gg; dsimp only; rw [if_pos hbig]
                  have HJE := hid HI9.out.j
                  clear hbig HG5
                  go_wp2_with fail
                  refine CA.out.mono ?_
                  rintro r w11 ⟨rfl, rfl⟩
                  have rr := HJE.out.rr
                  obtain ⟨m0, m1, m2, m3, m4, m5⟩ := cells6 rr
                  have n0 := froz_of (i := 0) rr
                  have n1 := froz_of (i := 1) rr
                  have n2 := froz_of (i := 2) rr
                  have n3 := froz_of (i := 3) rr
                  have n4 := froz_of (i := 4) rr
                  have n5 := froz_of (i := 5) rr
                  clear rr
                  go_wp2_with fail
                  have f11 : ((((((w11.setCell ⟨w.heap.size, 0, none⟩ (.int .i64 0)).setCell ⟨w.heap.size, 1, none⟩ (.bool false)).setCell ⟨w.heap.size, 2, none⟩ (.string ⟨#[]⟩)).setCell ⟨w.heap.size, 3, none⟩ (.bool false)).setCell ⟨w.heap.size, 4, none⟩ (.string ⟨#[]⟩)).setCell ⟨w.heap.size, 5, none⟩ (.slice none 0 0)).heap[w.heap.size]? = some (.cells #[.int .i64 0, .bool false, .string ⟨#[]⟩, .bool false, .string ⟨#[]⟩, .slice none 0 0] 49 (0, 0)) := heap_set (heap_set (heap_set (heap_set (heap_set (heap_set HJE.out.rr)))))
                  obtain ⟨j0, j1, j2, j3, j4, j5⟩ := cells6 f11
                  clear f11
                  refine bodyPost_ret (v := .tuple #[noRec, .int .i64 0, .int .i64 66]) (by simp [results, noRec, Tryz.results111, go_sem, j0, j1, j2, j3, j4, j5]) rfl ?_
                  refine ⟨store6_bel HJE.out.bel, ?_⟩
                  rw [HF.out]
                  exact ⟨rfl, by decide⟩
                · have hd8 : decide ((16777216 : Int) < (M1 : Int)) = false := decide_eq_false (by omega)
                  have HF : Hid (R0 = .ok (⟨t, kh, kd, vh, vd, hs⟩, M1)) := by show _ = _; rw [HG5.out]; unfold gg; dsimp only; rw [if_neg hbig]
                  clear hbig HG5
                  go_wp2_with fail
                  refine CA.out.mono ?_
                  rintro r w11 ⟨rfl, rfl⟩
                  go_wp2_with fail
                  have CA0 := hid (xat_any b s M1 0 w11.drew HI9.out.j.r.drew)
                  have HG := hid HI9.out.o
                  have HG' : Hid (w11.drew.heap[O]? = some (.cells #[.int .i64 t, .bool kh, .string kd, .bool vh, .string vd, .slice a hs.length cap] 49 (0, 0))) := HI9.out.o
                  have HRR := hid HI9.out.j.rr
                  have HBB := hid HI9.out.j.bel
                  have y1 : O ≠ w.heap.size := by omega
                  have rr := HI9.out.j.rr
                  obtain ⟨m0, m1, m2, m3, m4, m5⟩ := cells6 rr
                  have n0 := froz_of (i := 0) rr
                  have n1 := froz_of (i := 1) rr
                  have n2 := froz_of (i := 2) rr
                  have n3 := froz_of (i := 3) rr
                  have n4 := froz_of (i := 4) rr
                  have n5 := froz_of (i := 5) rr
                  clear rr HI9
                  go_region_held3 (fun x => x.cell? ⟨O, 0, none⟩ = some (.int .i64 t) ∧ x.cell? ⟨O, 1, none⟩ = some (.bool kh) ∧ x.cell? ⟨O, 2, none⟩ = some (.string kd) ∧ x.cell? ⟨O, 3, none⟩ = some (.bool vh) ∧ x.cell? ⟨O, 4, none⟩ = some (.string vd) ∧ x.cell? ⟨O, 5, none⟩ = some (.slice a hs.length cap)) (first | with_reducible exact cells6 HG.out | with_reducible exact cells6 HG'.out | with_reducible exact cells6 (World.drew_heap (store6 HG.out y1))) (first | (go_at_call 158; with_reducible refine CA0.out.mono ?_; rintro r w4 ⟨rfl, rfl⟩))
                  have f11 : ((((((w11.setCell ⟨w.heap.size, 0, none⟩ (.int .i64 t)).setCell ⟨w.heap.size, 1, none⟩ (.bool kh)).setCell ⟨w.heap.size, 2, none⟩ (.string kd)).setCell ⟨w.heap.size, 3, none⟩ (.bool vh)).setCell ⟨w.heap.size, 4, none⟩ (.string vd)).setCell ⟨w.heap.size, 5, none⟩ (.slice a hs.length cap)).drew.heap[w.heap.size]? = some (.cells #[.int .i64 t, .bool kh, .string kd, .bool vh, .string vd, .slice a hs.length cap] 49 (0, 0)) := World.drew_heap (heap_set (heap_set (heap_set (heap_set (heap_set (heap_set HRR.out))))))
                  obtain ⟨j0, j1, j2, j3, j4, j5⟩ := cells6 f11
                  clear f11
                  go_wp2_with fail
                  refine bodyPost_ret (v := .tuple #[.agg #[.int .i64 t, .bool kh, .string kd, .bool vh, .string vd, .slice a hs.length cap], .int .i64 M1, .int .i64 0]) (by simp [results, Tryz.results111, go_sem, j0, j1, j2, j3, j4, j5]) rfl ?_
                  refine ⟨(store6_bel HBB.out).drew, ?_⟩
                  rw [HF.out]
                  have hx : ∀ g, (Value.slice a hs.length cap).ownBlock = some g → g ≠ w.heap.size := fun g hg h => own_ne HOW9.out (h ▸ HRR.out) (by decide) hg
                  exact ⟨a, cap, rfl, own_apart HOW9.out (fun g hg => store6_eqd (hx g hg))⟩
          · have hne : ((eb : Int) != 0) = true := by rw [bne_iff_ne]; omega
            rw [if_pos hee] at HG4
            have HF : Hid (R0 = .error eb) := HG4.out
            have HX0 := hid hee
            have HJE : Hid (XJ w b s (k1 + L) ((wo.setCell ⟨O, 3, none⟩ (.bool vh)).setCell ⟨O, 4, none⟩ (.string vd))) := (HJo.out.set 3 _ hOb hOw).set 4 _ hOb hOw
            clear hee HG4 HJo HO6 HPo HKA
            have rr := HJE.out.rr
            obtain ⟨o0, o1, o2, o3, o4, o5⟩ := cells6 rr
            have p0 := froz_of (i := 0) rr
            have p1 := froz_of (i := 1) rr
            have p2 := froz_of (i := 2) rr
            have p3 := froz_of (i := 3) rr
            have p4 := froz_of (i := 4) rr
            have p5 := froz_of (i := 5) rr
            clear rr
            go_wp2_with fail
            have f11 : ((((((((wo.setCell ⟨O, 3, none⟩ (.bool vh)).setCell ⟨O, 4, none⟩ (.string vd)).setCell ⟨w.heap.size, 0, none⟩ (.int .i64 0)).setCell ⟨w.heap.size, 1, none⟩ (.bool false)).setCell ⟨w.heap.size, 2, none⟩ (.string ⟨#[]⟩)).setCell ⟨w.heap.size, 3, none⟩ (.bool false)).setCell ⟨w.heap.size, 4, none⟩ (.string ⟨#[]⟩)).setCell ⟨w.heap.size, 5, none⟩ (.slice none 0 0)).heap[w.heap.size]? = some (.cells #[.int .i64 0, .bool false, .string ⟨#[]⟩, .bool false, .string ⟨#[]⟩, .slice none 0 0] 49 (0, 0)) := heap_set (heap_set (heap_set (heap_set (heap_set (heap_set HJE.out.rr)))))
            obtain ⟨j0, j1, j2, j3, j4, j5⟩ := cells6 f11
            clear f11
            refine bodyPost_ret (v := .tuple #[noRec, .int .i64 0, .int .i64 eb]) (by simp [results, noRec, Tryz.results111, go_sem, j0, j1, j2, j3, j4, j5]) rfl ?_
            refine ⟨store6_bel HJE.out.bel, ?_⟩
            rw [HF.out]
            exact ⟨rfl, HX0.out⟩
        · have hne : ((ea : Int) != 0) = true := by rw [bne_iff_ne]; omega
          rw [if_pos hee] at HG3
          have HF : Hid (R0 = .error ea) := HG3.out
          have HX0 := hid hee
          have HJE : Hid (XJ w b s (k1 + L) ((wo.setCell ⟨O, 1, none⟩ (.bool kh)).setCell ⟨O, 2, none⟩ (.string kd))) := (HJo.out.set 1 _ hOb hOw).set 2 _ hOb hOw
          clear hee HG3 HJo HO6 HPo HKA
          have rr := HJE.out.rr
          obtain ⟨o0, o1, o2, o3, o4, o5⟩ := cells6 rr
          have p0 := froz_of (i := 0) rr
          have p1 := froz_of (i := 1) rr
          have p2 := froz_of (i := 2) rr
          have p3 := froz_of (i := 3) rr
          have p4 := froz_of (i := 4) rr
          have p5 := froz_of (i := 5) rr
          clear rr
          go_wp2_with fail
          have f11 : ((((((((wo.setCell ⟨O, 1, none⟩ (.bool kh)).setCell ⟨O, 2, none⟩ (.string kd)).setCell ⟨w.heap.size, 0, none⟩ (.int .i64 0)).setCell ⟨w.heap.size, 1, none⟩ (.bool false)).setCell ⟨w.heap.size, 2, none⟩ (.string ⟨#[]⟩)).setCell ⟨w.heap.size, 3, none⟩ (.bool false)).setCell ⟨w.heap.size, 4, none⟩ (.string ⟨#[]⟩)).setCell ⟨w.heap.size, 5, none⟩ (.slice none 0 0)).heap[w.heap.size]? = some (.cells #[.int .i64 0, .bool false, .string ⟨#[]⟩, .bool false, .string ⟨#[]⟩, .slice none 0 0] 49 (0, 0)) := heap_set (heap_set (heap_set (heap_set (heap_set (heap_set HJE.out.rr)))))
          obtain ⟨j0, j1, j2, j3, j4, j5⟩ := cells6 f11
          clear f11
          refine bodyPost_ret (v := .tuple #[noRec, .int .i64 0, .int .i64 ea]) (by simp [results, noRec, Tryz.results111, go_sem, j0, j1, j2, j3, j4, j5]) rfl ?_
          refine ⟨store6_bel HJE.out.bel, ?_⟩
          rw [HF.out]
          exact ⟨rfl, HX0.out⟩
    · have hd1 : decide ((s.size : Int) - k1 < (L : Int)) = true := decide_eq_true (by omega)
      have HF : Hid (R0 = .error 21) := (HR0.out ()).symm.trans (rd_e2 (first := first) HN.out HU.out (by omega))
      clear hx hs hk1
      go_wp2_with fail
      refine CL.out.mono ?_
      rintro r w3 ⟨rfl, n3, rfl⟩
      have HJ3 := hid (HJ2.out.drewN n3)
      clear HJ2 CL
      generalize w2.drewN n3 = w3 at *
      have rr := HJ3.out.rr
      obtain ⟨m0, m1, m2, m3, m4, m5⟩ := cells6 rr
      have n0 := froz_of (i := 0) rr
      have n1 := froz_of (i := 1) rr
      have n2 := froz_of (i := 2) rr
      have n3 := froz_of (i := 3) rr
      have n4 := froz_of (i := 4) rr
      have n5 := froz_of (i := 5) rr
      clear rr
      go_wp2_with fail
      have f11 : ((((((w3.setCell ⟨w.heap.size, 0, none⟩ (.int .i64 0)).setCell ⟨w.heap.size, 1, none⟩ (.bool false)).setCell ⟨w.heap.size, 2, none⟩ (.string ⟨#[]⟩)).setCell ⟨w.heap.size, 3, none⟩ (.bool false)).setCell ⟨w.heap.size, 4, none⟩ (.string ⟨#[]⟩)).setCell ⟨w.heap.size, 5, none⟩ (.slice none 0 0)).heap[w.heap.size]? = some (.cells #[.int .i64 0, .bool false, .string ⟨#[]⟩, .bool false, .string ⟨#[]⟩, .slice none 0 0] 49 (0, 0)) := heap_set (heap_set (heap_set (heap_set (heap_set (heap_set HJ3.out.rr)))))
      obtain ⟨j0, j1, j2, j3, j4, j5⟩ := cells6 f11
      clear f11
      refine bodyPost_ret (v := .tuple #[noRec, .int .i64 0, .int .i64 21]) (by simp [results, noRec, Tryz.results111, go_sem, j0, j1, j2, j3, j4, j5]) rfl ?_
      refine ⟨store6_bel HJ3.out.bel, ?_⟩
      rw [HF.out]
      exact ⟨rfl, by decide⟩
  · have HF : Hid (R0 = .error e1) := (HR0.out ()).symm.trans (rd_e1 (first := first) HN.out HU.out he1)
    have hne : ((e1 : Int) != 0) = true := by rw [bne_iff_ne]; omega
    have HX0 := hid he1
    have HJJ : Hid (∃ e, RX w2 b s k1 e) := ⟨_, HR2.out⟩
    clear he1
    have rr := HRR2.out
    obtain ⟨m0, m1, m2, m3, m4, m5⟩ := cells6 rr
    have n0 := froz_of (i := 0) rr
    have n1 := froz_of (i := 1) rr
    have n2 := froz_of (i := 2) rr
    have n3 := froz_of (i := 3) rr
    have n4 := froz_of (i := 4) rr
    have n5 := froz_of (i := 5) rr
    clear rr
    go_wp2_with fail
    have f11 : ((((((w2.setCell ⟨w.heap.size, 0, none⟩ (.int .i64 0)).setCell ⟨w.heap.size, 1, none⟩ (.bool false)).setCell ⟨w.heap.size, 2, none⟩ (.string ⟨#[]⟩)).setCell ⟨w.heap.size, 3, none⟩ (.bool false)).setCell ⟨w.heap.size, 4, none⟩ (.string ⟨#[]⟩)).setCell ⟨w.heap.size, 5, none⟩ (.slice none 0 0)).heap[w.heap.size]? = some (.cells #[.int .i64 0, .bool false, .string ⟨#[]⟩, .bool false, .string ⟨#[]⟩, .slice none 0 0] 49 (0, 0)) := heap_set (heap_set (heap_set (heap_set (heap_set (heap_set HRR2.out)))))
    obtain ⟨j0, j1, j2, j3, j4, j5⟩ := cells6 f11
    clear f11
    refine bodyPost_ret (v := .tuple #[noRec, .int .i64 0, .int .i64 e1]) (by simp [results, noRec, Tryz.results111, go_sem, j0, j1, j2, j3, j4, j5]) rfl ?_
    refine ⟨store6_bel HB2.out, ?_⟩
    rw [HF.out]
    exact ⟨rfl, HX0.out⟩
theorem xread_any (s : ByteArray) (first n : Int) (w : World) (hs : s.size ≤ 9223372036854775807) (hf : I64 first) :
    Calls Tryz.prog 111 #[.string s, .int .i64 first, .int .i64 n] w (ReadPost (rd5 s first n) w) := by
  by_cases hn : 0 ≤ n ∧ n < 65536
  · obtain ⟨N, rfl⟩ : ∃ N : Nat, n = (N : Int) := ⟨n.toNat, by omega⟩
    exact xread_yes s first N w (by omega) hs hf _ rfl
  · exact xread_no s first n w hn
end Go.Proofs.YtihokphamgkkcaaGreat
