/- Name: the program's and the document's. -/
import Derived.Test.YtgffipkbbenddaaDoorDch
import Derived.Test.YtgffipkbbenddaaDoorNmm
import Derived.Test.YtgffipkbbenddaaDoorNlay
import Derived.Deep.RegionHeld3
namespace Go.Proofs.YtgffipkbbenddaaDoor
open Go.RowKit Go.Lib
/-- A text of bytes. -/
def ba (l : List UInt8) : ByteArray := ⟨l.toArray⟩
theorem ba_size (l : List UInt8) : (ba l).size = l.length := by simp [ba, ByteArray.size]
theorem ba_of (s : ByteArray) : ba s.data.toList = s := by simp [ba]
theorem ba_app (a b : List UInt8) : ba a ++ ba b = ba (a ++ b) := by apply ByteArray.ext; simp [ba, ByteArray.data_append]
theorem ba_inj {a b : List UInt8} (h : ba a = ba b) : a = b := by have := congrArg (fun x => x.data.toList) h; simpa [ba] using this
/-- The package variables hold what the program's text lays. -/
structure Gd (w : World) : Prop where
  g0 : ∃ t fz, w.heap[0]? = some (.cells #[.string (ba (en 0)), .string (ba (en 1)), .string (ba (en 2))] t fz)
  tab : TabIs Tryd.prog w "internal/strconv.uint64pow10" .u64 pow10Tab
  t1 : 1 < w.heap.size
  sy : ∃ te pe, w.cell? ⟨3, 0, none⟩ = some (.iface te pe)
  ra : ∃ te pe, w.cell? ⟨4, 0, none⟩ = some (.iface te pe)
theorem Tryd.gpow : Tryd.prog.globalNamed "internal/strconv.uint64pow10" = some 1 := by kernel_rfl
theorem cell_lt {w : World} {p : Addr} {v : Value} (h : w.cell? p = some v) : p.block < w.heap.size := World.block_lt_of_cell? _ _ h
theorem Gd.kept {w w' : World} {H : Nat} (h : Gd w) (hb : Below H w w') (hH : w.heap.size ≤ H) : Gd w' := by
  obtain ⟨t, fz, h0⟩ := h.g0
  obtain ⟨te, pe, h3⟩ := h.sy
  obtain ⟨te', pe', h4⟩ := h.ra
  refine ⟨⟨t, fz, (hb.block _ (Nat.lt_of_lt_of_le (lt_of_heap h0) hH)).trans h0⟩, ?_, Nat.lt_of_lt_of_le h.t1 hb.size, ⟨te, pe, (hb.cell (p := ⟨3, 0, none⟩) (Nat.lt_of_lt_of_le (cell_lt h3) hH)).trans h3⟩, ⟨te', pe', (hb.cell (p := ⟨4, 0, none⟩) (Nat.lt_of_lt_of_le (cell_lt h4) hH)).trans h4⟩⟩
  have ht := h.tab
  have h1 : w'.heap[1]? = w.heap[1]? := hb.block _ (Nat.lt_of_lt_of_le h.t1 hH)
  unfold TabIs World.var? at ht ⊢
  rw [Tryd.gpow] at ht ⊢
  simp only [Option.bind_some] at ht ⊢
  rw [h1]
  exact ht
theorem grow_below (w : World) (k : Nat) (os : Array Obj) : Below w.heap.size w (Sort.grow (w.drewN k) os) := by
  refine ⟨rfl, rfl, rfl, ?_, fun i hi => ?_⟩
  · simp [Sort.grow, World.drewN]
  · simp only [Sort.grow, World.drewN]
    exact Array.getElem?_append_left hi
theorem form_any (b : Nat) (w : World) (hb : b ≤ 4611686018427387904) (G : Gd w) :
    Calls Tryd.prog 21 #[.int .i64 b, .int .i64 10] w fun e w' => e = .returned (.string (ba (decDigits b))) ∧ Below w.heap.size w w' := by
  refine (YtgffipkbbenddaaDoor.strconv_FormatInt_10 b (by omega) (by omega) w G.tab).mono ?_
  rintro e w' ⟨rfl, k, os, rfl⟩
  refine ⟨?_, grow_below w k os⟩
  unfold itoa
  rw [if_neg (by omega)]
  rfl
/-- What Name answers. -/
def nmV (base kind : Int) : ByteArray × Int := if base < 0 ∨ 4611686018427387904 < base then (ba [], 1) else if kind < 0 ∨ 2 < kind then (ba [], 6) else (ba (nm base.toNat kind.toNat), 0)
theorem name_out (base kind : Int) (w : World) (h : base < 0 ∨ 4611686018427387904 < base) :
    Calls Tryd.prog 10 #[.int .i64 base, .int .i64 kind] w fun e w' => e = .returned (.tuple #[.string ByteArray.empty, .int .i64 1]) ∧ Below w.heap.size w w' := by
  by_cases h1 : base < 0
  · clear h
    go_enter Tryd.func10, Tryd.ntmps10
    go_wp2_with fail
    go_ret2
    exact ⟨rfl, Below.refl _ _⟩
  · have h2 : 4611686018427387904 < base := by omega
    clear h
    go_enter Tryd.func10, Tryd.ntmps10
    go_wp2_with fail
    go_ret2
    exact ⟨rfl, Below.refl _ _⟩
theorem name_kind (base kind : Int) (w : World) (h0 : 0 ≤ base) (h1 : base ≤ 4611686018427387904) (h : kind < 0 ∨ 2 < kind) :
    Calls Tryd.prog 10 #[.int .i64 base, .int .i64 kind] w fun e w' => e = .returned (.tuple #[.string ByteArray.empty, .int .i64 6]) ∧ Below w.heap.size w w' := by
  have d0 : ¬ base < 0 := by omega
  have d1 : ¬ 4611686018427387904 < base := by omega
  by_cases h2 : kind < 0
  · clear h h0 h1
    go_enter Tryd.func10, Tryd.ntmps10
    go_wp2_with fail
    go_ret2
    exact ⟨rfl, Below.refl _ _⟩
  · have h3 : 2 < kind := by omega
    clear h h0 h1
    go_enter Tryd.func10, Tryd.ntmps10
    go_wp2_with fail
    go_ret2
    exact ⟨rfl, Below.refl _ _⟩
theorem bl_drew {H : Nat} {a b : World} (h : Below H a b) (hs : H ≤ a.heap.size) : Below H a b.drew := h.trans ((((Ch.refl (fun _ => False) b).drew).below (Nat.le_refl _) (fun _ _ e => e)).mono (Nat.le_trans hs h.size))
theorem Gd.cell {w : World} (G : Gd w) {k : Nat} (hk : k ≤ 2) : w.cell? ⟨0, k, none⟩ = some (.string (ba (en k))) := by
  obtain ⟨t, fz, h0⟩ := G.g0
  rw [cell_of h0]
  match k, hk with
  | 0, _ => rfl
  | 1, _ => rfl
  | 2, _ => rfl
set_option maxHeartbeats 400000 in
set_option maxRecDepth 20000 in
theorem name_good (b k : Nat) (w : World) (hb : b ≤ 4611686018427387904) (hk : k ≤ 2) (G : Gd w) :
    Calls Tryd.prog 10 #[.int .i64 b, .int .i64 k] w fun e w' => e = .returned (.tuple #[.string (ba (nm b k)), .int .i64 0]) ∧ Below w.heap.size w w' := by
  have d0 : ¬ (b : Int) < 0 := by omega
  have d1 : ¬ (4611686018427387904 : Int) < (b : Int) := by omega
  have HF := hid (form_any b w hb G)
  obtain ⟨hl, hD⟩ := decD 19 b (by omega)
  obtain ⟨S, hS⟩ : ∃ S, S = ba (decDigits b) := ⟨_, rfl⟩
  have hn : S.size = (decDigits b).length := by rw [hS, ba_size]
  rw [← hS] at HF
  have hln : S.size ≤ 20 := by omega
  obtain ⟨R, hR⟩ : ∃ R, R = ba (List.replicate (20 - S.size) 48) := ⟨_, rfl⟩
  obtain ⟨E, hE⟩ : ∃ E, E = ba (en k) := ⟨_, rfl⟩
  have HQ : Hid (R ++ S ++ E = ba (nm b k)) := by
    show _ = _
    rw [hR, hn, hS, hE, ba_app, ba_app, nm, ← hD]
  have c1 : ¬ 9223372036854775807 < R.size + S.size := by rw [hR, ba_size, List.length_replicate]; omega
  have c2 : ¬ 9223372036854775807 < (R ++ S).size + E.size := by rw [ByteArray.size_append, hR, hE, ba_size, ba_size, List.length_replicate, en_len]; omega
  have c3 : ¬ 9223372036854775807 < R.size + S.size + E.size := by rw [← ByteArray.size_append]; exact c2
  have hW : IntKind.i64.wrap (20 - (S.size : Int)) = ((20 - S.size : Nat) : Int) := by rw [IntKind.wrap_i64]; omega
  have HR : Hid (∀ wx, Below w.heap.size w wx → Calls Tryd.prog 22 #[.string ⟨#[48]⟩, .int .i64 (IntKind.i64.wrap (20 - (S.size : Int)))] wx fun e w' => e = .returned (.string R) ∧ Below w.heap.size w w') := fun wx hx => by
    rw [hW]
    refine (YtgffipkbbenddaaDoor.strings_Repeat (ba [48]) (20 - S.size) wx (by omega) (by rw [ba_size]; simp; omega)).mono ?_
    rintro e w' ⟨rfl, h⟩
    exact ⟨by rw [hR, ← rep1]; rfl, hx.trans (h.mono hx.size)⟩
  clear hW
  have HC : Hid (∀ wx, Below w.heap.size w wx → wx.cell? ⟨0, k, none⟩ = some (.string E)) := fun wx hx => by rw [hE]; exact (G.kept hx (Nat.le_refl _)).cell hk
  generalize ba (nm b k) = Q at HQ
  clear hl hD hS hn hR hE G hb
  go_enter Tryd.func10, Tryd.ntmps10
  have k0 : ¬ (k : Int) < 0 := by omega
  have k1 : ¬ (2 : Int) < (k : Int) := by omega
  go_wp2_with (go_at_call 21; refine HF.out.mono ?_; rintro e w1 ⟨rfl, hb1⟩)
  clear hln HF
  have hcell := HC.out _ hb1
  obtain rfl | rfl | rfl : k = 0 ∨ k = 1 ∨ k = 2 := by omega
  case inl =>
    go_region_held3 (fun x => x.cell? ⟨0, 0, none⟩ = some (.string E)) ((first | assumption | go_keep)) ((go_at_call 22; refine (HR.out _ (by first | exact hb1 | exact bl_drew hb1 (Nat.le_refl _))).mono ?_; rintro e w2 ⟨rfl, hb2⟩; have hcell2 := HC.out _ hb2))
    go_wp2_with fail
    go_ret2
    exact ⟨by rw [← HQ.out]; rfl, hb2⟩
  case inr.inl =>
    go_region_held3 (fun x => x.cell? ⟨0, 1, none⟩ = some (.string E)) ((first | assumption | go_keep)) ((go_at_call 22; refine (HR.out _ (by first | exact hb1 | exact bl_drew hb1 (Nat.le_refl _))).mono ?_; rintro e w2 ⟨rfl, hb2⟩; have hcell2 := HC.out _ hb2))
    go_wp2_with fail
    go_ret2
    exact ⟨by rw [← HQ.out]; rfl, hb2⟩
  case inr.inr =>
    go_region_held3 (fun x => x.cell? ⟨0, 2, none⟩ = some (.string E)) ((first | assumption | go_keep)) ((go_at_call 22; refine (HR.out _ (by first | exact hb1 | exact bl_drew hb1 (Nat.le_refl _))).mono ?_; rintro e w2 ⟨rfl, hb2⟩; have hcell2 := HC.out _ hb2))
    go_wp2_with fail
    go_ret2
    exact ⟨by rw [← HQ.out]; rfl, hb2⟩
theorem name_any (base kind : Int) (w : World) (G : Gd w) :
    Calls Tryd.prog 10 #[.int .i64 base, .int .i64 kind] w fun e w' => e = .returned (.tuple #[.string (nmV base kind).1, .int .i64 (nmV base kind).2]) ∧ Below w.heap.size w w' := by
  unfold nmV
  by_cases h1 : base < 0 ∨ 4611686018427387904 < base
  · rw [if_pos h1]; exact name_out base kind w h1
  · rw [if_neg h1]
    by_cases h2 : kind < 0 ∨ 2 < kind
    · rw [if_pos h2]; exact name_kind base kind w (by omega) (by omega) h2
    · rw [if_neg h2]
      obtain ⟨b, rfl⟩ : ∃ b : Nat, base = b := ⟨base.toNat, by omega⟩
      obtain ⟨k, rfl⟩ : ∃ k : Nat, kind = k := ⟨kind.toNat, by omega⟩
      exact name_good b k w (by omega) (by omega) G
end Go.Proofs.YtgffipkbbenddaaDoor
