/- DiskMost: names by numbers; so many files. -/
import Derived.Test.YtnopamkoegalpaaFac
import Derived.Lib.SlBytesConst
namespace Go.Proofs.Ytnopamkoegalpaa
open Go.RowKit
/-- The name with a number. -/
def nmk (i : Nat) : ByteArray := ⟨#[UInt8.ofNat (97 + i % 16), UInt8.ofNat (97 + i / 16 % 16), UInt8.ofNat (97 + i / 256 % 16), UInt8.ofNat (97 + i / 4096)]⟩
/-- So many files are made, and the row of bytes is no file's. -/
def MR (w wr : World) (d bb j : Nat) : Prop := ∃ (V : Vw) (ft : Nat → Prop) (c0 c1 c2 c3 : Value), Ds wr d ft (clamp 0) 0 0 V ∧ ¬ ft bb ∧ (∀ i, ft i → w.heap.size ≤ i) ∧ Below w.heap.size w wr ∧ bb < wr.heap.size ∧ w.heap.size ≤ bb ∧ wr.heap[bb]? = some (.cells #[c0, c1, c2, c3] 5 (4, 5)) ∧ V.length = j ∧ ∀ x, (∃ y ∈ V, y.1 = x) ↔ ∃ i, i < j ∧ x = nmk i
theorem yq16 {j Q : Nat} (hj : j < 65536) (h : j / 16 = Q) : wrap64 ((j : Int) / 16) = Q := by unfold wrap64; omega
theorem yq256 {j Q : Nat} (hj : j < 65536) (h : j / 256 = Q) : wrap64 ((j : Int) / 256) = Q := by unfold wrap64; omega
theorem yq4096 {j Q : Nat} (hj : j < 65536) (h : j / 4096 = Q) : wrap64 ((j : Int) / 4096) = Q := by unfold wrap64; omega
theorem yr16 {Q R : Nat} (h : Q % 16 = R) : (Q : Int).tmod 16 = R := by rw [Int.tmod_eq_emod_of_nonneg (by omega)]; omega
theorem yx {R X : Nat} (hr : R < 100) (h : 97 + R = X) : wrap64 (97 + (R : Int)) = X ∧ (X : Int) % 256 = X ∧ X < 256 := by unfold wrap64; omega
theorem yx0 {j X : Nat} (h : 97 + j % 16 = X) : 97 + (j : Int) % 16 = X ∧ X < 256 := by omega
theorem ylt {Q R : Nat} (h : Q % 16 = R) : R < 100 := by omega
theorem ylt2 {j Q : Nat} (hj : j < 65536) (h : j / 4096 = Q) : Q < 100 := by omega
theorem u8_at (X : Nat) (h : X < 256) : ((UInt8.ofNat X).toNat : Int) = X := by rw [UInt8.toNat_ofNat']; omega
theorem conv4 {ww : World} {bb X0 X1 X2 X3 : Nat} (h : ww.heap[bb]? = some (.cells #[.int .u8 X0, .int .u8 X1, .int .u8 X2, .int .u8 X3] 5 (4, 5))) (hb : X0 < 256 ∧ X1 < 256 ∧ X2 < 256 ∧ X3 < 256) : (convert 36 9 (.slice (some ⟨bb, 0, none⟩) 4 4)).run Try.prog ww = .ok (.string ⟨#[UInt8.ofNat X0, UInt8.ofNat X1, UInt8.ofNat X2, UInt8.ofNat X3]⟩) ww := by
  refine run_convert_bytes_back (P := Try.prog) ww 36 9 5 ⟨bb, 0, none⟩ 4 [UInt8.ofNat X0, UInt8.ofNat X1, UInt8.ofNat X2, UInt8.ofNat X3] Try.underBytes Try.under5 Try.under9 (fun i hi => ?_)
  rw [add_lit, cell_of (i := i) h]
  have h4 : i < 4 := hi
  match i, h4 with
  | 0, _ => exact congrArg (fun z => some (Value.int .u8 z)) (u8_at X0 hb.1).symm
  | 1, _ => exact congrArg (fun z => some (Value.int .u8 z)) (u8_at X1 hb.2.1).symm
  | 2, _ => exact congrArg (fun z => some (Value.int .u8 z)) (u8_at X2 hb.2.2.1).symm
  | 3, _ => exact congrArg (fun z => some (Value.int .u8 z)) (u8_at X3 hb.2.2.2).symm
theorem nmk_size (i : Nat) : (nmk i).size = 4 := rfl
theorem u8_inj {a b : Nat} (ha : a < 256) (hb : b < 256) (h : UInt8.ofNat a = UInt8.ofNat b) : a = b := by
  have := congrArg UInt8.toNat h
  rw [UInt8.toNat_ofNat', UInt8.toNat_ofNat'] at this
  omega
theorem nmk_inj {i j : Nat} (hi : i < 65536) (hj : j < 65536) (h : nmk i = nmk j) : i = j := by
  have h1 : (nmk i).data.toList = (nmk j).data.toList := by rw [h]
  have h2 : [UInt8.ofNat (97 + i % 16), UInt8.ofNat (97 + i / 16 % 16), UInt8.ofNat (97 + i / 256 % 16), UInt8.ofNat (97 + i / 4096)] = [UInt8.ofNat (97 + j % 16), UInt8.ofNat (97 + j / 16 % 16), UInt8.ofNat (97 + j / 256 % 16), UInt8.ofNat (97 + j / 4096)] := h1
  simp only [List.cons.injEq, and_true] at h2
  obtain ⟨e0, e1, e2, e3⟩ := h2
  have e0 := u8_inj (by omega) (by omega) e0
  have e1 := u8_inj (by omega) (by omega) e1
  have e2 := u8_inj (by omega) (by omega) e2
  have e3 := u8_inj (by omega) (by omega) e3
  omega
theorem vl_none {nm : ByteArray} {V : Vw} : vl nm V = none ↔ ¬ ∃ y ∈ V, y.1 = nm := by
  unfold vl
  rw [Option.map_eq_none_iff, List.find?_eq_none]
  constructor
  · rintro h ⟨y, hy, e⟩
    exact absurd (decide_eq_true e) (h y hy)
  · intro h y hy e
    exact h ⟨y, hy, of_decide_eq_true e⟩
theorem vins_iff (nm : ByteArray) : ∀ (V : Vw) (x : ByteArray), (∃ y ∈ vins nm V, y.1 = x) ↔ x = nm ∨ ∃ y ∈ V, y.1 = x
  | [], x => by simp [vins, eq_comm]
  | z :: r, x => by
    unfold vins
    split
    · simp [eq_comm]
    · rw [show (∃ y ∈ z :: vins nm r, y.1 = x) ↔ z.1 = x ∨ ∃ y ∈ vins nm r, y.1 = x by simp, vins_iff nm r x, show (∃ y ∈ z :: r, y.1 = x) ↔ z.1 = x ∨ ∃ y ∈ r, y.1 = x by simp]
      constructor
      · rintro (h | h | h)
        · exact Or.inr (Or.inl h)
        · exact Or.inl h
        · exact Or.inr (Or.inr h)
      · rintro (h | h | h)
        · exact Or.inr (Or.inl h)
        · exact Or.inl h
        · exact Or.inr (Or.inr h)
theorem cr_yes {nm : ByteArray} {V : Vw} (h1 : 1 ≤ nm.size ∧ nm.size ≤ 255) (h2 : vl nm V = none) (h3 : V.length < 65536) : crE nm V = 0 := by
  unfold crE
  rw [if_pos h1, h2]
  simp
  exact h3
theorem cr_most {nm : ByteArray} {V : Vw} (h1 : 1 ≤ nm.size ∧ nm.size ≤ 255) (h2 : vl nm V = none) (h3 : 65536 ≤ V.length) : crE nm V = 5 := by
  unfold crE
  rw [if_pos h1, h2]
  simp
  exact h3
/-- One call upon the disk beside the row of bytes. -/
theorem MR.step {w wr : World} {d bb j' : Nat} {f : FuncId} {args : Array Value} {v : Value} {V' : Vw} {ft : Nat → Prop} {c0 c1 c2 c3 : Value} (hc : Calls Try.prog f args wr fun e w' => e = .returned v ∧ Aft wr ft d (clamp 0) 0 0 V' w')
    (h2 : ¬ ft bb) (h3 : ∀ i, ft i → w.heap.size ≤ i) (h4 : Below w.heap.size w wr) (h5 : bb < wr.heap.size) (h6 : w.heap.size ≤ bb) (h7 : wr.heap[bb]? = some (.cells #[c0, c1, c2, c3] 5 (4, 5))) (h8 : V'.length = j') (h9 : ∀ x, (∃ y ∈ V', y.1 = x) ↔ ∃ i, i < j' ∧ x = nmk i) :
    Calls Try.prog f args wr fun e w' => e = .returned v ∧ MR w w' d bb j' := by
  refine hc.mono ?_
  rintro e w' ⟨he, ft', k1, k2, k3⟩
  refine ⟨he, V', ft', c0, c1, c2, c3, k1, ?_, ?_, h4.trans (k2.below (by omega) (fun i hi hf => by have := h3 i hf; omega)), Nat.lt_of_lt_of_le h5 k2.size, h6, (k2.block bb h5 h2).trans h7, h8, h9⟩
  · intro h
    rcases k3 bb h with k | k
    · exact h2 k
    · omega
  · intro i hi
    rcases k3 i hi with k | k
    · exact h3 i k
    · have := h4.size; omega
theorem nmk_new {j : Nat} {V : Vw} (hj : j < 65536) (hnm : ∀ x, (∃ y ∈ V, y.1 = x) ↔ ∃ i, i < j ∧ x = nmk i) : vl (nmk j) V = none := by
  rw [vl_none, hnm]
  rintro ⟨i, hi, e⟩
  have h := nmk_inj hj (Nat.lt_trans hi hj) e
  rw [h] at hi
  exact Nat.lt_irrefl _ hi
theorem mr_make {w wr ww : World} {d bb j : Nat} {V : Vw} {ft : Nat → Prop} {c0 c1 c2 c3 : Value} (hj : j < 65536) (hds : Ds wr d ft (clamp 0) 0 0 V) (hbb : ¬ ft bb) (hft : ∀ i, ft i → w.heap.size ≤ i) (hbl : Below w.heap.size w wr) (hsz : bb < wr.heap.size) (hbw : w.heap.size ≤ bb)
    (hlen : V.length = j) (hnm : ∀ x, (∃ y ∈ V, y.1 = x) ↔ ∃ i, i < j ∧ x = nmk i) (hcw : Ch (fun i => i = bb) wr ww) (hrow4 : ww.heap[bb]? = some (.cells #[c0, c1, c2, c3] 5 (4, 5))) :
    Calls Try.prog 16 #[.pointer (some ⟨d, 0, none⟩), .string (nmk j)] ww fun e w' => e = .returned (.int .i64 0) ∧ MR w w' d bb (j + 1) := by
  have hE0 : crE (nmk j) V = 0 := cr_yes ⟨by rw [nmk_size]; omega, by rw [nmk_size]; omega⟩ (nmk_new hj hnm) (by omega)
  have hc := s_create d ft (clamp 0) 0 0 V (nmk j) ww (hds.ch hcw (fun i hi e => hbb (e ▸ hi))) (by rw [nmk_size]; unfold maxLen; omega)
  unfold crV at hc
  rw [if_pos hE0, hE0] at hc
  refine MR.step hc hbb hft (hbl.trans (hcw.below hbl.size (fun i hi e => by omega))) (Nat.lt_of_lt_of_le hsz hcw.size) hbw hrow4 (by rw [vins_len, hlen]) (fun x => ?_)
  rw [vins_iff, hnm]
  constructor
  · rintro (h | ⟨i, hi, h⟩)
    · exact ⟨j, Nat.lt_succ_self j, h⟩
    · exact ⟨i, Nat.lt_succ_of_lt hi, h⟩
  · rintro ⟨i, hi, h⟩
    rcases Nat.lt_or_ge i j with hij | hij
    · exact Or.inr ⟨i, hij, h⟩
    · exact Or.inl (by rw [h, show i = j from Nat.le_antisymm (Nat.le_of_lt_succ hi) hij])
/-- A call that leaves the files as they are. -/
theorem MR.same {w wr : World} {d bb j : Nat} (h : MR w wr d bb j) {f : FuncId} {args : Array Value} {v : Value}
    (hc : ∀ V ft, Ds wr d ft (clamp 0) 0 0 V → V.length = j → (∀ x, (∃ y ∈ V, y.1 = x) ↔ ∃ i, i < j ∧ x = nmk i) → Calls Try.prog f args wr fun e w' => e = .returned v ∧ Aft wr ft d (clamp 0) 0 0 V w') : Calls Try.prog f args wr fun e w' => e = .returned v ∧ MR w w' d bb j := by
  obtain ⟨V, ft, c0, c1, c2, c3, hds, hbb, hft, hbl, hsz, hbw, hrow, hlen, hnm⟩ := h
  exact MR.step (hc V ft hds hlen hnm) hbb hft hbl hsz hbw hrow hlen hnm
theorem not_nmk {x : ByteArray} (h : ∀ i, i < 65536 → x ≠ nmk i) {V : Vw} (hnm : ∀ x, (∃ y ∈ V, y.1 = x) ↔ ∃ i, i < 65536 ∧ x = nmk i) : vl x V = none := by
  rw [vl_none, hnm]
  rintro ⟨i, hi, e⟩
  exact h i hi e
theorem more_ne (i : Nat) (_ : i < 65536) : (⟨#[109, 111, 114, 101]⟩ : ByteArray) ≠ nmk i := by
  intro e
  have h1 : [(109 : UInt8), 111, 114, 101] = [UInt8.ofNat (97 + i % 16), UInt8.ofNat (97 + i / 16 % 16), UInt8.ofNat (97 + i / 256 % 16), UInt8.ofNat (97 + i / 4096)] := congrArg (fun b : ByteArray => b.data.toList) e
  simp only [List.cons.injEq, and_true] at h1
  have := u8_inj (a := 114) (by omega) (by omega) h1.2.2.1
  omega
theorem again_ne (i : Nat) : (⟨#[97, 103, 97, 105, 110]⟩ : ByteArray) ≠ nmk i := by
  intro e
  have := congrArg ByteArray.size e
  rw [nmk_size] at this
  cases this
theorem mr_more {w w' : World} {d bb : Nat} (h : MR w w' d bb 65536) : Calls Try.prog 16 #[.pointer (some ⟨d, 0, none⟩), .string ⟨#[109, 111, 114, 101]⟩] w' fun e w'' => e = .returned (.int .i64 5) ∧ MR w w'' d bb 65536 :=
  h.same fun V ft hds hlen hnm => by
    have hE := cr_most (nm := ⟨#[109, 111, 114, 101]⟩) (V := V) (by decide) (not_nmk more_ne hnm) (by omega)
    have := s_create d ft (clamp 0) 0 0 V ⟨#[109, 111, 114, 101]⟩ w' hds (by decide)
    unfold crV at this
    rw [hE] at this
    exact this
theorem mr_aaaa {w w' : World} {d bb : Nat} (h : MR w w' d bb 65536) : Calls Try.prog 16 #[.pointer (some ⟨d, 0, none⟩), .string ⟨#[97, 97, 97, 97]⟩] w' fun e w'' => e = .returned (.int .i64 3) ∧ MR w w'' d bb 65536 :=
  h.same fun V ft hds hlen hnm => by
    have hE : crE ⟨#[97, 97, 97, 97]⟩ V = 3 := by
      unfold crE
      rw [if_pos (by decide)]
      have : vl ⟨#[97, 97, 97, 97]⟩ V ≠ none := fun e => by
        rw [vl_none, hnm] at e
        exact e ⟨0, by omega, by decide⟩
      cases hv : vl ⟨#[97, 97, 97, 97]⟩ V with
      | none => exact absurd hv this
      | some x => rfl
    have := s_create d ft (clamp 0) 0 0 V ⟨#[97, 97, 97, 97]⟩ w' hds (by decide)
    unfold crV at this
    rw [hE] at this
    exact this
theorem mr_empty {w w' : World} {d bb : Nat} (h : MR w w' d bb 65536) : Calls Try.prog 16 #[.pointer (some ⟨d, 0, none⟩), .string ⟨#[]⟩] w' fun e w'' => e = .returned (.int .i64 3) ∧ MR w w'' d bb 65536 :=
  h.same fun V ft hds hlen hnm => by
    have hE : crE ⟨#[]⟩ V = 3 := by
      unfold crE
      rw [if_neg (by decide)]
    have := s_create d ft (clamp 0) 0 0 V ⟨#[]⟩ w' hds (by decide)
    unfold crV at this
    rw [hE] at this
    exact this
theorem mr_list {w w' : World} {d bb : Nat} (h : MR w w' d bb 65536) : Calls Try.prog 17 #[.pointer (some ⟨d, 0, none⟩)] w' fun e w'' => (∃ a c, e = .returned (.slice a 65536 c)) ∧ MR w w'' d bb 65536 := by
  obtain ⟨V, ft, c0, c1, c2, c3, hds, hbb, hft, hbl, hsz, hbw, hrow, hlen, hnm⟩ := h
  refine (s_list d ft (clamp 0) 0 0 V w' hds (by omega)).mono ?_
  rintro e w'' ⟨v, he, hl, hb⟩
  obtain ⟨a, c, rfl, _⟩ := row_form hl.1
  rw [List.length_map, hlen] at he
  exact ⟨⟨a, c, he⟩, V, ft, c0, c1, c2, c3, hds.ch (Ch.of_below (S := fun _ => False) hb) (fun _ _ e => e), hbb, hft, hbl.trans (hb.mono hbl.size), Nat.lt_of_lt_of_le hsz hb.size, hbw, (hb.block bb hsz).trans hrow, hlen, hnm⟩
/-- Behind the removal: one fewer. -/
def MS (w w' : World) (d : Nat) (n : Nat) : Prop := ∃ (V : Vw) (ft : Nat → Prop), Ds w' d ft (clamp 0) 0 0 V ∧ (∀ i, ft i → w.heap.size ≤ i) ∧ Below w.heap.size w w' ∧ V.length = n ∧ (n = 65535 → vl ⟨#[109, 111, 114, 101]⟩ V = none) ∧ vl ⟨#[97, 103, 97, 105, 110]⟩ V = none
theorem MS.step {w wr : World} {d n' : Nat} {f : FuncId} {args : Array Value} {v : Value} {V' : Vw} {ft : Nat → Prop} (hc : Calls Try.prog f args wr fun e w' => e = .returned v ∧ Aft wr ft d (clamp 0) 0 0 V' w')
    (h3 : ∀ i, ft i → w.heap.size ≤ i) (h4 : Below w.heap.size w wr) (h8 : V'.length = n') (h9 : n' = 65535 → vl ⟨#[109, 111, 114, 101]⟩ V' = none) (h10 : vl ⟨#[97, 103, 97, 105, 110]⟩ V' = none) : Calls Try.prog f args wr fun e w' => e = .returned v ∧ MS w w' d n' := by
  refine hc.mono ?_
  rintro e w' ⟨he, ft', k1, k2, k3⟩
  refine ⟨he, V', ft', k1, fun i hi => ?_, h4.trans (k2.below h4.size (fun i hi hf => by have := h3 i hf; omega)), h8, h9, h10⟩
  rcases k3 i hi with k | k
  · exact h3 i k
  · have := h4.size; omega
theorem vdel_iff (nm : ByteArray) (V : Vw) (x : ByteArray) : (∃ y ∈ vdel nm V, y.1 = x) ↔ x ≠ nm ∧ ∃ y ∈ V, y.1 = x := by
  unfold vdel
  constructor
  · rintro ⟨y, hy, rfl⟩
    have := List.mem_filter.1 hy
    exact ⟨of_decide_eq_true this.2, y, this.1, rfl⟩
  · rintro ⟨h, y, hy, rfl⟩
    exact ⟨y, List.mem_filter.2 ⟨hy, decide_eq_true h⟩, rfl⟩
theorem vdel_len {nm : ByteArray} {V : Vw} (hp : V.Pairwise (fun a b => bytesBefore a.1.data.toList b.1.data.toList = true)) (h : vl nm V ≠ none) : (vdel nm V).length + 1 = V.length := by
  obtain ⟨x, hx⟩ := Option.ne_none_iff_exists'.1 h
  unfold vl at hx
  rw [Option.map_eq_some_iff] at hx
  obtain ⟨z, hz, rfl⟩ := hx
  obtain ⟨h1, l, r, rfl, h3⟩ := List.find?_eq_some_iff_append.1 hz
  have h1' : z.1 = nm := of_decide_eq_true h1
  have hl : ∀ x ∈ l, x.1 ≠ nm := fun x hx e => by have := h3 x hx; simp [e] at this
  have hr : ∀ x ∈ r, x.1 ≠ nm := fun x hx e => by
    have := (List.pairwise_cons.1 (List.pairwise_append.1 hp).2.1).1 x hx
    rw [e, h1', bb_irr] at this
    cases this
  unfold vdel
  rw [List.filter_append, List.filter_cons, if_neg (by simp [h1']), List.filter_eq_self.2 (fun y hy => decide_eq_true (hl y hy)), List.filter_eq_self.2 (fun y hy => decide_eq_true (hr y hy))]
  simp
  omega
theorem ds_rise {w : World} {d : Nat} {ft : Nat → Prop} {rm : Nat} {cl cb : Int} {V : Vw} (h : Ds w d ft rm cl cb V) : V.Pairwise (fun a b => bytesBefore a.1.data.toList b.1.data.toList = true) := by
  obtain ⟨m, fs, h1, rfl, _⟩ := h
  unfold vw
  exact List.pairwise_map.2 h1.nms
theorem MR.row {w w' : World} {d bb n : Nat} (h : MR w w' d bb n) : ∃ c0 c1 c2 c3, w'.heap[bb]? = some (.cells #[c0, c1, c2, c3] 5 (4, 5)) := by
  obtain ⟨V, ft, c0, c1, c2, c3, _, _, _, _, _, _, hrow, _⟩ := h
  exact ⟨c0, c1, c2, c3, hrow⟩
theorem mr_remove {w w7 ww : World} {d bb : Nat} (h : MR w w7 d bb 65536) (hcw : Ch (fun i => i = bb) w7 ww) : Calls Try.prog 18 #[.pointer (some ⟨d, 0, none⟩), .string ⟨#[104, 103, 99, 98]⟩] ww fun e w'' => e = .returned (.int .i64 0) ∧ MS w w'' d 65535 := by
  obtain ⟨V, ft, c0, c1, c2, c3, hds, hbb, hft, hbl, hsz, hbw, hrow, hlen, hnm⟩ := h
  have hd : Ds ww d ft (clamp 0) 0 0 V := hds.ch hcw (fun i hi e => hbb (e ▸ hi))
  have hc := s_remove d ft (clamp 0) 0 0 V ⟨#[104, 103, 99, 98]⟩ ww hd (by decide)
  have hv : vl ⟨#[104, 103, 99, 98]⟩ V ≠ none := fun e => by
    rw [vl_none, hnm] at e
    exact e ⟨4711, by decide, by decide⟩
  have hE : noE (vl ⟨#[104, 103, 99, 98]⟩ V) = 0 := by
    cases hx : vl ⟨#[104, 103, 99, 98]⟩ V with
    | none => exact absurd hx hv
    | some x => rfl
  rw [hE] at hc
  have hl := vdel_len (ds_rise hds) hv
  refine MS.step hc hft (hbl.trans (hcw.below hbl.size (fun i hi e => by omega))) (by omega) (fun _ => ?_) ?_
  · rw [vl_none, vdel_iff, hnm]
    rintro ⟨_, i, hi, e⟩
    exact more_ne i hi e
  · rw [vl_none, vdel_iff, hnm]
    rintro ⟨_, i, hi, e⟩
    exact again_ne i e
theorem ms_more {w w' : World} {d : Nat} (h : MS w w' d 65535) : Calls Try.prog 16 #[.pointer (some ⟨d, 0, none⟩), .string ⟨#[109, 111, 114, 101]⟩] w' fun e w'' => e = .returned (.int .i64 0) ∧ MS w w'' d 65536 := by
  obtain ⟨V, ft, hds, hft, hbl, hlen, hm, ha⟩ := h
  have hE := cr_yes (nm := ⟨#[109, 111, 114, 101]⟩) (V := V) (by decide) (hm rfl) (by omega)
  have hc := s_create d ft (clamp 0) 0 0 V ⟨#[109, 111, 114, 101]⟩ w' hds (by decide)
  unfold crV at hc
  rw [if_pos hE, hE] at hc
  refine MS.step hc hft hbl (by rw [vins_len, hlen]) (fun e => by cases e) ?_
  rw [vl_none, vins_iff]
  rintro (e | e)
  · exact absurd e (by decide)
  · exact (vl_none.1 ha) e
theorem ms_again {w w' : World} {d : Nat} (h : MS w w' d 65536) : Calls Try.prog 16 #[.pointer (some ⟨d, 0, none⟩), .string ⟨#[97, 103, 97, 105, 110]⟩] w' fun e w'' => e = .returned (.int .i64 5) ∧ MS w w'' d 65536 := by
  obtain ⟨V, ft, hds, hft, hbl, hlen, hm, ha⟩ := h
  have hE := cr_most (nm := ⟨#[97, 103, 97, 105, 110]⟩) (V := V) (by decide) ha (by omega)
  have hc := s_create d ft (clamp 0) 0 0 V ⟨#[97, 103, 97, 105, 110]⟩ w' hds (by decide)
  unfold crV at hc
  rw [hE] at hc
  exact MS.step hc hft hbl hlen hm ha
theorem MS.below {w w' : World} {d n : Nat} (h : MS w w' d n) : Below w.heap.size w w' := by
  obtain ⟨V, ft, hds, hft, hbl, _⟩ := h
  exact hbl
end Go.Proofs.Ytnopamkoegalpaa
