/- A disk of the program in memory: its block, its map, its files. -/
import Derived.Test.YthjbhfhdepepmaaDch
import Derived.Lib.AppendStr
import Derived.Lib.BufferWrite
import Derived.Lib.UnsafeStr
import Derived.Maps.OwnSet
import Derived.Maps.Ext
namespace Go.Proofs.Ythjbhfhdepepmaa
open Go.RowKit
theorem Try.info5 : (Try.prog.info? 5).map (fun i => (i.zero, i.size, i.bytes)) = some (some (.int .u8 0), 1, 1) := by kernel_rfl
theorem Try.underBytes : Try.prog.underlying 81 = some (.slice 5) := by kernel_rfl
theorem Try.under5 : Try.prog.underlying 5 = some (.int .u8) := by kernel_rfl
theorem Try.under9 : Try.prog.underlying 9 = some .string := by kernel_rfl
theorem Try.underMap : Try.prog.underlying 103 = some (.map 9 101) := by kernel_rfl
theorem Try.zeroFile (w : World) : (zeroValue 101).run Try.prog w = .ok (.pointer none) w := by kernel_rfl
theorem klaw : Maps.Keyed Try.prog 9 := Maps.string_keyed Try.under9
/-- How a map's element reads: the number of the block that it leads to. -/
def RP : Value → Option (DataW Unit × List MemPlace)
  | .pointer none => some (.nil, [])
  | .pointer (some a) => if a = ⟨a.block, 0, none⟩ then some (.lit (.int .i64 a.block), []) else none
  | _ => none
theorem RP_some (p : Nat) : RP (.pointer (some ⟨p, 0, none⟩)) = some (.lit (.int .i64 p), []) := by simp [RP]
theorem RP_none : RP (.pointer none) = some (.nil, []) := rfl
theorem RP_inv_nil {v : Value} {ps : List MemPlace} (h : RP v = some (.nil, ps)) : v = .pointer none := by
  unfold RP at h
  split at h
  · rfl
  · split at h
    · injection h with h; injection h with h _; cases h
    · cases h
  · cases h
theorem RP_inv {v : Value} {ps : List MemPlace} {p : Nat} (h : RP v = some (.lit (.int .i64 p), ps)) : v = .pointer (some ⟨p, 0, none⟩) := by
  unfold RP at h
  split at h
  · injection h with h; injection h with h _; cases h
  · rename_i a
    split at h
    · rename_i ha
      injection h with h
      injection h with h _
      injection h with h
      injection h with _ h
      rw [ha]
      congr 3
      exact Int.ofNat_inj.1 h
    · cases h
  · cases h
/-- A file: its name, its block, its slice, its bytes, how many are safe. -/
structure Fl where
  nm : ByteArray
  bk : Nat
  sl : Value
  da : List UInt8
  sy : Nat
def ent (f : Fl) : Lit × DataW Unit := (.string f.nm.data.toList, .lit (.int .i64 f.bk))
def dm (fs : List Fl) : DataW Unit := .map (fs.map ent)
def look (nm : ByteArray) (fs : List Fl) : Option Fl := fs.find? (fun f => decide (f.nm = nm))
theorem ba_eq {a b : ByteArray} : a.data.toList = b.data.toList ↔ a = b := by
  constructor
  · intro h
    cases a with | mk a => cases b with | mk b =>
    congr 1
    exact Array.toList_inj.1 h
  · rintro rfl; rfl
theorem same_nm (f : Fl) (nm : ByteArray) : (ent f).1.sameKey (.string nm.data.toList) = decide (f.nm = nm) := by
  show (f.nm.data.toList == nm.data.toList) = _
  rw [Bool.eq_iff_iff, beq_iff_eq, decide_eq_true_iff, ba_eq]
theorem atKey_dm (fs : List Fl) (nm : ByteArray) (z : DataW Unit) : (dm fs).atKey (.string nm.data.toList) z = match look nm fs with | some f => .lit (.int .i64 f.bk) | none => z := by
  unfold dm DataW.atKey look
  simp only [List.find?_map]
  have e : ((fun p : Lit × DataW Unit => p.1.sameKey (.string nm.data.toList)) ∘ ent) = fun f => decide (f.nm = nm) := funext fun f => same_nm f nm
  rw [e]
  cases fs.find? (fun f => decide (f.nm = nm)) <;> rfl
theorem look_mem {nm : ByteArray} {fs : List Fl} {f : Fl} (h : look nm fs = some f) : f ∈ fs ∧ f.nm = nm := ⟨List.mem_of_find?_eq_some h, by simpa using List.find?_some h⟩
theorem look_no {nm : ByteArray} {fs : List Fl} (h : look nm fs = none) : ∀ f ∈ fs, f.nm ≠ nm := by
  intro f hf
  have := List.find?_eq_none.1 h f hf
  simpa using this
/-- What a name's file is, by its block. -/
def bkOf : Option Fl → Option Addr
  | none => none
  | some f => some ⟨f.bk, 0, none⟩
/-- A file's two places in memory. -/
def FA (w : World) (f : Fl) : Prop := w.heap[f.bk]? = some (.cells #[f.sl, .int .i64 f.sy] 109 (0, 0)) ∧ w.ownsRow 0 5 1 f.sl f.da.length (Lib.byteCells f.da)
def apart (f g : Fl) : Prop := f.bk ≠ g.bk ∧ (f.sl.ownBlock = none ∨ f.sl.ownBlock ≠ g.sl.ownBlock)
def Mp (w : World) : Option Nat → List Fl → Prop
  | none, fs => fs = []
  | some b, fs => w.ownsMap Try.prog 9 RP b fs.length (dm fs)
/-- The bytes of all files together. -/
def tot (fs : List Fl) : Nat := (fs.map (fun f => f.da.length)).sum
/-- A disk: its block d, its map's block, its room, its counts, its files. -/
structure Dk (w : World) (d : Nat) (m : Option Nat) (rm : Nat) (cl cb : Int) (fs : List Fl) : Prop where
  blk : w.heap[d]? = some (.cells #[.int .i64 rm, .int .i64 (tot fs), .map m, .int .i64 cl, .int .i64 cb] 107 (0, 0))
  map : Mp w m fs
  fil : ∀ f ∈ fs, FA w f
  apt : fs.Pairwise apart
  nms : fs.Pairwise (fun f g => bytesBefore f.nm.data.toList g.nm.data.toList = true)
  lng : ∀ f ∈ fs, f.nm.size ≤ maxLen ∧ f.da.length ≤ 1073741824 ∧ f.sy ≤ f.da.length
  rom : tot fs ≤ rm ∧ rm ≤ 1099511627776
/-- The blocks that are a disk's own. -/
def Ft (d : Nat) (m : Option Nat) (fs : List Fl) (i : Nat) : Prop := i = d ∨ m = some i ∨ ∃ f ∈ fs, i = f.bk ∨ f.sl.ownBlock = some i
theorem own_ch {S : Nat → Prop} {w w' : World} {B n size : Nat} {e : TypeId} {v : Value} {l : List Value} (h : w.ownsRow B e size v n l) (hc : Ch S w w') (hS : ∀ i, v.ownBlock = some i → ¬ S i) : w'.ownsRow B e size v n l := by
  have hlt := h.lt
  obtain ⟨h1, h2⟩ := h
  refine ⟨h1, ?_⟩
  rcases h2 with h2 | ⟨g, cap, cur, rfl, hg, hh, r⟩
  · exact Or.inl h2
  · exact Or.inr ⟨g, cap, cur, rfl, hg, (hc.block g (hlt g rfl).2 (hS g rfl)).trans hh, r⟩
theorem map_ch {S : Nat → Prop} {w w' : World} {m : Option Nat} {fs : List Fl} (h : Mp w m fs) (hc : Ch S w w') (hS : ∀ i, m = some i → ¬ S i) : Mp w' m fs := by
  cases m with
  | none => exact h
  | some b =>
    obtain ⟨es, clock, hb, r⟩ := h
    exact ⟨es, clock, (hc.block b (lt_of_heap hb) (hS b rfl)).trans hb, r⟩
theorem FA.ch {S : Nat → Prop} {w w' : World} {f : Fl} (h : FA w f) (hc : Ch S w w') (h1 : ¬ S f.bk) (h2 : ∀ i, f.sl.ownBlock = some i → ¬ S i) : FA w' f :=
  ⟨(hc.block _ (lt_of_heap h.1) h1).trans h.1, own_ch h.2 hc h2⟩
theorem Dk.ch {S : Nat → Prop} {w w' : World} {d : Nat} {m : Option Nat} {rm : Nat} {cl cb : Int} {fs : List Fl} (h : Dk w d m rm cl cb fs) (hc : Ch S w w') (hS : ∀ i, Ft d m fs i → ¬ S i) : Dk w' d m rm cl cb fs where
  blk := (hc.block d (lt_of_heap h.blk) (hS d (Or.inl rfl))).trans h.blk
  map := map_ch h.map hc (fun i hi => hS i (Or.inr (Or.inl hi)))
  fil := fun f hf => (h.fil f hf).ch hc (hS _ (Or.inr (Or.inr ⟨f, hf, Or.inl rfl⟩))) (fun i hi => hS i (Or.inr (Or.inr ⟨f, hf, Or.inr hi⟩)))
  apt := h.apt
  nms := h.nms
  lng := h.lng
  rom := h.rom
theorem Ft.lt {w : World} {d : Nat} {m : Option Nat} {rm : Nat} {cl cb : Int} {fs : List Fl} (h : Dk w d m rm cl cb fs) {i : Nat} (hi : Ft d m fs i) : i < w.heap.size := by
  rcases hi with rfl | rfl | ⟨f, hf, rfl | hi⟩
  · exact lt_of_heap h.blk
  · obtain ⟨es, clock, hb, _⟩ := h.map
    exact lt_of_heap hb
  · exact lt_of_heap (h.fil f hf).1
  · exact ((h.fil f hf).2.lt i hi).2
/-- A row's block is a row of bytes. -/
theorem row_at {w : World} {B n : Nat} {v : Value} {l : List Value} (h : w.ownsRow B 5 1 v n l) {i : Nat} (hi : v.ownBlock = some i) : ∃ cur, w.heap[i]? = some (.cells cur 5 (0, 0)) := by
  rcases h.2 with ⟨rfl, _⟩ | ⟨g, cap, cur, rfl, hg, hh, r⟩
  · cases hi
  · injection hi with hi; subst hi; exact ⟨_, hh⟩
theorem Dk.d_row {w : World} {d : Nat} {m : Option Nat} {rm : Nat} {cl cb : Int} {fs : List Fl} (h : Dk w d m rm cl cb fs) {f : Fl} (hf : f ∈ fs) {i : Nat} (hi : f.sl.ownBlock = some i) : i ≠ d := by
  rintro rfl
  obtain ⟨cur, hc⟩ := row_at (h.fil f hf).2 hi
  rw [h.blk] at hc
  injection hc with hc
  injection hc with _ hc _
  exact absurd hc (by decide)
theorem Dk.d_bk {w : World} {d : Nat} {m : Option Nat} {rm : Nat} {cl cb : Int} {fs : List Fl} (h : Dk w d m rm cl cb fs) {f : Fl} (hf : f ∈ fs) : f.bk ≠ d := by
  intro e
  have hc := (h.fil f hf).1
  rw [e, h.blk] at hc
  injection hc with hc
  injection hc with _ hc _
  exact absurd hc (by decide)
theorem Dk.bk_row {w : World} {d : Nat} {m : Option Nat} {rm : Nat} {cl cb : Int} {fs : List Fl} (h : Dk w d m rm cl cb fs) {f g : Fl} (hf : f ∈ fs) (hg : g ∈ fs) {i : Nat} (hi : g.sl.ownBlock = some i) : i ≠ f.bk := by
  rintro rfl
  obtain ⟨cur, hc⟩ := row_at (h.fil g hg).2 hi
  rw [(h.fil f hf).1] at hc
  injection hc with hc
  injection hc with _ hc _
  exact absurd hc (by decide)
theorem Dk.m_cells {w : World} {d : Nat} {m : Option Nat} {rm : Nat} {cl cb : Int} {fs : List Fl} (h : Dk w d m rm cl cb fs) {b i : Nat} {c : Array Value} {T : TypeId} {fz : Nat × Nat} (hm : m = some b) (hi : w.heap[i]? = some (.cells c T fz)) : b ≠ i := by
  subst hm
  rintro rfl
  obtain ⟨es, clock, hb, _⟩ := h.map
  rw [hb] at hi
  injection hi with hi
  cases hi
/-- A file turned in its place. -/
def upd (nm : ByteArray) (g : Fl) (fs : List Fl) : List Fl := fs.map (fun f => if f.nm = nm then g else f)
theorem find_mid {nm : ByteArray} : ∀ {fs : List Fl} {f : Fl}, look nm fs = some f → ∃ l r, fs = l ++ f :: r ∧ (∀ x ∈ l, x.nm ≠ nm) ∧ f.nm = nm := by
  intro fs f h
  obtain ⟨h1, l, r, h2, h3⟩ := List.find?_eq_some_iff_append.1 h
  exact ⟨l, r, h2, fun x hx => by simpa using h3 x hx, by simpa using h1⟩
theorem bb_irr : ∀ a : List UInt8, bytesBefore a a = false
  | [] => rfl
  | a :: r => by simp [bytesBefore, bb_irr r]
theorem upd_mid {nm : ByteArray} {g : Fl} {l r : List Fl} {f : Fl} (hl : ∀ x ∈ l, x.nm ≠ nm) (hr : ∀ x ∈ r, x.nm ≠ nm) (hf : f.nm = nm) : upd nm g (l ++ f :: r) = l ++ g :: r := by
  unfold upd
  rw [List.map_append, List.map_cons, if_pos hf]
  congr 1
  · conv => rhs; rw [← List.map_id l]
    exact List.map_congr_left fun x hx => by rw [if_neg (hl x hx)]; rfl
  · congr 1
    conv => rhs; rw [← List.map_id r]
    exact List.map_congr_left fun x hx => by rw [if_neg (hr x hx)]; rfl
theorem nms_ne {fs : List Fl} (h : fs.Pairwise (fun f g => bytesBefore f.nm.data.toList g.nm.data.toList = true)) : fs.Pairwise (fun f g => f.nm ≠ g.nm) :=
  h.imp fun {a b} hab e => by rw [e, bb_irr] at hab; cases hab
end Go.Proofs.Ythjbhfhdepepmaa
