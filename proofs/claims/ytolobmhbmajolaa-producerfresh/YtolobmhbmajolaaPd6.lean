/- A book in memory: its block, its map, its tails. -/
import Derived.Test.YtolobmhbmajolaaPdm
import Derived.Test.YtolobmhbmajolaaPd2
namespace Go.Proofs.Ytolobmhbmajolaa
open Go.RowKit
theorem Try.under2 : Try.prog.underlying 2 = some (.int .i64) := by kernel_rfl
theorem Try.underMap : Try.prog.underlying 58 = some (.map 2 66) := by kernel_rfl
theorem Try.zeroTail (w : World) : (zeroValue 66).run Try.prog w = .ok (.pointer none) w := by kernel_rfl
theorem klaw : Maps.Keyed Try.prog 2 := Maps.int_keyed Try.under2
def RP : Value → Option (DataW Unit × List MemPlace)
  | .pointer none => some (.nil, [])
  | .pointer (some a) => if a = ⟨a.block, 0, none⟩ then some (.lit (.int .i64 a.block), []) else none
  | _ => none
theorem RP_some (p : Nat) : RP (.pointer (some ⟨p, 0, none⟩)) = some (.lit (.int .i64 p), []) := by simp [RP]
theorem RP_none : RP (.pointer none) = some (.nil, []) := rfl
theorem RP_inv_nil {v : Value} {ps : List MemPlace} (h : RP v = some (.nil, ps)) : v = .pointer none := by
  unfold RP at h
  split at h
  · rfl
  · split at h
    · injection h with h; injection h with h _; cases h
    · cases h
  · cases h
theorem RP_inv {v : Value} {ps : List MemPlace} {p : Nat} (h : RP v = some (.lit (.int .i64 p), ps)) : v = .pointer (some ⟨p, 0, none⟩) := by
  unfold RP at h
  split at h
  · injection h with h; injection h with h _; cases h
  · rename_i a
    split at h
    · rename_i ha
      injection h with h
      injection h with h _
      injection h with h
      injection h with _ h
      rw [ha]
      congr 3
      exact Int.ofNat_inj.1 h
    · cases h
  · cases h
/-- A producer's tail: who, its block, its batches. -/
structure Tl where
  id : Int
  bk : Nat
  ns : List Nt
def ent (f : Tl) : Lit × DataW Unit := (.int .i64 f.id, .lit (.int .i64 f.bk))
def dm (fs : List Tl) : DataW Unit := .map (fs.map ent)
def look (id : Int) (fs : List Tl) : Option Tl := fs.find? (fun f => decide (f.id = id))
theorem same_id (f : Tl) (id : Int) : (ent f).1.sameKey (.int .i64 id) = decide (f.id = id) := by
  show decide (IntKind.i64 = IntKind.i64 ∧ f.id = id) = _
  simp
theorem atKey_dm (fs : List Tl) (id : Int) (z : DataW Unit) : (dm fs).atKey (.int .i64 id) z = match look id fs with | some f => .lit (.int .i64 f.bk) | none => z := by
  unfold dm DataW.atKey look
  simp only [List.find?_map]
  have e : ((fun p : Lit × DataW Unit => p.1.sameKey (.int .i64 id)) ∘ ent) = fun f => decide (f.id = id) := funext fun f => same_id f id
  rw [e]
  cases fs.find? (fun f => decide (f.id = id)) <;> rfl
theorem look_mem {id : Int} {fs : List Tl} {f : Tl} (h : look id fs = some f) : f ∈ fs ∧ f.id = id := ⟨List.mem_of_find?_eq_some h, by simpa using List.find?_some h⟩
theorem look_no {id : Int} {fs : List Tl} (h : look id fs = none) : ∀ f ∈ fs, f.id ≠ id := by
  intro f hf
  have := List.find?_eq_none.1 h f hf
  simpa using this
def bkOf : Option Tl → Option Addr
  | none => none
  | some f => some ⟨f.bk, 0, none⟩
/-- What is kept of a producer. -/
def fv (fs : List Tl) (id : Int) : List Nt := match look id fs with
  | some f => f.ns
  | none => []
def Mp (w : World) : Option Nat → List Tl → Prop
  | none, fs => fs = []
  | some b, fs => w.ownsMap Try.prog 2 RP b fs.length (dm fs)
structure Bk (w : World) (b : Nat) (m : Option Nat) (fs : List Tl) : Prop where
  blk : w.heap[b]? = some (.cells #[.map m] 60 (0, 0))
  map : Mp w m fs
  til : ∀ f ∈ fs, TA w f.bk f.ns
  apt : fs.Pairwise (fun f g => f.bk ≠ g.bk)
  ids : fs.Pairwise (fun f g => f.id < g.id)
  ok : ∀ f ∈ fs, f.ns ≠ [] ∧ (∀ x ∈ f.ns, NtOk x) ∧ 0 ≤ f.id
def Ft (b : Nat) (m : Option Nat) (fs : List Tl) (i : Nat) : Prop := i = b ∨ m = some i ∨ ∃ f ∈ fs, i = f.bk
theorem map_ch {S : Nat → Prop} {w w' : World} {m : Option Nat} {fs : List Tl} (h : Mp w m fs) (hc : Ch S w w') (hS : ∀ i, m = some i → ¬ S i) : Mp w' m fs := by
  cases m with
  | none => exact h
  | some b =>
    obtain ⟨es, clock, hb, r⟩ := h
    exact ⟨es, clock, (hc.block b (lt_of_heap hb) (hS b rfl)).trans hb, r⟩
theorem Bk.ch {S : Nat → Prop} {w w' : World} {b : Nat} {m : Option Nat} {fs : List Tl} (h : Bk w b m fs) (hc : Ch S w w') (hS : ∀ i, Ft b m fs i → ¬ S i) : Bk w' b m fs where
  blk := (hc.block b (lt_of_heap h.blk) (hS b (Or.inl rfl))).trans h.blk
  map := map_ch h.map hc (fun i hi => hS i (Or.inr (Or.inl hi)))
  til := fun f hf => (h.til f hf).at (hc.block _ (h.til f hf).lt (hS _ (Or.inr (Or.inr ⟨f, hf, rfl⟩))))
  apt := h.apt
  ids := h.ids
  ok := h.ok
theorem Bk.bel {w w' : World} {b : Nat} {m : Option Nat} {fs : List Tl} (h : Bk w b m fs) (hb : Below w.heap.size w w') : Bk w' b m fs := h.ch (Ch.of_below hb : Ch (fun _ => False) w w') (fun _ _ e => e)
theorem Ft.lt {w : World} {b : Nat} {m : Option Nat} {fs : List Tl} (h : Bk w b m fs) {i : Nat} (hi : Ft b m fs i) : i < w.heap.size := by
  rcases hi with rfl | rfl | ⟨f, hf, rfl⟩
  · exact lt_of_heap h.blk
  · obtain ⟨es, clock, hb, _⟩ := h.map
    exact lt_of_heap hb
  · exact (h.til f hf).lt
theorem TA.heap {w : World} {p : Nat} {ns : List Nt} (h : TA w p ns) : ∃ c, w.heap[p]? = some (.cells c 71 (0, 0)) := by
  obtain ⟨a0, a1, a2, a3, a4, _, _, h⟩ := h
  exact ⟨_, h⟩
theorem Bk.b_bk {w : World} {b : Nat} {m : Option Nat} {fs : List Tl} (h : Bk w b m fs) {f : Tl} (hf : f ∈ fs) : f.bk ≠ b := by
  intro e
  obtain ⟨c, hc⟩ := (h.til f hf).heap
  rw [e, h.blk] at hc
  injection hc with hc
  injection hc with _ hc _
  exact absurd hc (by decide)
theorem mp_cells {w : World} {b i : Nat} {fs : List Tl} {c : Array Value} {T : TypeId} {fz : Nat × Nat} (h : Mp w (some b) fs) (hi : w.heap[i]? = some (.cells c T fz)) : b ≠ i := by
  rintro rfl
  obtain ⟨es, clock, hb, _⟩ := h
  rw [hb] at hi
  injection hi with hi
  cases hi
theorem keyI {x : Int} (h0 : -9223372036854775808 ≤ x) (h1 : x < 9223372036854775808) : keyOf Try.prog 2 (.int .i64 x) = some (.int .i64 x) := Maps.keyOf_int_mk Try.under2 (WalkArith.wf_i64 ⟨h0, by omega⟩)
theorem fv_of {fs : List Tl} {id : Int} {f : Tl} (h : look id fs = some f) : fv fs id = f.ns := by unfold fv; rw [h]
theorem fv_no {fs : List Tl} {id : Int} (h : look id fs = none) : fv fs id = [] := by unfold fv; rw [h]
theorem ids_ne {fs : List Tl} (h : fs.Pairwise (fun f g => f.id < g.id)) : fs.Pairwise (fun f g => f.id ≠ g.id) := h.imp fun {a b} hab e => by omega
theorem look_of {fs : List Tl} (h : fs.Pairwise (fun f g => f.id < g.id)) {f : Tl} (hf : f ∈ fs) : look f.id fs = some f := by
  induction fs with
  | nil => cases hf
  | cons y r ih =>
    obtain ⟨h1, h2⟩ := List.pairwise_cons.1 h
    unfold look
    rw [List.find?_cons]
    rcases List.mem_cons.1 hf with rfl | hf
    · simp
    · have : decide (y.id = f.id) = false := by have := h1 f hf; simp; omega
      rw [this]
      exact ih h2 hf
/-- A tail's batches put in another's place. -/
def upd (id : Int) (ns : List Nt) (fs : List Tl) : List Tl := fs.map (fun f => if f.id = id then { f with ns := ns } else f)
theorem upd_bk (id : Int) (ns : List Nt) (fs : List Tl) : (upd id ns fs).map (fun f => (f.id, f.bk)) = fs.map (fun f => (f.id, f.bk)) := by
  unfold upd
  rw [List.map_map]
  refine List.map_congr_left fun f _ => ?_
  show (fun f : Tl => (f.id, f.bk)) (if f.id = id then _ else f) = _
  split <;> rfl
theorem dm_upd (id : Int) (ns : List Nt) (fs : List Tl) : dm (upd id ns fs) = dm fs := by
  have : ∀ l : List Tl, l.map ent = (l.map (fun f => (f.id, f.bk))).map (fun x => ((.int .i64 x.1, .lit (.int .i64 x.2)) : Lit × DataW Unit)) := fun l => by rw [List.map_map]; rfl
  unfold dm
  rw [this, this, upd_bk]
theorem fv_upd (id : Int) (ns : List Nt) : ∀ (fs : List Tl), (∃ f ∈ fs, f.id = id) → ∀ q, fv (upd id ns fs) q = if q = id then ns else fv fs q
  | [], h, q => by obtain ⟨f, hf, _⟩ := h; cases hf
  | y :: r, h, q => by
    unfold fv look upd
    rw [List.map_cons, List.find?_cons, List.find?_cons]
    by_cases e : y.id = id
    · rw [if_pos e]
      by_cases eq : q = id
      · subst eq; simp [e]
      · rw [if_neg eq]
        have : decide (y.id = q) = false := by simp; omega
        simp only [this]
        by_cases h' : ∃ f ∈ r, f.id = id
        · have := fv_upd id ns r h' q
          unfold fv look upd at this
          rw [this, if_neg eq]
        · have hr : List.map (fun f => if f.id = id then { f with ns := ns } else f) r = r := by
            conv => rhs; rw [← List.map_id r]
            exact List.map_congr_left fun x hx => by rw [if_neg (fun e => h' ⟨x, hx, e⟩)]; rfl
          rw [hr]
    · rw [if_neg e]
      have h' : ∃ f ∈ r, f.id = id := by
        obtain ⟨f, hf, hid⟩ := h
        rcases List.mem_cons.1 hf with rfl | hf
        · exact absurd hid e
        · exact ⟨f, hf, hid⟩
      have := fv_upd id ns r h' q
      unfold fv look upd at this
      by_cases eq : y.id = q
      · have hq : ¬ q = id := by omega
        simp [eq, hq]
      · have : decide (y.id = q) = false := by simp [eq]
        simp only [this]
        assumption
def insF (f : Tl) : List Tl → List Tl
  | [] => [f]
  | y :: r => if f.id < y.id then f :: y :: r else y :: insF f r
theorem insF_perm (f : Tl) : ∀ fs, (insF f fs).Perm (f :: fs)
  | [] => List.Perm.refl _
  | y :: r => by
    unfold insF
    split
    · exact List.Perm.refl _
    · exact ((insF_perm f r).cons y).trans (List.Perm.swap f y r)
theorem insF_mem {f x : Tl} {fs : List Tl} : x ∈ insF f fs ↔ x = f ∨ x ∈ fs := by rw [(insF_perm f fs).mem_iff, List.mem_cons]
theorem insF_pair {R : Tl → Tl → Prop} {f : Tl} : ∀ {fs : List Tl}, fs.Pairwise R → (∀ x ∈ fs, R f x) → (∀ x ∈ fs, R x f) → (insF f fs).Pairwise R
  | [], _, _, _ => by simp [insF]
  | y :: r, h, h1, h2 => by
    have h' := List.pairwise_cons.1 h
    unfold insF
    split
    · exact List.pairwise_cons.2 ⟨h1, h⟩
    · refine List.pairwise_cons.2 ⟨fun x hx => ?_, insF_pair h'.2 (fun x hx => h1 x (by simp [hx])) (fun x hx => h2 x (by simp [hx]))⟩
      rcases insF_mem.1 hx with rfl | hx
      · exact h2 y (by simp)
      · exact h'.1 x hx
theorem insF_rise {f : Tl} : ∀ {fs : List Tl}, fs.Pairwise (fun a b => a.id < b.id) → (∀ x ∈ fs, x.id ≠ f.id) → (insF f fs).Pairwise (fun a b => a.id < b.id)
  | [], _, _ => by simp [insF]
  | y :: r, h, h1 => by
    have h' := List.pairwise_cons.1 h
    unfold insF
    split
    · rename_i hb
      refine List.pairwise_cons.2 ⟨fun x hx => ?_, h⟩
      rcases List.mem_cons.1 hx with rfl | hx
      · exact hb
      · have := h'.1 x hx; omega
    · rename_i hb
      refine List.pairwise_cons.2 ⟨fun x hx => ?_, insF_rise h'.2 (fun x hx => h1 x (by simp [hx]))⟩
      rcases insF_mem.1 hx with rfl | hx
      · have := h1 y (by simp); omega
      · exact h'.1 x hx
theorem ent_ins (f : Tl) : ∀ fs, (insF f fs).map ent = DataW.insert (ent f) (fs.map ent)
  | [] => rfl
  | y :: r => by
    unfold insF
    show _ = if (ent f).1.before (ent y).1 then ent f :: ent y :: r.map ent else ent y :: DataW.insert (ent f) (r.map ent)
    have e : (ent f).1.before (ent y).1 = decide (f.id < y.id) := by simp [ent, Lit.before]
    rw [e]
    by_cases hlt : f.id < y.id
    · rw [if_pos hlt, if_pos (by simpa using hlt)]; rfl
    · rw [if_neg hlt, if_neg (by simpa using hlt)]
      show ent y :: (insF f r).map ent = _
      rw [ent_ins f r]
theorem dm_put {f : Tl} {fs : List Tl} (h : ∀ x ∈ fs, x.id ≠ f.id) : (dm fs).put (.int .i64 f.id) (.lit (.int .i64 f.bk)) = dm (insF f fs) := by
  unfold dm
  rw [DataW.put_eq, ent_ins]
  unfold ChangeMaps.putKey
  congr 1
  show DataW.insert (ent f) _ = _
  congr 1
  refine List.filter_eq_self.2 (fun y hy => ?_)
  obtain ⟨x, hx, rfl⟩ := List.mem_map.1 hy
  unfold ChangeMaps.notKey
  rw [same_id]
  simp [h x hx]
theorem fv_ins {f : Tl} {fs : List Tl} (h : fs.Pairwise (fun a b => a.id < b.id)) (hne : ∀ x ∈ fs, x.id ≠ f.id) (q : Int) : fv (insF f fs) q = if q = f.id then f.ns else fv fs q := by
  have hr := insF_rise h hne
  by_cases e : q = f.id
  · rw [if_pos e, e]
    exact fv_of (look_of hr (insF_mem.2 (Or.inl rfl)))
  · rw [if_neg e]
    cases hl : look q fs with
    | some g =>
      obtain ⟨hg, hid⟩ := look_mem hl
      rw [fv_of hl, ← hid]
      exact fv_of (look_of hr (insF_mem.2 (Or.inr hg)))
    | none =>
      rw [fv_no hl]
      refine fv_no (List.find?_eq_none.2 fun x hx => ?_)
      rcases insF_mem.1 hx with rfl | hx
      · simp; omega
      · have := look_no hl x hx; simpa using this
end Go.Proofs.Ytolobmhbmajolaa
