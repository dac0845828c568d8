/- A book's calls: tail, Next, keep, Note. -/
import Derived.Test.YtolobmhbmajolaaPd6
import Derived.Test.YtolobmhbmajolaaPd5
namespace Go.Proofs.Ytolobmhbmajolaa
open Go.RowKit
set_option maxHeartbeats 1000000 in
theorem btail_any (b : Nat) (m : Option Nat) (fs : List Tl) (id : Int) (h0 : -9223372036854775808 ≤ id) (h1 : id < 9223372036854775808) (w : World) (h : Bk w b m fs) :
    Calls Try.prog 36 #[.pointer (some ⟨b, 0, none⟩), .int .i64 id] w fun e w' => e = .returned (.pointer (bkOf (look id fs))) ∧ w' = w := by
  have c2 : w.cell? ⟨b, 0, none⟩ = some (.map m) := (cell_of h.blk).trans rfl
  have hrun : (Instr.lookup 58 (.map m) (.int .i64 id) false).run Try.prog w = .ok (.pointer (bkOf (look id fs))) w := by
    cases m with
    | none =>
      have e : fs = [] := h.map
      subst e
      exact Maps.look_nil false klaw Try.underMap (Try.zeroTail w) (keyI h0 h1)
    | some b =>
      have ho : w.ownsMap Try.prog 2 RP b fs.length (dm fs) := h.map
      obtain ⟨v, ps, hr, hv⟩ := ho.lookup klaw Try.underMap (Try.zeroTail w) RP_none (keyI h0 h1)
      rw [atKey_dm] at hv
      rw [hr]
      cases hl : look id fs with
      | none => rw [hl] at hv; rw [RP_inv_nil hv]; rfl
      | some f => rw [hl] at hv; rw [RP_inv hv]; rfl
  generalize bkOf (look id fs) = r at *
  clear h
  go_enter Try.func36, Try.ntmps36
  go_wp2
  go_ret
  exact ⟨rfl, rfl⟩
/-- The next sequence of a producer. -/
def nxt (l : List Nt) : Int := match l.getLast? with
  | some x => nx x
  | none => 0
theorem last_of {l : List Nt} (h : l ≠ []) : ∃ x, l.getLast? = some x ∧ x ∈ l := by
  refine ⟨l.getLast h, ?_, List.getLast_mem h⟩
  cases l with
  | nil => exact absurd rfl h
  | cons a r => rfl
set_option maxHeartbeats 1000000 in
theorem bnext_any (b : Nat) (m : Option Nat) (fs : List Tl) (id : Int) (h0 : -9223372036854775808 ≤ id) (h1 : id < 9223372036854775808) (w : World) (h : Bk w b m fs) :
    Calls Try.prog 18 #[.pointer (some ⟨b, 0, none⟩), .int .i64 id] w fun e w' => e = .returned (.tuple #[.int .i32 (nxt (fv fs id)), .bool (!(fv fs id).isEmpty)]) ∧ Below w.heap.size w w' := by
  have HT := Hid.mk (btail_any b m fs id h0 h1 w h)
  cases hl : look id fs with
  | none =>
    rw [hl] at HT
    simp only [bkOf] at HT
    rw [fv_no hl]
    clear h hl
    go_enter Try.func18, Try.ntmps18
    go_wp2_with (go_at_call 36; refine HT.out.mono ?_; rintro e w' ⟨rfl, rfl⟩)
    go_ret2
    exact ⟨rfl, Below.refl _ _⟩
  | some f =>
    obtain ⟨hf, hid⟩ := look_mem hl
    obtain ⟨hne, hok, _⟩ := h.ok f hf
    obtain ⟨x, hx, hm⟩ := last_of hne
    have HN := Hid.mk (next_any f.bk f.ns x w (hok x hm) (h.til f hf) hx)
    rw [hl] at HT
    simp only [bkOf] at HT
    rw [fv_of hl]
    have e1 : nxt f.ns = nx x := by unfold nxt; rw [hx]
    have e2 : (!f.ns.isEmpty) = true := by cases hc : f.ns with | nil => exact absurd hc hne | cons a r => rfl
    rw [e1, e2]
    generalize nx x = N at *
    generalize f.bk = B at *
    clear h hl hf hok hx hm hne e1 e2
    go_enter Try.func18, Try.ntmps18
    go_wp2_with (first | (go_at_call 36; refine HT.out.mono ?_; rintro e w' ⟨rfl, rfl⟩) | (go_at_call 37; refine HN.out.mono ?_; rintro e w' ⟨rfl, hb⟩; have HB := Hid.mk hb; clear hb))
    go_ret2
    exact ⟨rfl, HB.out⟩
/-- What lies behind a call that turns a book. -/
def Beh (w : World) (b : Nat) (m : Option Nat) (fs : List Tl) (F : Int → List Nt) (k : Nat) (w' : World) : Prop := ∃ m' fs', Bk w' b m' fs' ∧ (∀ q, fv fs' q = F q) ∧ fs'.length ≤ fs.length + k ∧ Ch (Ft b m fs) w w' ∧ ∀ i, Ft b m' fs' i → Ft b m fs i ∨ w.heap.size ≤ i
theorem own_tight {w : World} {b n : Nat} {fs : List Tl} (h : w.ownsMap Try.prog 2 RP b n (dm fs)) : w.ownsMap Try.prog 2 RP b fs.length (dm fs) := by
  obtain ⟨es, clock, hb, F, hs, hD⟩ := h
  refine ⟨es, clock, hb, F, ?_, hD⟩
  unfold dm at hD
  injection hD with hD
  have := congrArg List.length hD
  rw [length_sorted, List.length_map, List.length_map] at this
  simp at this
  omega
def kpF (fs : List Tl) (id : Int) (x : Nt) (q : Int) : List Nt := if q = id then kp (fv fs id ++ [x]) else fv fs q
theorem kp_ne (l : List Nt) (x : Nt) : kp (l ++ [x]) ≠ [] := by
  unfold kp
  intro h
  have := congrArg List.length h
  rw [List.length_drop, List.length_append] at this
  simp at this
  omega
theorem kp_mem {l : List Nt} {y : Nt} (h : y ∈ kp l) : y ∈ l := List.mem_of_mem_drop h
theorem kp_ok {l : List Nt} {x : Nt} (h : ∀ y ∈ l, NtOk y) (hx : NtOk x) : ∀ y ∈ kp (l ++ [x]), NtOk y := fun y hy => by
  rcases List.mem_append.1 (kp_mem hy) with h1 | h1
  · exact h y h1
  · rw [List.mem_singleton.1 h1]; exact hx
theorem upd_mem {id : Int} {ns : List Nt} {fs : List Tl} {g : Tl} (h : g ∈ upd id ns fs) : ∃ f ∈ fs, (f.id = id ∧ g = { f with ns := ns }) ∨ (f.id ≠ id ∧ g = f) := by
  obtain ⟨f, hf, e⟩ := List.mem_map.1 h
  refine ⟨f, hf, ?_⟩
  by_cases e' : f.id = id
  · rw [if_pos e'] at e; exact Or.inl ⟨e', e.symm⟩
  · rw [if_neg e'] at e; exact Or.inr ⟨e', e.symm⟩
theorem upd_pair {R : Int → Nat → Int → Nat → Prop} {id : Int} {ns : List Nt} {fs : List Tl} (h : fs.Pairwise (fun f g => R f.id f.bk g.id g.bk)) : (upd id ns fs).Pairwise (fun f g => R f.id f.bk g.id g.bk) := by
  have h1 : (fs.map (fun f => (f.id, f.bk))).Pairwise (fun a c => R a.1 a.2 c.1 c.2) := List.pairwise_map.2 h
  rw [← upd_bk id ns fs] at h1
  exact List.pairwise_map.1 h1
/-- A tail that was there has turned. -/
theorem bk_upd {w w' : World} {b : Nat} {m : Option Nat} {fs : List Tl} {f : Tl} {ns : List Nt} (h : Bk w b m fs) (hl : look f.id fs = some f) (hc : Ch (fun i => i = f.bk) w w') (hT : TA w' f.bk ns) (hne : ns ≠ []) (hok : ∀ x ∈ ns, NtOk x) :
    Beh w b m fs (fun q => if q = f.id then ns else fv fs q) 0 w' := by
  obtain ⟨hf, _⟩ := look_mem hl
  obtain ⟨cf, hcf⟩ := (h.til f hf).heap
  have hapt : ∀ g ∈ fs, g.id ≠ f.id → g.bk ≠ f.bk := by
    intro g hg hid e
    have h1 := look_of h.ids hg
    have key : ∀ l : List Tl, l.Pairwise (fun f g => f.bk ≠ g.bk) → g ∈ l → f ∈ l → g.bk = f.bk → g = f := by
      intro l
      induction l with
      | nil => intro _ h; cases h
      | cons y r ih =>
        intro hp hg hf e
        obtain ⟨p1, p2⟩ := List.pairwise_cons.1 hp
        rcases List.mem_cons.1 hg with hg1 | hg1
        · rcases List.mem_cons.1 hf with hf1 | hf1
          · rw [hg1, hf1]
          · exact absurd e (by rw [hg1]; exact p1 f hf1)
        · rcases List.mem_cons.1 hf with hf1 | hf1
          · exact absurd e.symm (by rw [hf1]; exact p1 g hg1)
          · exact ih p2 hg1 hf1 e
    exact hid (by rw [key fs h.apt hg hf e])
  refine ⟨m, upd f.id ns fs, ⟨?_, ?_, ?_, ?_, ?_, ?_⟩, fun q => fv_upd f.id ns fs ⟨f, hf, rfl⟩ q, ?_, ?_, ?_⟩
  · exact (hc.block b (lt_of_heap h.blk) (fun e => h.b_bk hf e.symm)).trans h.blk
  · cases m with
    | none =>
      have e : fs = [] := h.map
      subst e
      cases hf
    | some mb =>
      show w'.ownsMap _ _ _ _ _ _
      rw [dm_upd, show (upd f.id ns fs).length = fs.length from List.length_map _]
      exact map_ch (m := some mb) h.map hc (fun i hi e => by
        injection hi with hi
        subst hi
        exact mp_cells h.map hcf e)
  · intro g hg
    obtain ⟨k, hk, ⟨hid, rfl⟩ | ⟨hid, rfl⟩⟩ := upd_mem hg
    · have : k = f := by
        have h1 := look_of h.ids hk
        rw [hid, hl] at h1
        injection h1 with h1
        exact h1.symm
      subst this
      exact hT
    · exact (h.til g hk).at (hc.block _ (h.til g hk).lt (hapt g hk hid))
  · exact upd_pair (R := fun _ a _ c => a ≠ c) h.apt
  · exact upd_pair (R := fun a _ c _ => a < c) h.ids
  · intro g hg
    obtain ⟨k, hk, ⟨hid, rfl⟩ | ⟨hid, rfl⟩⟩ := upd_mem hg
    · exact ⟨hne, hok, (h.ok k hk).2.2⟩
    · exact h.ok g hk
  · rw [show (upd f.id ns fs).length = fs.length from List.length_map _]
    omega
  · exact hc.mono (fun i _ hi => Or.inr (Or.inr ⟨f, hf, hi⟩))
  · rintro i (rfl | hi | ⟨g, hg, rfl⟩)
    · exact Or.inl (Or.inl rfl)
    · exact Or.inl (Or.inr (Or.inl hi))
    · obtain ⟨k, hk, ⟨hid, rfl⟩ | ⟨hid, rfl⟩⟩ := upd_mem hg
      · exact Or.inl (Or.inr (Or.inr ⟨k, hk, rfl⟩))
      · exact Or.inl (Or.inr (Or.inr ⟨g, hk, rfl⟩))
/-- A new tail. -/
theorem bk_ins {w w' : World} {b mb p : Nat} {fs : List Tl} {id : Int} {ns : List Nt} (h : Bk w b (some mb) fs) (hl : look id fs = none) (hid : 0 ≤ id) (hc : Ch (fun i => i = mb) w w') (hp : w.heap.size ≤ p) (hT : TA w' p ns) (hne : ns ≠ []) (hok : ∀ x ∈ ns, NtOk x)
    (ho : w'.ownsMap Try.prog 2 RP mb (fs.length + 1) ((dm fs).put (.int .i64 id) (.lit (.int .i64 p)))) : Beh w b (some mb) fs (fun q => if q = id then ns else fv fs q) 1 w' := by
  have hno := look_no hl
  obtain ⟨f, hf⟩ : ∃ f : Tl, f = ⟨id, p, ns⟩ := ⟨_, rfl⟩
  have e1 : f.id = id := by rw [hf]
  have e2 : f.bk = p := by rw [hf]
  have e3 : f.ns = ns := by rw [hf]
  clear hf
  have hlt : ∀ x ∈ fs, x.bk < w.heap.size := fun x hx => (h.til x hx).lt
  have hne' : ∀ x ∈ fs, x.id ≠ f.id := fun x hx => by rw [e1]; exact hno x hx
  refine ⟨some mb, insF f fs, ⟨?_, ?_, ?_, ?_, insF_rise h.ids hne', ?_⟩, fun q => by rw [fv_ins h.ids hne', e1, e3], ?_, hc.mono (fun i _ hi => Or.inr (Or.inl (by rw [hi]))), ?_⟩
  · exact (hc.block b (lt_of_heap h.blk) (fun e => mp_cells h.map h.blk e.symm)).trans h.blk
  · rw [← e1, ← e2, dm_put hne'] at ho
    exact own_tight ho
  · intro x hx
    rcases insF_mem.1 hx with rfl | hx
    · rw [e2, e3]; exact hT
    · obtain ⟨c, hcc⟩ := (h.til x hx).heap
      exact (h.til x hx).at (hc.block _ (hlt x hx) (fun e => mp_cells h.map hcc e.symm))
  · refine insF_pair h.apt (fun x hx => ?_) (fun x hx => ?_)
    · have := hlt x hx; rw [e2]; omega
    · have := hlt x hx; rw [e2]; omega
  · intro x hx
    rcases insF_mem.1 hx with rfl | hx
    · rw [e3, e1]; exact ⟨hne, hok, hid⟩
    · exact h.ok x hx
  · rw [(insF_perm f fs).length_eq]
    exact Nat.le_refl _
  · rintro i (rfl | hi | ⟨x, hx, hi⟩)
    · exact Or.inl (Or.inl rfl)
    · exact Or.inl (Or.inr (Or.inl hi))
    · rcases insF_mem.1 hx with rfl | hx
      · exact Or.inr (by rw [hi, e2]; exact hp)
      · exact Or.inl (Or.inr (Or.inr ⟨x, hx, hi⟩))
end Go.Proofs.Ytolobmhbmajolaa
