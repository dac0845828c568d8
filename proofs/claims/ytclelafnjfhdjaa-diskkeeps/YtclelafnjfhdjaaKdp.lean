/- DiskKeeps: three disks apart, and lists that are held. -/
import Derived.Test.YtclelafnjfhdjaaKdl
namespace Go.Proofs.Ytclelafnjfhdjaa
open Go.RowKit
def ovw : ByteArray := ⟨#[119, 114, 105, 116, 116, 101, 110, 32, 111, 118, 101, 114]⟩
def gro : ByteArray := ⟨#[103, 114, 111, 119, 110]⟩
/-- No block of a disk is a row of another type. -/
theorem Ds.ty {w : World} {d : Nat} {ft : Nat → Prop} {rm : Nat} {cl cb : Int} {V : Vw} (h : Ds w d ft rm cl cb V) {i : Nat} {c : Array Value} {T : TypeId} {fz : Nat × Nat} (hi : w.heap[i]? = some (.cells c T fz)) (h1 : T ≠ 5) (h2 : T ≠ 48) (h3 : T ≠ 74) : ¬ ft i := fun hf => by
  obtain ⟨m, fs, hd, _, rfl⟩ := h
  rcases hf with rfl | hf | ⟨f, hf, rfl | hf⟩
  · rw [hd.blk] at hi; injection hi with hi; injection hi with _ e _; exact h2 e.symm
  · exact hd.m_cells hf hi rfl
  · rw [(hd.fil f hf).1] at hi; injection hi with hi; injection hi with _ e _; exact h3 e.symm
  · obtain ⟨cur, hcu⟩ := row_at (hd.fil f ‹_›).2 hf
    rw [hcu] at hi; injection hi with hi; injection hi with _ e _; exact h1 e.symm
/-- Three disks, apart from one another, all of whose blocks lie from H on. -/
def D3 (w0 : World) (H : Nat) (w : World) (a b c : Nat) (rm : Nat) (cla cba : Int) (Va : Vw) (clb cbb : Int) (Vb : Vw) (clc cbc : Int) (Vc : Vw) : Prop :=
  ∃ fa fb fc, Ds w a fa rm cla cba Va ∧ Ds w b fb rm clb cbb Vb ∧ Ds w c fc rm clc cbc Vc ∧ (∀ i, fa i → ¬ fb i) ∧ (∀ i, fb i → ¬ fc i) ∧ (∀ i, fc i → ¬ fa i) ∧ (∀ i, fa i → H ≤ i) ∧ (∀ i, fb i → H ≤ i) ∧ (∀ i, fc i → H ≤ i) ∧ H ≤ w.heap.size ∧ Below H w0 w
section
variable {w0 : World} {H : Nat} {w w' : World} {a b c : Nat} {rm : Nat} {cla cba : Int} {Va : Vw} {clb cbb : Int} {Vb : Vw} {clc cbc : Int} {Vc : Vw}
theorem D3.below (h : D3 w0 H w a b c rm cla cba Va clb cbb Vb clc cbc Vc) : Below H w0 w := let ⟨_, _, _, _, _, _, _, _, _, _, _, _, _, k⟩ := h; k
theorem D3.le (h : D3 w0 H w a b c rm cla cba Va clb cbb Vb clc cbc Vc) : H ≤ w.heap.size := let ⟨_, _, _, _, _, _, _, _, _, _, _, _, k, _⟩ := h; k
theorem D3.rot (h : D3 w0 H w a b c rm cla cba Va clb cbb Vb clc cbc Vc) : D3 w0 H w b c a rm clb cbb Vb clc cbc Vc cla cba Va := by
  obtain ⟨fa, fb, fc, h1, h2, h3, h4, h5, h6, h7, h8, h9, h10⟩ := h
  exact ⟨fb, fc, fa, h2, h3, h1, h5, h6, h4, h8, h9, h7, h10⟩
theorem D3.ch {S : Nat → Prop} (h : D3 w0 H w a b c rm cla cba Va clb cbb Vb clc cbc Vc) (hc : Ch S w w') (hS : ∀ i, S i → w.heap.size ≤ i ∨ (H ≤ i ∧ ∃ cu T fz, w.heap[i]? = some (.cells cu T fz) ∧ T ≠ 5 ∧ T ≠ 48 ∧ T ≠ 74)) : D3 w0 H w' a b c rm cla cba Va clb cbb Vb clc cbc Vc := by
  obtain ⟨fa, fb, fc, h1, h2, h3, h4, h5, h6, h7, h8, h9, h10, h11⟩ := h
  have k : ∀ {d : Nat} {ft : Nat → Prop} {cl cb : Int} {V : Vw}, Ds w d ft rm cl cb V → ∀ i, ft i → ¬ S i := fun hd i hi hs => by
    rcases hS i hs with h | ⟨_, cu, T, fz, e, t1, t2, t3⟩
    · have := hd.lt hi; omega
    · exact hd.ty e t1 t2 t3 hi
  refine ⟨fa, fb, fc, h1.ch hc (k h1), h2.ch hc (k h2), h3.ch hc (k h3), h4, h5, h6, h7, h8, h9, Nat.le_trans h10 hc.size, h11.trans (hc.below h10 (fun i hi hs => ?_))⟩
  rcases hS i hs with h | ⟨h, _⟩ <;> omega
theorem D3.kept (h : D3 w0 H w a b c rm cla cba Va clb cbb Vb clc cbc Vc) (hb : Below w.heap.size w w') : D3 w0 H w' a b c rm cla cba Va clb cbb Vb clc cbc Vc := h.ch (Ch.of_below (S := fun _ => False) hb) (fun _ h => h.elim)
theorem D3.first (h : D3 w0 H w a b c rm cla cba Va clb cbb Vb clc cbc Vc) {Q : Ending → World → Prop} {cl' cb' : Int} {V' : Vw} {f : FuncId} {args : Array Value} {v : Value}
    (hc : ∀ fa, Ds w a fa rm cla cba Va → Calls Try.prog f args w fun e w' => e = .returned v ∧ Aft w fa a rm cl' cb' V' w') (hQ : ∀ w', D3 w0 H w' a b c rm cl' cb' V' clb cbb Vb clc cbc Vc → Oth w w' → w.heap.size ≤ w'.heap.size → Q (.returned v) w') : Calls Try.prog f args w Q := by
  obtain ⟨fa, fb, fc, h1, h2, h3, h4, h5, h6, h7, h8, h9, h10, h11⟩ := h
  refine (hc fa h1).mono ?_
  rintro e w' ⟨rfl, fa', k1, k2, k3⟩
  refine hQ w' ⟨fa', fb, fc, k1, h2.ch k2 (fun i hb ha => h4 i ha hb), h3.ch k2 (fun i hc ha => h6 i hc ha), fun i ha hb => ?_, h5, fun i hc ha => ?_, fun i ha => ?_, h8, h9, Nat.le_trans h10 k2.size, h11.trans (k2.below h10 (fun i hi hf => by have := h7 i hf; omega))⟩ (h1.oth k2) k2.size
  · rcases k3 i ha with k | k
    · exact h4 i k hb
    · have := h2.lt hb; omega
  · rcases k3 i ha with k | k
    · exact h6 i hc k
    · have := h3.lt hc; omega
  · rcases k3 i ha with k | k
    · exact h7 i k
    · omega
end
theorem own_oth {w w' : World} {B n size : Nat} {e : TypeId} {v : Value} {l : List Value} (h : w.ownsRow B e size v n l) (hk : ∀ g, v.ownBlock = some g → ∀ cur, w.heap[g]? = some (.cells cur e (0, 0)) → w'.heap[g]? = some (.cells cur e (0, 0))) : w'.ownsRow B e size v n l := by
  refine ⟨h.1, ?_⟩
  rcases h.2 with h2 | ⟨g, cap, cur, rfl, hg, hh, r⟩
  · exact Or.inl h2
  · exact Or.inr ⟨g, cap, cur, rfl, hg, hk g rfl cur hh, r⟩
theorem own_blk {w : World} {B n size : Nat} {e : TypeId} {v : Value} {l : List Value} (h : w.ownsRow B e size v n l) {g : Nat} (hg : v.ownBlock = some g) : ∃ cur, w.heap[g]? = some (.cells cur e (0, 0)) := by
  rcases h.2 with ⟨rfl, _⟩ | ⟨g', cap, cur, rfl, _, hh, r⟩
  · cases hg
  · simp only [Value.ownBlock, Option.some.injEq] at hg; subst hg; exact ⟨_, hh⟩
/-- The lists that are held, and the row of them. -/
structure Hd (w : World) (H : Nat) (vh : Value) (hs : List Value) : Prop where
  row : w.ownsRow H 40 1 vh hs.length hs
  els : ∀ v ∈ hs, ∃ n, n ≤ 65536 ∧ w.ownsRow H 9 1 v n (List.replicate n (.string ovw))
  apt : ∀ u ∈ hs, ∀ v ∈ hs, ∀ g, u.ownBlock = some g → v.ownBlock = some g → u = v
theorem Hd.oth {w w' : World} {H : Nat} {vh : Value} {hs : List Value} (h : Hd w H vh hs) (ho : Oth w w') : Hd w' H vh hs :=
  ⟨own_oth h.row fun g _ cur hc => ho g _ _ _ hc (by decide) (by decide) (by decide), fun v hv => by
    obtain ⟨n, h1, h2⟩ := h.els v hv
    exact ⟨n, h1, own_oth h2 fun g _ cur hc => ho g _ _ _ hc (by decide) (by decide) (by decide)⟩, h.apt⟩
theorem Hd.kept {w w' : World} {H : Nat} {vh : Value} {hs : List Value} (h : Hd w H vh hs) (hb : Below w.heap.size w w') : Hd w' H vh hs := h.oth (Oth.below hb)
/-- One more list is held. -/
theorem Hd.push {w w' : World} {H : Nat} {vh : Value} {hs : List Value} {g cap n : Nat} {v : Value} (h : Hd w H vh hs) (hv : w.ownsRow H 9 1 v n (List.replicate n (.string ovw))) (hn : n ≤ 65536) (hap : ∀ u ∈ hs, ∀ g, u.ownBlock = some g → v.ownBlock ≠ some g) (hown : w'.ownsRow H 40 1 (.slice (some ⟨g, 0, none⟩) (hs.length + 1) cap) (hs.length + 1) (hs ++ [v])) (hgrow : w.grownBy w' vh.ownBlock) : Hd w' H (.slice (some ⟨g, 0, none⟩) (hs.length + 1) cap) (hs ++ [v]) := by
  have k : ∀ {u : Value} {m : Nat} {ys : List Value}, w.ownsRow H 9 1 u m ys → w'.ownsRow H 9 1 u m ys := fun hu => own_oth hu fun g' hg' cur hc => (hgrow.block g' (lt_of_heap hc) (fun e => by
    obtain ⟨c2, h2⟩ := own_blk h.row e.symm
    rw [hc] at h2
    injection h2 with h2
    injection h2 with _ h2 _
    exact absurd h2 (by decide))).trans hc
  refine ⟨by rw [List.length_append]; exact hown, fun u hu => ?_, fun x hx y hy g' e1 e2 => ?_⟩
  · rcases List.mem_append.1 hu with h1 | h1
    · obtain ⟨m, h2, h3⟩ := h.els u h1
      exact ⟨m, h2, k h3⟩
    · rw [List.mem_singleton] at h1
      subst h1
      exact ⟨n, hn, k hv⟩
  · rcases List.mem_append.1 hx with h1 | h1 <;> rcases List.mem_append.1 hy with h2 | h2
    · exact h.apt x h1 y h2 g' e1 e2
    · rw [List.mem_singleton] at h2; subst h2; exact absurd e2 (hap x h1 g' e1)
    · rw [List.mem_singleton] at h1; subst h1; exact absurd e1 (hap y h2 g' e2)
    · rw [List.mem_singleton] at h1 h2; rw [h1, h2]
theorem D3.grown {w0 : World} {H : Nat} {w w' : World} {a b c : Nat} {rm : Nat} {cla cba : Int} {Va : Vw} {clb cbb : Int} {Vb : Vw} {clc cbc : Int} {Vc : Vw} (h : D3 w0 H w a b c rm cla cba Va clb cbb Vb clc cbc Vc) {T : TypeId} {v : Value} {n size : Nat} {xs : List Value} (hr : w.ownsRow H T size v n xs) (h1 : T ≠ 5) (h2 : T ≠ 48) (h3 : T ≠ 74) (hg : w.grownBy w' v.ownBlock) : D3 w0 H w' a b c rm cla cba Va clb cbb Vb clc cbc Vc :=
  h.ch (S := fun i => v.ownBlock = some i) ⟨hg.os, hg.tape, hg.output, hg.size, fun k hk hs => hg.block k hk (fun e => hs e.symm)⟩ (fun i hi => by
    obtain ⟨cur, hc⟩ := own_blk hr hi
    exact Or.inr ⟨(hr.lt i hi).1, cur, T, _, hc, h1, h2, h3⟩)
/-- A list that grew out of a held one: in its block yet, or in none of a held list's. -/
def Gr (hs : List Value) (v0 : Value) (n0 : Nat) (vg : Value) (m : Nat) (ys : List Value) : Prop := n0 ≤ m ∧ ys.take n0 = List.replicate n0 (.string ovw) ∧ ((∃ g cap, v0 = .slice (some ⟨g, 0, none⟩) n0 cap ∧ vg = .slice (some ⟨g, 0, none⟩) m cap) ∨ ∀ u ∈ hs, ∀ g, u.ownBlock = some g → vg.ownBlock ≠ some g)
theorem Gr.start {w : World} {H : Nat} {hs : List Value} {v0 : Value} {n0 : Nat} (h : w.ownsRow H 9 1 v0 n0 (List.replicate n0 (.string ovw))) : Gr hs v0 n0 v0 n0 (List.replicate n0 (.string ovw)) := by
  refine ⟨Nat.le_refl _, by simp, ?_⟩
  rcases h.2 with ⟨rfl, rfl⟩ | ⟨g, cap, cur, rfl, _⟩
  · exact Or.inr fun u _ g _ e => by cases e
  · exact Or.inl ⟨g, cap, rfl, rfl⟩
theorem Gr.step {w0 w w' : World} {H : Nat} {vh : Value} {hs : List Value} {v0 : Value} {n0 : Nat} {vg : Value} {m : Nat} {ys : List Value} {g cap : Nat} {x : Value} (hG : Gr hs v0 n0 vg m ys) (h0 : v0 ∈ hs) (hn : n0 ≤ 65536) (hH : Hd w H vh hs) (hvg : w.ownsRow H 9 1 vg m ys)
    (hown : w'.ownsRow H 9 1 (.slice (some ⟨g, 0, none⟩) (m + 1) cap) (m + 1) (ys ++ [x])) (hor : (vg = .slice (some ⟨g, 0, none⟩) m cap ∧ w.grownBy w' (some g)) ∨ (g = w.heap.size ∧ Below w.heap.size w w'))
    {a b c : Nat} {rm : Nat} {cla cba : Int} {Va : Vw} {clb cbb : Int} {Vb : Vw} {clc cbc : Int} {Vc : Vw} (hD : D3 w0 H w a b c rm cla cba Va clb cbb Vb clc cbc Vc) :
    Gr hs v0 n0 (.slice (some ⟨g, 0, none⟩) (m + 1) cap) (m + 1) (ys ++ [x]) ∧ Hd w' H vh hs ∧ D3 w0 H w' a b c rm cla cba Va clb cbb Vb clc cbc Vc := by
  obtain ⟨g1, g2, g3⟩ := hG
  have hlen : ys.length = m := by have := hvg.1; omega
  have htk : (ys ++ [x]).take n0 = List.replicate n0 (.string ovw) := by rw [List.take_append_of_le_length (by omega)]; exact g2
  rcases hor with ⟨rfl, hgr⟩ | ⟨rfl, hb⟩
  · have hD' := hD.grown hvg (by decide) (by decide) (by decide) hgr
    have hkeep : ∀ {T : TypeId} {u : Value} {k : Nat} {zs : List Value}, w.ownsRow H T 1 u k zs → u.ownBlock ≠ some g → w'.ownsRow H T 1 u k zs := fun hu hne => own_oth hu fun g' hg' cur hc => (hgr.block g' (lt_of_heap hc) (fun e => by injection e with e; subst e; exact hne hg')).trans hc
    have hrow : w'.ownsRow H 40 1 vh hs.length hs := hkeep hH.row (fun e => by
      obtain ⟨c1, k1⟩ := own_blk hH.row e
      obtain ⟨c2, k2⟩ := own_blk hvg (g := g) rfl
      rw [k1] at k2
      injection k2 with k2
      injection k2 with _ k2 _
      exact absurd k2 (by decide))
    rcases g3 with ⟨g', cap', e1, e2⟩ | g3
    · injection e2 with e2 _ e3
      injection e2 with e2
      injection e2 with e2 _ _
      subst e2 e3
      refine ⟨⟨by omega, htk, Or.inl ⟨g, cap, e1, rfl⟩⟩, ⟨hrow, fun u hu => ?_, hH.apt⟩, hD'⟩
      by_cases hub : u.ownBlock = some g
      · have hu0 : u = v0 := hH.apt u hu v0 h0 g hub (by rw [e1]; rfl)
        subst hu0
        rw [e1]
        refine ⟨n0, hn, by simp, Or.inr ?_⟩
        rcases hown.2 with ⟨q, _⟩ | ⟨g2', cap2, cur, q, q1, q2, q3, q4, q5, q6⟩
        · cases q
        · injection q with q _ q'
          injection q with q
          injection q with q _ _
          subst q q'
          refine ⟨g, cap, cur, rfl, q1, q2, by omega, q4, q5, ?_⟩
          rw [← htk, ← q6, List.take_take]
          congr 1
          omega
      · obtain ⟨k, k1, k2⟩ := hH.els u hu
        exact ⟨k, k1, hkeep k2 hub⟩
    · refine ⟨⟨by omega, htk, Or.inr g3⟩, ⟨hrow, fun u hu => ?_, hH.apt⟩, hD'⟩
      obtain ⟨k, k1, k2⟩ := hH.els u hu
      exact ⟨k, k1, hkeep k2 (fun e => g3 u hu g e rfl)⟩
  · refine ⟨⟨by omega, htk, Or.inr fun u hu g' e1 e2 => ?_⟩, hH.kept hb, hD.kept hb⟩
    obtain ⟨k, k1, k2⟩ := hH.els u hu
    have := (k2.lt g' e1).2
    simp only [Value.ownBlock, Option.some.injEq] at e2
    omega
theorem own_base {w : World} {B H n size : Nat} {e : TypeId} {v : Value} {l : List Value} (h : w.ownsRow B e size v n l) (hB : H ≤ B) : w.ownsRow H e size v n l := by
  refine ⟨h.1, ?_⟩
  rcases h.2 with h2 | ⟨g, cap, cur, rfl, hg, r⟩
  · exact Or.inl h2
  · exact Or.inr ⟨g, cap, cur, rfl, Nat.le_trans hB hg, r⟩
theorem D3.new (w : World) (r : Int) (H : Nat) (w0 : World) (h : Below H w0 w) (hs : H ≤ w.heap.size) : D3 w0 H (((w.alloc (.cells #[.int .i64 (clamp r), .int .i64 0, .map none, .int .i64 0, .int .i64 0] 48)).alloc (.cells #[.int .i64 (clamp r), .int .i64 0, .map none, .int .i64 0, .int .i64 0] 48)).alloc (.cells #[.int .i64 (clamp r), .int .i64 0, .map none, .int .i64 0, .int .i64 0] 48)) w.heap.size (w.heap.size + 1) (w.heap.size + 1 + 1) (clamp r) 0 0 [] 0 0 [] 0 0 [] := by
  obtain ⟨w1, hw1⟩ : ∃ w1, w1 = w.alloc (.cells #[.int .i64 (clamp r), .int .i64 0, .map none, .int .i64 0, .int .i64 0] 48) := ⟨_, rfl⟩
  have hs1 : w1.heap.size = w.heap.size + 1 := by rw [hw1]; simp
  have h1 := Ds.new w r
  rw [← hw1] at h1 ⊢
  obtain ⟨w2, hw2⟩ : ∃ w2, w2 = w1.alloc (.cells #[.int .i64 (clamp r), .int .i64 0, .map none, .int .i64 0, .int .i64 0] 48) := ⟨_, rfl⟩
  have hs2 : w2.heap.size = w.heap.size + 1 + 1 := by rw [hw2]; simp [hs1]
  have h2 := Ds.new w1 r
  rw [← hw2] at h2 ⊢
  have h3 := Ds.new w2 r
  rw [hs1] at h2
  rw [hs2] at h3
  have hb1 : Below H w0 w1 := by rw [hw1]; exact h.alloc hs _
  have hb2 : Below H w0 w2 := by rw [hw2]; exact hb1.alloc (by omega) _
  have h1' := h1.alloc (.cells #[.int .i64 (clamp r), .int .i64 0, .map none, .int .i64 0, .int .i64 0] 48)
  rw [← hw2] at h1'
  refine ⟨_, _, _, h1'.alloc _, h2.alloc _, h3, fun i ha hb => ?_, fun i hb hc => ?_, fun i hc ha => ?_, fun i ha => ?_, fun i hb => ?_, fun i hc => ?_, by simp; omega, hb2.alloc (by omega) _⟩
  · have e1 : i = w.heap.size := ha
    have e2 : i = w.heap.size + 1 := hb
    omega
  · have e1 : i = w.heap.size + 1 := hb
    have e2 : i = w.heap.size + 1 + 1 := hc
    omega
  · have e1 : i = w.heap.size := ha
    have e2 : i = w.heap.size + 1 + 1 := hc
    omega
  · have e1 : i = w.heap.size := ha
    omega
  · have e1 : i = w.heap.size + 1 := hb
    omega
  · have e1 : i = w.heap.size + 1 + 1 := hc
    omega
end Go.Proofs.Ytclelafnjfhdjaa
