/- DiskClones: clones go their own way. -/
import Derived.Test.YtclelafnjfhdjaaStk
import Derived.Test.YtclelafnjfhdjaaRcl
namespace Go.Proofs.Ytclelafnjfhdjaa
open Go.RowKit
/-- A script's loop: its cells stay where they lie below H. -/
theorem scr_at {w wr : World} {b off j : Nat} {o : Op5} (hb : Below w.heap.size w wr) (hbl : b < w.heap.size)
    (h : w.cell? ⟨b, off + j * 5, none⟩ = some (.int .i64 o.k) ∧ w.cell? ⟨b, off + j * 5 + 1, none⟩ = some (.string o.nm) ∧ w.cell? ⟨b, off + j * 5 + 2, none⟩ = some (.int .i64 o.a) ∧ w.cell? ⟨b, off + j * 5 + 3, none⟩ = some (.int .i64 o.b) ∧ w.cell? ⟨b, off + j * 5 + 4, none⟩ = some (.string o.s)) :
    wr.cell? ⟨b, off + j * 5, none⟩ = some (.int .i64 o.k) ∧ wr.cell? ⟨b, off + j * 5 + 1, none⟩ = some (.string o.nm) ∧ wr.cell? ⟨b, off + j * 5 + 2, none⟩ = some (.int .i64 o.a) ∧ wr.cell? ⟨b, off + j * 5 + 3, none⟩ = some (.int .i64 o.b) ∧ wr.cell? ⟨b, off + j * 5 + 4, none⟩ = some (.string o.s) :=
  ⟨(hb.cell (p := ⟨b, off + j * 5, none⟩) hbl).trans h.1, (hb.cell (p := ⟨b, off + j * 5 + 1, none⟩) hbl).trans h.2.1, (hb.cell (p := ⟨b, off + j * 5 + 2, none⟩) hbl).trans h.2.2.1, (hb.cell (p := ⟨b, off + j * 5 + 3, none⟩) hbl).trans h.2.2.2.1, (hb.cell (p := ⟨b, off + j * 5 + 4, none⟩) hbl).trans h.2.2.2.2⟩
theorem Stp.below {w0 : World} {K : Nat → Prop} {d r rm : Nat} {w : World} {H : Nat} (h : Stp w0 K d r rm w) (hK : ∀ i, i < H → K i) : Below H w0 w := by
  obtain ⟨_, _, _, hp, _⟩ := h
  exact hp.fk.below hK
/-- Two pairs, apart: the first in Pr's sense beside what the second one has, and the other way round. -/
def Q4 (w : World) (H : Nat) (d r c v : Nat) (rm : Nat) (wr : World) : Prop :=
  ∃ (cl cb : Int) (V : Vw) (cl' cb' : Int) (V' : Vw) (fd fr fc fv : Nat → Prop), Ds wr d fd rm cl cb V ∧ Rs wr r fr rm cl cb V ∧ Ds wr c fc rm cl' cb' V' ∧ Rs wr v fv rm cl' cb' V' ∧ SV rm V ∧ SV rm V' ∧
    (∀ i, fd i → ¬ fr i) ∧ (∀ i, fc i → ¬ fv i) ∧ (∀ i, (fd i ∨ fr i) → ¬ (fc i ∨ fv i)) ∧ (∀ i, (fd i ∨ fr i ∨ fc i ∨ fv i) → H ≤ i) ∧ H ≤ wr.heap.size ∧ Below H w wr
theorem Q4.swap {w : World} {H d r c v rm : Nat} {wr : World} (h : Q4 w H d r c v rm wr) : Q4 w H c v d r rm wr := by
  obtain ⟨cl, cb, V, cl', cb', V', fd, fr, fc, fv, h1, h2, h3, h4, h5, h6, h7, h8, h9, h10, h11, h12⟩ := h
  exact ⟨cl', cb', V', cl, cb, V, fc, fv, fd, fr, h3, h4, h1, h2, h6, h5, h8, h7, fun i a b => h9 i b a, fun i a => h10 i (by rcases a with a | a | a | a <;> simp [a]), h11, h12⟩
/-- A call upon the first pair. -/
theorem Q4.first {w : World} {H d r c v rm : Nat} {wr : World} (h : Q4 w H d r c v rm wr) {f : FuncId} {args : Array Value} {x : Value}
    (hc : ∀ (K : Nat → Prop) (cl cb : Int) (V : Vw), Pr wr K wr d r rm cl cb V cl cb V → SV rm V → Calls Try.prog f args wr fun e w' => e = .returned x ∧ Stp wr K d r rm w') :
    Calls Try.prog f args wr fun e w' => e = .returned x ∧ Q4 w H d r c v rm w' := by
  obtain ⟨cl, cb, V, cl', cb', V', fd, fr, fc, fv, h1, h2, h3, h4, h5, h6, h7, h8, h9, h10, h11, h12⟩ := h
  have hK : ∀ i, (i < H ∨ fc i ∨ fv i) → i < wr.heap.size := by
    rintro i (a | a | a)
    · omega
    · exact h3.lt a
    · exact h4.lt a
  refine (hc (fun i => i < H ∨ fc i ∨ fv i) cl cb V ⟨fd, fr, h1, h2, h7, ?_, ?_, Fk.refl hK⟩ h5).mono ?_
  · rintro i a (b | b)
    · have := h10 i (Or.inl a); omega
    · exact h9 i (Or.inl a) b
  · rintro i a (b | b)
    · have := h10 i (Or.inr (Or.inl a)); omega
    · exact h9 i (Or.inr a) b
  · rintro e w' ⟨he, c1, b1, V1, ⟨fd', fr', k1, k2, k3, k4, k5, k6⟩, k7⟩
    have hch := k6.toCh
    refine ⟨he, c1, b1, V1, cl', cb', V', fd', fr', fc, fv, k1, k2, h3.ch hch (fun i a n => n (Or.inr (Or.inl a))), h4.ch hch (fun i a n => n (Or.inr (Or.inr a))), k7, h6, k3, h8, ?_, ?_, Nat.le_trans h11 k6.2.1, h12.trans (k6.below (fun i hi => Or.inl hi))⟩
    · rintro i (a | a) (b | b)
      · exact k4 i a (Or.inr (Or.inl b))
      · exact k4 i a (Or.inr (Or.inr b))
      · exact k5 i a (Or.inr (Or.inl b))
      · exact k5 i a (Or.inr (Or.inr b))
    · rintro i (a | a | a | a)
      · exact Classical.byContradiction fun n => k4 i a (Or.inl (by omega))
      · exact Classical.byContradiction fun n => k5 i a (Or.inl (by omega))
      · exact h10 i (Or.inr (Or.inr (Or.inl a)))
      · exact h10 i (Or.inr (Or.inr (Or.inr a)))
theorem looks_stp (w0 : World) (K : Nat → Prop) (d r : Nat) (rm : Nat) (cl cb : Int) (V : Vw) (w : World) (hP : Pr w0 K w d r rm cl cb V cl cb V) (hs : SV rm V) :
    Calls Try.prog 10 #[.pointer (some ⟨d, 0, none⟩), .pointer (some ⟨r, 0, none⟩)] w fun e w' => e = .returned (.bool true) ∧ Stp w0 K d r rm w' := by
  refine (looks_any w0 K d r rm cl cb V w hP hs).mono ?_
  rintro e w' ⟨he, c, b, k⟩
  exact ⟨he, c, b, V, k, hs⟩
theorem Q4.below {w : World} {H d r c v rm : Nat} {wr : World} (h : Q4 w H d r c v rm wr) : Below H w wr := by
  obtain ⟨_, _, _, _, _, _, _, _, _, _, _, _, _, _, _, _, _, _, _, _, _, k⟩ := h
  exact k
/-- Both cloned. -/
theorem Q4.cloned {w : World} {d r rm : Nat} {wr : World} (h : Stp w (fun i => i < w.heap.size) d r rm wr) : Calls Try.prog 12 #[.pointer (some ⟨d, 0, none⟩)] wr fun e w1 => ∃ c, e = .returned (.pointer (some ⟨c, 0, none⟩)) ∧
    Calls Try.prog 13 #[.pointer (some ⟨r, 0, none⟩)] w1 fun e w2 => ∃ v, e = .returned (.pointer (some ⟨v, 0, none⟩)) ∧ Q4 w w.heap.size d r c v rm w2 := by
  obtain ⟨cl, cb, V, ⟨fd, fr, h1, h2, h3, h4, h5, h6⟩, hs⟩ := h
  refine (s_clone d fd rm cl cb V wr h1 hs.cnt).mono ?_
  rintro e w1 ⟨he, ⟨fc, k1, k2⟩, k3⟩
  refine ⟨_, he, ?_⟩
  have h2' := h2.kept k3
  obtain ⟨fl, hk, rfl⟩ := h2'
  refine (rclone_any r fl rm cl cb V w1 hk hs.cnt).mono ?_
  rintro e w2 ⟨he2, ⟨fv, m1, m2⟩, m3⟩
  have hs1 := k3.size
  refine ⟨_, he2, cl, cb, V, cl, cb, V, fd, _, fc, fv, (h1.kept k3).kept m3, (h2.kept k3).kept m3, k1.kept m3, m1, hs, hs, h3, ?_, ?_, ?_, ?_, ?_⟩
  · intro i a b
    have := k1.lt a
    have := m2 i b
    omega
  · rintro i (a | a) (b | b)
    · have := h1.lt a; have := k2 i b; omega
    · have := h1.lt a; have := m2 i b; omega
    · have := h2.lt a; have := k2 i b; omega
    · have := h2.lt a; have := m2 i b; omega
  · have hsz := h6.2.1
    rintro i (a | a | a | a)
    · exact Classical.byContradiction fun n => h4 i a (by omega)
    · exact Classical.byContradiction fun n => h5 i a (by omega)
    · have := k2 i a; omega
    · have := m2 i a; omega
  · have := h6.2.1; have := m3.size; omega
  · exact ((h6.below (fun i hi => hi)).trans (k3.mono h6.2.1)).trans (m3.mono (Nat.le_trans h6.2.1 k3.size))
end Go.Proofs.Ytclelafnjfhdjaa
