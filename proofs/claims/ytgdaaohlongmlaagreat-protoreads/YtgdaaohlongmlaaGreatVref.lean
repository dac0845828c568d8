/- What the document's own Put and PutSigned lay down: the forms of the values; nothing that was there before is turned. -/
import Derived.Test.YtgdaaohlongmlaaGreatVput
namespace Go.Proofs.YtgdaaohlongmlaaGreat
open Go.RowKit
theorem Tryz.infoU64 : (Tryz.prog.info? 103).map (fun i => (i.zero, i.size, i.bytes)) = some (some (.int .u64 0), 1, 8) := by kernel_rfl
theorem own_below {base n size : Nat} {e : TypeId} {w w' : World} {v : Value} {l : List Value} (h : w.ownsRow base e size v n l) (hb : Below w.heap.size w w') : w'.ownsRow base e size v n l := by
  have hlt := h.lt
  obtain ⟨h1, h2⟩ := h
  refine ⟨h1, ?_⟩
  rcases h2 with h2 | ⟨g, cap, cur, rfl, hg, hh, r⟩
  · exact Or.inl h2
  · have := (hlt g rfl).2
    exact Or.inr ⟨g, cap, cur, rfl, hg, by rw [hb.block g this]; exact hh, r⟩
theorem own_some {base n size : Nat} {e : TypeId} {w : World} {v : Value} {l : List Value} (h : w.ownsRow base e size v n l) (hn : 0 < n) : ∃ g cap, v = .slice (some ⟨g, 0, none⟩) n cap ∧ base ≤ g ∧ g < w.heap.size := by
  have hlt := h.lt
  obtain ⟨h1, h2⟩ := h
  rcases h2 with ⟨_, h0⟩ | ⟨g, cap, cur, rfl, hg, hh, r⟩
  · omega
  · exact ⟨g, cap, rfl, hg, (hlt g rfl).2⟩
theorem bc_one (l : List Nat) : ∀ u ∈ bc l, u.oneCell' = true := by
  intro u hu
  simp only [bc, List.mem_map] at hu
  obtain ⟨b, _, rfl⟩ := hu
  rfl
/-- Numbers of 64 bits as cells. -/
def uc (l : List Int) : List Value := l.map fun z => Value.int .u64 z
theorem uc_len (l : List Int) : (uc l).length = l.length := by simp [uc]
theorem uc_app (l m : List Int) : uc (l ++ m) = uc l ++ uc m := by simp [uc]
theorem one_u64 (b : Int) : ∀ u ∈ [Value.int .u64 b], u.oneCell' = true := by intro u hu; simp at hu; subst hu; rfl
theorem vals_own {base n : Nat} {w : World} {v : Value} {zs : List Int} (h : w.ownsRow base 103 1 v n (uc zs)) : ∃ a cap, v = .slice a zs.length cap ∧ Vals .u64 w a zs := by
  have hlt := h.lt
  have hcell := fun (g : Nat) (hg : v.ownBlock = some g) => h.cells hg
  obtain ⟨h1, h2⟩ := h
  rw [uc_len, Nat.mul_one] at h1
  rcases h2 with ⟨rfl, h0⟩ | ⟨g, cap, cur, rfl, hg, hh, r⟩
  · have : zs = [] := List.eq_nil_of_length_eq_zero (by omega)
    subst this
    exact ⟨none, 0, rfl, Or.inl rfl⟩
  · refine ⟨some ⟨g, 0, none⟩, cap, by rw [h1], Or.inr ⟨g, 0, rfl, (hlt g rfl).2, fun j hj => ?_⟩⟩
    have := hcell g rfl j (.int .u64 (zs.getD j 0)) (by simp [uc, List.getD_eq_getElem?_getD, hj])
    rw [← Go.WideShapes.add_plain]
    exact this
theorem zzs_snoc (zs : List Int) (k : Nat) (h : k < zs.length) : zzs (zs.take (k + 1)) = zzs (zs.take k) ++ [M.zz (zs.getD k 0)] := by
  have e : zs.getD k 0 = zs[k] := by simp [List.getD_eq_getElem?_getD, h]
  unfold zzs
  rw [List.take_succ_eq_append_getElem h, List.map_append, e]
  simp
theorem own_snoc64 {base n : Nat} {w1 : World} {v' : Value} {l : List Int} {z : Int} (hn : l.length = n) (h : w1.ownsRow base 103 1 v' (n + 1) (uc l ++ [.int .u64 z])) : w1.ownsRow base 103 1 v' (l ++ [z]).length (uc (l ++ [z])) := by
  have e : (l ++ [z]).length = n + 1 := by simp [hn]
  rw [uc_app, e]; exact h
end Go.Proofs.YtgdaaohlongmlaaGreat
