/- Rows of segments that a call makes; the statement's segments. -/
import Derived.Test.YtgffipkbbenddaaDoorSeg
import Derived.Laws.AppendOwnNone
import Derived.Deep.AppendLies
namespace Go.Proofs.YtgffipkbbenddaaDoor
open Go.RowKit Go.Lib
def sgc (s : Sg) : List Value := [.int .i64 s.b, .bool s.x, .bool s.y, .bool s.z]
def sgl (l : List Sg) : List Value := l.flatMap sgc
theorem sgl_len (l : List Sg) : (sgl l).length = l.length * 4 := by
  induction l with
  | nil => rfl
  | cons r rs ih => simp only [sgl, List.flatMap_cons, List.length_append] at *; rw [ih]; simp [sgc]; omega
theorem sgl_app (a b : List Sg) : sgl (a ++ b) = sgl a ++ sgl b := by simp [sgl]
theorem sgc_one (s : Sg) : ∀ u ∈ sgc s, u.oneCell' = true := by
  intro u hu
  simp only [sgc, List.mem_cons, List.not_mem_nil, or_false] at hu
  rcases hu with rfl | rfl | rfl | rfl <;> rfl
theorem sgl_at {l : List Sg} {j k : Nat} (hj : j < l.length) (hk : k < 4) : (sgl l)[j * 4 + k]? = (sgc (l.getD j sg0))[k]? := by
  have e : l = l.take j ++ l.getD j sg0 :: l.drop (j + 1) := by
    rw [List.getD_eq_getElem?_getD, List.getElem?_eq_getElem hj]
    simp
  have hl : (sgl (l.take j)).length = j * 4 := by rw [sgl_len, List.length_take]; congr 1; omega
  have e2 : sgl l = sgl (l.take j) ++ (sgc (l.getD j sg0) ++ sgl (l.drop (j + 1))) := by
    conv => lhs; rw [e, sgl_app]
    rfl
  rw [e2, List.getElem?_append_right (by omega), hl, show j * 4 + k - j * 4 = k from by omega, List.getElem?_append_left (by show k < 4; exact hk)]
/-- A row of segments of the call's own. -/
def OwS (T : TypeId) (w : World) (B : Nat) (v : Value) (l : List Sg) : Prop := w.ownsRow B T 4 v l.length (sgl l)
theorem OwS.nil (T : TypeId) (w : World) (B : Nat) : OwS T w B (.slice none 0 0) [] := World.ownsRow_nil _ _ _ _
theorem OwS.kept {T : TypeId} {w w' : World} {B : Nat} {v : Value} {l : List Sg} (h : OwS T w B v l) (hb : ∀ g, v.ownBlock = some g → g < w.heap.size → w'.heap[g]? = w.heap[g]?) : OwS T w' B v l := by
  refine ⟨h.1, ?_⟩
  rcases h.2 with h2 | ⟨g, cap, cur, rfl, h3, h4, h5⟩
  · exact Or.inl h2
  · exact Or.inr ⟨g, cap, cur, rfl, h3, (hb g rfl (lt_of_heap h4)).trans h4, h5⟩
theorem OwS.alloc {T : TypeId} {w : World} {B : Nat} {v : Value} {l : List Sg} (h : OwS T w B v l) (o : Obj) : OwS T (w.alloc o) B v l := h.kept fun g _ hg => Below.heap_alloc w o g hg
theorem OwS.below {T : TypeId} {w w' : World} {B : Nat} {v : Value} {l : List Sg} (h : OwS T w B v l) {H : Nat} (hb : Below H w w') (hH : w.heap.size ≤ H) : OwS T w' B v l := h.kept fun g _ hg => hb.block g (Nat.lt_of_lt_of_le hg hH)
theorem OwS.own {T : TypeId} {w : World} {B : Nat} {v : Value} {l : List Sg} (h : OwS T w B v l) {g : Nat} (hg : v.ownBlock = some g) : B ≤ g := by
  rcases h.2 with ⟨rfl, _⟩ | ⟨g', cap, cur, rfl, h3, _⟩
  · cases hg
  · simp only [Value.ownBlock, Option.some.injEq] at hg; omega
theorem OwS.sgs {T : TypeId} {w : World} {B : Nat} {v : Value} {l : List Sg} (h : OwS T w B v l) : ∃ a cap, v = .slice a l.length cap ∧ Sgs w a l := by
  have hr : w.ownsRow B T 4 v l.length (sgl l) := h
  rcases h.2 with ⟨rfl, h2⟩ | ⟨g, cap, cur, rfl, h3, h4, h5⟩
  · exact ⟨none, 0, by rw [h2], Or.inl (List.eq_nil_of_length_eq_zero h2)⟩
  · refine ⟨_, cap, rfl, Or.inr ⟨g, 0, rfl, lt_of_heap h4, fun j hj => ?_⟩⟩
    have c := fun k (hk : k < 4) => (hr.cellAt (j * 4 + k) (by omega)).trans (sgl_at hj hk)
    rw [Nat.zero_add]
    exact ⟨c 0 (by omega), c 1 (by omega), c 2 (by omega), c 3 (by omega)⟩
theorem Tryd.infoS : (Tryd.prog.info? 45).map (fun i => (i.zero, i.size, i.bytes)) = some (some (.agg #[.int .i64 0, .bool false, .bool false, .bool false]), 4, 16) := by kernel_rfl
set_option maxRecDepth 20000 in
set_option maxHeartbeats 1000000 in
theorem segments_any (l : List Sg) (a : Option Addr) (cap : Nat) (w : World) (hv : Sgs w a l) (hn : l.length ≤ 8796093022208) :
    Calls Tryd.prog 18 #[.slice a l.length cap] w fun e w' => (∃ v, e = .returned v ∧ OwS 45 w' w.heap.size v l) ∧ Below w.heap.size w w' := by
  have HV := hid hv
  obtain ⟨N, hN⟩ : ∃ N, N = l.length := ⟨_, rfl⟩
  have HN := hid hN
  rw [← hN] at hn ⊢
  clear hv hN
  obtain ⟨i0, hi, hz0, hz1, hz2⟩ := info_parts Tryd.infoS
  go_enter Tryd.func18, Tryd.ntmps18
  go_wp2_with fail
  go_loopg [3, 4] N (fun k v i wr => ∃ j : Nat, j + k = N ∧ i = .int .i64 j ∧ Hid (OwS 45 wr w.heap.size v (l.take j)) ∧ Hid (Below w.heap.size w wr))
  case atStart => exact ⟨0, by omega, rfl, OwS.nil _ _ _, Below.refl _ _⟩
  case round =>
    obtain ⟨j, hj, rfl, HO, HW⟩ := hrel
    by_cases hlt : j < N
    · obtain ⟨k', rfl⟩ : ∃ k', gk = k' + 1 := ⟨gk - 1, by omega⟩
      have hltI : (j : Int) < N := by omega
      rcases HV.out with e | ⟨b1, o1, rfl, hb1, hc1⟩
      · exact absurd hlt (by rw [HN.out, e]; simp)
      obtain ⟨p0, p1, p2, p3⟩ := hc1 j (by rw [← HN.out]; exact hlt)
      have hjl : j < l.length := by rw [← HN.out]; exact hlt
      have HT : Hid (l.take (j + 1) = l.take j ++ [l.getD j sg0]) := by
        show _ = _
        rw [List.take_succ_eq_append_getElem hjl, List.getD_eq_getElem?_getD, List.getElem?_eq_getElem hjl]
        rfl
      have HL : Hid ((l.take j).length = j) := by show _ = _; rw [List.length_take]; omega
      generalize l.getD j sg0 = s at *
      obtain ⟨sb, sx, sy, sz⟩ := s
      simp only at p0 p1 p2 p3
      have hw0 := HW.out
      have q0 := (hw0.cell (p := ⟨b1, o1 + j * 4, none⟩) hb1).trans p0
      have q1 := (hw0.cell (p := ⟨b1, o1 + j * 4 + 1, none⟩) hb1).trans p1
      have q2 := (hw0.cell (p := ⟨b1, o1 + j * 4 + 2, none⟩) hb1).trans p2
      have q3 := (hw0.cell (p := ⟨b1, o1 + j * 4 + 3, none⟩) hb1).trans p3
      have HC : Hid (∀ wx, Below w.heap.size w wx → wx.cell? ⟨b1, o1 + j * 4, none⟩ = some (.int .i64 sb) ∧ wx.cell? ⟨b1, o1 + j * 4 + 1, none⟩ = some (.bool sx) ∧ wx.cell? ⟨b1, o1 + j * 4 + 2, none⟩ = some (.bool sy) ∧ wx.cell? ⟨b1, o1 + j * 4 + 3, none⟩ = some (.bool sz)) := fun wx hx =>
        ⟨(hx.cell (p := ⟨b1, o1 + j * 4, none⟩) hb1).trans p0, (hx.cell (p := ⟨b1, o1 + j * 4 + 1, none⟩) hb1).trans p1, (hx.cell (p := ⟨b1, o1 + j * 4 + 2, none⟩) hb1).trans p2, (hx.cell (p := ⟨b1, o1 + j * 4 + 3, none⟩) hb1).trans p3⟩
      have HJ := hid (And.intro hj hn)
      have HW' := hid hw0
      clear p0 p1 p2 p3 hc1 hj HW hw0 hjl
      go_wp2_with fail
      obtain ⟨wB, hwB⟩ : ∃ wB, wB = wr.drew.alloc (Obj.cells #[.int .i64 sb, .bool sx, .bool sy, .bool sz] 45) := ⟨_, rfl⟩
      have HOB : Hid (wB.ownsRow w.heap.size 45 4 u3 j (sgl (l.take j))) := by
        have h1 : OwS 45 wr.drew w.heap.size u3 (l.take j) := HO.out
        have h2 := h1.alloc (Obj.cells #[.int .i64 sb, .bool sx, .bool sy, .bool sz] 45)
        rw [← hwB] at h2
        have h3 : wB.ownsRow w.heap.size 45 4 u3 (l.take j).length (sgl (l.take j)) := h2
        rw [HL.out] at h3
        exact h3
      have HNB : Hid (∀ k u, (sgc ⟨sb, sx, sy, sz⟩)[k]? = some u → wB.cell? ((⟨wr.heap.size, 0, none⟩ : Addr).add k) = some u) := by
        rw [hwB]
        exact World.news_of_block (heap_new wr.drew _)
      have HBB : Hid (Below w.heap.size w wB) := by
        rw [hwB]
        exact (bl_drew HW'.out (Nat.le_refl _)).alloc HW'.out.size _
      have hgo := hwB.symm
      have HO1 : Hid (∀ g, u3.ownBlock = some g → w.heap.size ≤ g) := fun g hg => OwS.own HO.out hg
      clear hwB
      obtain ⟨z0, z1, z2, z3⟩ := HC.out _ HBB.out
      go_region_held3 (fun x => x.cell? ⟨b1, o1 + j * 4, none⟩ = some (.int .i64 sb) ∧ x.cell? ⟨b1, o1 + j * 4 + 1, none⟩ = some (.bool sx) ∧ x.cell? ⟨b1, o1 + j * 4 + 2, none⟩ = some (.bool sy) ∧ x.cell? ⟨b1, o1 + j * 4 + 3, none⟩ = some (.bool sz)) ((first | assumption | exact ⟨by assumption, by assumption, by assumption, by assumption⟩ | go_keep)) ((refine step_append_lies _ (by rfl) _ _ 38 (by rfl) w.heap.size 45 i0 (.agg #[.int .i64 0, .bool false, .bool false, .bool false]) 4 16 Tryd.underlying38 hi hz0 hz1 hz2 rfl (by decide) u3 j (sgl (l.take j)) (by simp [Act.eval]) HOB.out ⟨wr.heap.size, 0, none⟩ 1 1 (sgc ⟨sb, sx, sy, sz⟩) (by simp [Act.eval]) rfl HNB.out (sgc_one _) (by omega) (by unfold maxLen; omega) (by omega) HBB.out.size _ rfl ?_; intro g2 cap2 w1 hown hgrow hat hlt2; have hbel := HBB.out.grown hgrow HBB.out.size HO1.out; obtain ⟨d0, d1, d2, d3⟩ := HC.out _ hbel))
      go_wp2_with fail
      go_roundg k'
      case measure => omega
      case rel => exact ⟨j + 1, by have := HJ.out.1; omega, congrArg (Value.int .i64) (by omega), by show w1.ownsRow _ _ _ _ _ _; rw [HT.out, List.length_append, HL.out, sgl_app]; simpa [sgl] using hown, hbel⟩
    · have hltI : ¬ (j : Int) < N := by omega
      have e : l.take j = l := List.take_of_length_le (by rw [← HN.out]; omega)
      rw [e] at HO
      go_wp2_with fail
      go_ret
      exact ⟨⟨_, rfl, HO.out⟩, HW.out⟩
end Go.Proofs.YtgffipkbbenddaaDoor
