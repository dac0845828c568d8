/- 'plain': the calls of a script that aren't Put32, in a row of its own. -/
import Derived.Test.YtpfaioncaolmjaaGreatAgm
import Derived.Test.YtpfaioncaolmjaaGreatWop
import Derived.Laws.AppendOwnNone
namespace Go.Proofs.YtpfaioncaolmjaaGreat
open Go.RowKit
abbrev OpT := Nat × Nat × ByteArray
def oc (r : OpT) : List Value := [.int .u8 r.1, .int .u64 r.2.1, .string r.2.2]
def ocs (rs : List OpT) : List Value := rs.flatMap oc
theorem ocs_len (rs : List OpT) : (ocs rs).length = rs.length * 3 := by
  induction rs with
  | nil => rfl
  | cons r rs ih => simp only [ocs, List.flatMap_cons, List.length_append] at *; rw [ih]; simp [oc]; omega
theorem ocs_app (a b : List OpT) : ocs (a ++ b) = ocs a ++ ocs b := by simp [ocs]
theorem ocs_one (rs : List OpT) : ∀ u ∈ ocs rs, u.oneCell' = true := by
  intro u hu
  simp only [ocs, List.mem_flatMap] at hu
  obtain ⟨r, _, h⟩ := hu
  simp only [oc, List.mem_cons, List.not_mem_nil, or_false] at h
  rcases h with rfl | rfl | rfl <;> rfl
theorem oc_one (r : OpT) : ∀ u ∈ oc r, u.oneCell' = true := fun u hu => ocs_one [r] u (by simpa [ocs] using hu)
theorem ocs_at (rs : List OpT) : ∀ j, j < rs.length → (ocs rs)[j * 3]? = some (.int .u8 (rs.getD j (0, 0, ByteArray.empty)).1) ∧ (ocs rs)[j * 3 + 1]? = some (.int .u64 (rs.getD j (0, 0, ByteArray.empty)).2.1) ∧ (ocs rs)[j * 3 + 2]? = some (.string (rs.getD j (0, 0, ByteArray.empty)).2.2) := by
  induction rs with
  | nil => intro j hj; simp at hj
  | cons r rs ih =>
    intro j hj
    have e : ocs (r :: rs) = oc r ++ ocs rs := rfl
    cases j with
    | zero => rw [e]; exact ⟨rfl, rfl, rfl⟩
    | succ j =>
      have h := ih j (by simpa using hj)
      rw [e]
      have e3 : (oc r).length = 3 := rfl
      refine ⟨?_, ?_, ?_⟩
      · rw [List.getElem?_append_right (by omega), e3, show (j + 1) * 3 - 3 = j * 3 from by omega]; exact h.1
      · rw [List.getElem?_append_right (by omega), e3, show (j + 1) * 3 + 1 - 3 = j * 3 + 1 from by omega]; exact h.2.1
      · rw [List.getElem?_append_right (by omega), e3, show (j + 1) * 3 + 2 - 3 = j * 3 + 2 from by omega]; exact h.2.2
/-- A row of calls of the call's own, from B on. -/
def OwnO (w : World) (B : Nat) (v : Value) (rs : List OpT) : Prop := w.ownsRow B 32 3 v rs.length (ocs rs)
theorem OwnO.slice {w : World} {B : Nat} {v : Value} {rs : List OpT} (h : OwnO w B v rs) : ∃ a cap, v = .slice a rs.length cap ∧ rs.length ≤ cap ∧ Opq w a rs := by
  have hlt := World.ownsRow.lt h
  have hcell := fun (g : Nat) (hg : v.ownBlock = some g) => World.ownsRow.cells h hg
  obtain ⟨hl, h⟩ := h
  rcases h with ⟨rfl, h1⟩ | ⟨g, cap, cur, rfl, hh⟩
  · exact ⟨none, 0, by rw [h1], by omega, Or.inl (List.eq_nil_of_length_eq_zero h1)⟩
  · refine ⟨some ⟨g, 0, none⟩, cap, rfl, by omega, Or.inr ⟨g, 0, rfl, (hlt g rfl).2, fun j hj => ?_⟩⟩
    have hr := ocs_at rs j hj
    have e : ∀ i, (⟨g, 0, none⟩ : Addr).add i = ⟨g, 0 + i, none⟩ := fun i => Go.WideShapes.add_plain _ _ _
    refine ⟨?_, ?_, ?_⟩
    · have := hcell g rfl _ _ hr.1; rw [e] at this; exact this
    · have := hcell g rfl _ _ hr.2.1; rw [e] at this; exact this
    · have := hcell g rfl _ _ hr.2.2; rw [e] at this; exact this
theorem ownO_snoc {w : World} {B n : Nat} {v : Value} {rs : List OpT} {r : OpT} (h : w.ownsRow B 32 3 v (n + 1) (ocs rs ++ oc r)) (hn : rs.length = n) : OwnO w B v (rs ++ [r]) := by
  unfold OwnO
  rw [List.length_append, hn, ocs_app]
  have : ocs [r] = oc r := by simp [ocs]
  rw [this]
  exact h
theorem Tryz.infoOp : (Tryz.prog.info? 32).map (fun i => (i.zero, i.size, i.bytes)) = some (some (.agg #[.int .u8 0, .int .u64 0, .string ⟨#[]⟩]), 3, 32) := by kernel_rfl
theorem Tryz.underOps : Tryz.prog.underlying 22 = some (.slice 32) := by kernel_rfl
theorem cells_newO (w : World) (xs : List Value) (t : TypeId) (n : Nat) (h : w.heap.size = n) : ∀ j u, xs[j]? = some u → (w.alloc (.cells xs.toArray t)).cell? ((⟨n, 0, none⟩ : Addr).add j) = some u := by
  subst h
  intro j u hu
  rw [Go.WideShapes.add_plain, Nat.zero_add]
  exact (cell_of (heap_new w _)).trans (by simpa using hu)
/-- The calls that aren't Put32. -/
def pl (os : List OpT) : List OpT := os.filter fun o => decide (o.1 % 14 < 12)
theorem pl_len (os : List OpT) : (pl os).length ≤ os.length := List.length_filter_le _ _
theorem pl_yes {os : List OpT} {j : Nat} (h : j < os.length) (hk : (os.getD j (0, 0, ByteArray.empty)).1 % 14 < 12) : pl (os.take (j + 1)) = pl (os.take j) ++ [os.getD j (0, 0, ByteArray.empty)] := by
  unfold pl
  rw [List.take_add_one, List.filter_append]
  congr 1
  rw [List.getD_eq_getElem?_getD, List.getElem?_eq_getElem h] at hk ⊢
  simp only [Option.getD_some] at hk ⊢
  simp [hk]
theorem pl_no {os : List OpT} {j : Nat} (h : j < os.length) (hk : ¬ (os.getD j (0, 0, ByteArray.empty)).1 % 14 < 12) : pl (os.take (j + 1)) = pl (os.take j) := by
  unfold pl
  rw [List.take_add_one, List.filter_append]
  rw [List.getD_eq_getElem?_getD, List.getElem?_eq_getElem h] at hk
  simp only [Option.getD_some] at hk
  simp [List.getElem?_eq_getElem h, hk]
theorem pl_mem {os : List OpT} {o : OpT} (h : o ∈ pl os) : o ∈ os ∧ o.1 % 14 < 12 := by
  unfold pl at h
  rw [List.mem_filter] at h
  exact ⟨h.1, of_decide_eq_true h.2⟩
set_option maxHeartbeats 4000000 in
set_option maxRecDepth 20000 in
theorem plain_any (a : Option Addr) (cap : Nat) (os : List OpT) (w : World) (hl : os.length ≤ 1048576) (hcap : os.length ≤ cap) (hz : ∀ o ∈ os, o.1 < 256) (V : Opq w a os) :
    Calls Tryz.prog 6 #[.slice a os.length cap] w fun e w' => ∃ v, e = .returned v ∧ OwnO w' w.heap.size v (pl os) ∧ Below w.heap.size w w' := by
  obtain ⟨i0, hi, hz0, hz1, hz2⟩ := info_parts Tryz.infoOp
  have HV := hid V
  have HZ := hid hz
  clear V hz
  go_enter Tryz.func6, Tryz.ntmps6
  go_wp2_with fail
  go_loopg [3, 8] os.length (fun k o i wr => ∃ j : Nat, j + k = os.length ∧ i = .int .i64 j ∧ Hid (OwnO wr w.heap.size o (pl (os.take j))) ∧ Hid (Below w.heap.size w wr))
  case atStart => exact ⟨0, by omega, rfl, World.ownsRow_nil _ _ _ _, Below.refl _ _⟩
  case round =>
    obtain ⟨j, hk, rfl, HO, HB⟩ := hrel
    by_cases hlt : j < os.length
    · obtain ⟨k, rfl⟩ : ∃ k, gk = k + 1 := ⟨gk - 1, by omega⟩
      rcases HV.out with rfl | ⟨b, off, rfl, hbl, hc⟩
      · simp at hlt
      obtain ⟨q0, q1, q2⟩ := hc j hlt
      have hK := HZ.out _ (opq_mem hlt)
      have hsz := HB.out.size
      have PY : Hid (_ → _) := fun h => pl_yes (os := os) hlt h
      have PN : Hid (_ → _) := fun h => pl_no (os := os) hlt h
      have hpl : (pl (os.take j)).length ≤ 1048576 := Nat.le_trans (pl_len _) (by rw [List.length_take]; omega)
      generalize os.getD j (0, 0, ByteArray.empty) = o at *
      obtain ⟨Kd, N, S⟩ := o
      simp only at q0 q1 q2 hK
      have k0 := (HB.out.cell (p := ⟨b, off + j * 3, none⟩) hbl).trans q0
      have k1 := (HB.out.cell (p := ⟨b, off + j * 3 + 1, none⟩) hbl).trans q1
      have k2 := (HB.out.cell (p := ⟨b, off + j * 3 + 2, none⟩) hbl).trans q2
      have ho := HO.out
      unfold OwnO at ho
      by_cases h12 : Kd % 14 < 12
      · have h12' : (Kd : Int) % 14 < 12 := by omega
        have PY' := hid (PY.out h12)
        generalize pl (os.take j) = rs at *
        clear hc q0 q1 q2 PY PN HO h12
        go_wp2_with (at_builtin; refine wpList_append_own _ rfl _ _ 22 rfl w.heap.size 32 i0 (.agg #[.int .u8 0, .int .u64 0, .string ⟨#[]⟩]) 3 32 Tryz.underOps hi hz0 hz1 hz2 rfl (by decide) _ _ _ rfl ((ho.alloc _).alloc _) ⟨wr.heap.size + 1, 0, none⟩ 1 1 (oc (Kd, N, S)) rfl rfl ?c1 ?c2 ?c3 ?c4 ?c5 ?_)
        case c1 => exact cells_newO _ (oc (Kd, N, S)) _ _ (by simp)
        case c2 => exact oc_one _
        case c3 => unfold maxLen; omega
        case c4 => omega
        case c5 => simp; omega
        intro v' w2 hown2 hgrow2 _
        have HB2 := hid (bel_step (HB.out.alloc hsz (.cells #[.int .u8 Kd, .int .u64 N, .string S] 32)) (ho.alloc _) (by simp; omega) hgrow2)
        have HO2 : Hid (OwnO w2 w.heap.size v' (rs ++ [(Kd, N, S)])) := ownO_snoc hown2 rfl
        clear hown2 hgrow2 ho
        go_wp2_with fail
        go_roundg k
        case measure => omega
        case rel => exact ⟨j + 1, by omega, by go_num, by rw [PY'.out]; exact HO2, HB2⟩
      · have h12' : ¬ (Kd : Int) % 14 < 12 := by omega
        have PN' := hid (PN.out h12)
        have HBA := hid (HB.out.alloc hsz (.cells #[.int .u8 Kd, .int .u64 N, .string S] 32))
        have HOA : Hid (OwnO (wr.alloc (.cells #[.int .u8 Kd, .int .u64 N, .string S] 32)) w.heap.size u3 (pl (os.take j))) := ho.alloc _
        clear hc q0 q1 q2 PY PN HO h12 ho
        go_wp2_with fail
        go_roundg k
        case measure => omega
        case rel => exact ⟨j + 1, by omega, by go_num, by rw [PN'.out]; exact HOA, HBA⟩
    · obtain rfl : j = os.length := by omega
      rw [List.take_length] at HO
      go_wp2_with fail
      go_ret
      exact ⟨_, rfl, HO.out, HB.out⟩
end Go.Proofs.YtpfaioncaolmjaaGreat
