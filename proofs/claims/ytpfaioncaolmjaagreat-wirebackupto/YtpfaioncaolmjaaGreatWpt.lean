/- Put32 of the program's writer: four bytes written over. -/
import Derived.Test.YtpfaioncaolmjaaGreatWri
import Derived.BigRegion
import Derived.Laws.OwnMore
namespace Go.Proofs.YtpfaioncaolmjaaGreat
open Go.RowKit
theorem own_lenw {w : World} {B n size : Nat} {e : TypeId} {v : Value} {l : List Value} (h : w.ownsRow B e size v n l) : ∃ a cap, v = .slice a n cap := by
  rcases h.2 with ⟨rfl, rfl⟩ | ⟨g, cap, cur, rfl, _⟩
  · exact ⟨_, _, rfl⟩
  · exact ⟨_, _, rfl⟩
/-- The first i of four bytes are written over. -/
def ovr (l : List Nat) (A v i : Nat) : List Nat := l.take A ++ ((nb 4 v).take i ++ l.drop (A + i))
theorem ovr_len {l : List Nat} {A v i : Nat} (hA : A + 4 ≤ l.length) (hi : i ≤ 4) : (ovr l A v i).length = l.length := by
  unfold ovr
  rw [List.length_append, List.length_append, List.length_take, List.length_take, List.length_drop, nb_len]
  omega
theorem ovr_zero (l : List Nat) (A v : Nat) : ovr l A v 0 = l := by
  unfold ovr
  rw [List.take_zero, List.nil_append, Nat.add_zero, List.take_append_drop]
theorem nb4_at (v : Nat) : ∀ i, i < 4 → (nb 4 v)[i]? = some (v / 256 ^ (3 - i) % 256)
  | 0, _ => by rw [nb_cons]; rfl
  | 1, _ => by rw [nb_cons, nb_cons]; rfl
  | 2, _ => by rw [nb_cons, nb_cons, nb_cons]; rfl
  | 3, _ => by rw [nb_cons, nb_cons, nb_cons, nb_cons]; rfl
  | n + 4, h => by omega
theorem ovr_set {l : List Nat} {A v i : Nat} (hA : A + 4 ≤ l.length) (hi : i < 4) : (ovr l A v i).set (A + i) (v / 256 ^ (3 - i) % 256) = ovr l A v (i + 1) := by
  unfold ovr
  have h1 : (l.take A).length = A := by rw [List.length_take]; omega
  have h2 : ((nb 4 v).take i).length = i := by rw [List.length_take, nb_len]; omega
  rw [List.set_append_right _ _ (by omega), h1, Nat.add_sub_cancel_left, List.set_append_right _ _ (by omega), h2, Nat.sub_self]
  have h3 : l.drop (A + i) = l[A + i]'(by omega) :: l.drop (A + i + 1) := List.drop_eq_getElem_cons (by omega)
  have h4 : (nb 4 v).take (i + 1) = (nb 4 v).take i ++ [v / 256 ^ (3 - i) % 256] := by
    rw [List.take_add_one, nb4_at v i hi]
    rfl
  rw [h3, List.set_cons_zero, h4, List.append_assoc]
  rfl
theorem ovr_byte {l : List Nat} {A v i : Nat} (h : ∀ b ∈ l, b < 256) : ∀ b ∈ ovr l A v i, b < 256 := fun b hb => by
  unfold ovr at hb
  rcases List.mem_append.1 hb with hb | hb
  · exact h b (List.mem_of_mem_take hb)
  · rcases List.mem_append.1 hb with hb | hb
    · exact nb_byte 4 v b (List.mem_of_mem_take hb)
    · exact h b (List.mem_of_mem_drop hb)
set_option maxHeartbeats 2000000 in
set_option maxRecDepth 20000 in
theorem over_no (p B : Nat) (l : List Nat) (at' : Int) (v : Nat) (w : World) (h : Wr w p B l) (hl : l.length ≤ 140737488355000) (hn : ¬ (0 ≤ at' ∧ at' ≤ (l.length : Int) - 4)) :
    Calls Tryz.prog 76 #[.pointer (some ⟨p, 0, none⟩), .int .i64 at', .int .u32 v] w fun e w' => e = .returned (.bool false) ∧ w' = w := by
  obtain ⟨a, n, cap, T, g, ho, hp, hB, hb⟩ := h
  have c0 : w.cell? ⟨p, 0, none⟩ = some (.int .i64 l.length) := (cell_of g).trans rfl
  have CA := hid (fun x (c : x.cell? ⟨p, 0, none⟩ = some (.int .i64 l.length)) => at_any p l.length x c)
  have hw : IntKind.i64.wrap ((l.length : Int) - 4) = (l.length : Int) - 4 := wrap_in (by omega) (by omega)
  clear g ho hb
  by_cases h0 : at' < 0
  · have d0 : decide (at' < 0) = true := decide_eq_true h0
    go_enter Tryz.func76, Tryz.ntmps76
    go_wp2_with fail
    go_ret
    exact ⟨rfl, rfl⟩
  · have d0 : decide (at' < 0) = false := decide_eq_false h0
    have h1 : (l.length : Int) - 4 < at' := by omega
    have d1 : decide ((l.length : Int) - 4 < at') = true := decide_eq_true h1
    go_enter Tryz.func76, Tryz.ntmps76
    go_wp2_with fail
    refine (CA.out _ c0).mono ?_
    rintro e w2 ⟨rfl, rfl⟩
    go_wp2_with fail
    go_ret
    exact ⟨rfl, rfl⟩
set_option maxHeartbeats 4000000 in
set_option maxRecDepth 20000 in
theorem over_yes (p B : Nat) (l : List Nat) (A v : Nat) (w : World) (h : Wr w p B l) (hl : l.length ≤ 140737488355000) (hA : A + 4 ≤ l.length) :
    Calls Tryz.prog 76 #[.pointer (some ⟨p, 0, none⟩), .int .i64 A, .int .u32 v] w fun e w' => e = .returned (.bool true) ∧ Wr w' p B (ovr l A v 4) ∧ Ch (WU p B w) w w' := by
  obtain ⟨a, n, cap, T, g, ho, hp, hB, hb⟩ := h
  obtain ⟨a', cap', e0⟩ := own_lenw ho
  injection e0 with e1 e2 e3
  subst e1 e2 e3
  obtain ⟨r, rfl, hBr⟩ : ∃ r, a = some ⟨r, 0, none⟩ ∧ B ≤ r := by
    rcases id ho.2 with ⟨_, h3⟩ | ⟨r, cap2, cur, e, hb2, _⟩
    · omega
    · injection e with e1 _ _
      exact ⟨r, e1, hb2⟩
  have c0 : w.cell? ⟨p, 0, none⟩ = some (.int .i64 l.length) := (cell_of g).trans rfl
  have CA := hid (fun x (c : x.cell? ⟨p, 0, none⟩ = some (.int .i64 l.length)) => at_any p l.length x c)
  have hw : IntKind.i64.wrap ((l.length : Int) - 4) = (l.length : Int) - 4 := wrap_in (by omega) (by omega)
  have d0 : decide ((A : Int) < 0) = false := decide_eq_false (by omega)
  have h1 : ¬ (l.length : Int) - 4 < (A : Int) := by omega
  have d1 : decide ((l.length : Int) - 4 < (A : Int)) = false := decide_eq_false h1
  have HG := hid g
  have HO : Hid (w.ownsRow B 5 1 (.slice (some ⟨r, 0, none⟩) l.length cap) l.length (bc (ovr l A v 0))) := by show World.ownsRow _ _ _ _ _ _ _; rw [ovr_zero]; exact ho
  have HBY := hid hb
  have HA := hid hA
  have HL := hid hl
  have HC0 : Hid (Ch (WU p B w) w w) := Ch.refl _ _
  have HPB := hid hp
  have HBr := hid hBr
  have HBw := hid hB
  clear g ho hb hA hl
  go_enter Tryz.func76, Tryz.ntmps76
  go_wp2_with fail
  refine (CA.out _ c0).mono ?_
  rintro e w2 ⟨rfl, hw2⟩
  rw [hw2]
  clear hw2 w2
  go_wp2_with fail
  clear c0 hw d0 h1 d1 CA
  go_loopg [19] 4 (fun k i wr => ∃ m : Nat, m + k = 4 ∧ i = .int .i64 m ∧ Hid (wr.heap[p]? = some (.cells #[.int .i64 l.length, .slice (some ⟨r, 0, none⟩) l.length cap] T (0, 0))) ∧ Hid (wr.ownsRow B 5 1 (.slice (some ⟨r, 0, none⟩) l.length cap) l.length (bc (ovr l A v m))) ∧ Hid (Ch (WU p B w) w wr))
  case atStart => exact ⟨0, by omega, rfl, HG, HO, HC0⟩
  case round =>
    clear HG HO HC0
    obtain ⟨m, hk, rfl, HG, HO, HC⟩ := hrel
    by_cases hlt : m < 4
    · obtain ⟨k, rfl⟩ : ∃ k, gk = k + 1 := ⟨gk - 1, by omega⟩
      have hA := HA.out
      have hl := HL.out
      obtain ⟨K, hK⟩ : ∃ K, K = A + m := ⟨_, rfl⟩
      obtain ⟨J, hJ⟩ : ∃ J, J = 3 - m := ⟨_, rfl⟩
      have hKI : (A : Int) + (m : Int) = (K : Int) := by omega
      have hJI : (3 : Int) - (m : Int) = (J : Int) := by omega
      have hJ4 : J ≤ 3 := by omega
      have hK0 : (0 : Int) ≤ (K : Int) := by omega
      have hK1 : (K : Int) < (l.length : Int) := by omega
      have hwK : IntKind.i64.wrap (K : Int) = (K : Int) := wrap_in (by omega) (by omega)
      have hwJ : IntKind.i64.wrap (J : Int) = (J : Int) := wrap_in (by omega) (by omega)
      have hw8 : IntKind.i64.wrap (8 * (J : Int)) = 8 * (J : Int) := wrap_in (by omega) (by omega)
      have h80 : ¬ 8 * (J : Int) < 0 := by omega
      have hby := byte_at v J
      have hbv : (v : Int) / 2 ^ (8 * J) % 256 = ((v / 256 ^ J % 256 : Nat) : Int) := by rw [p8 J, Int.natCast_emod, Int.natCast_ediv]; rfl
      have hst := HO.out.stored K (.int .u8 (v / 256 ^ J % 256 : Nat))
      have HO2 : Hid ((wr.setCell ⟨r, K, none⟩ (.int .u8 (v / 256 ^ J % 256 : Nat))).ownsRow B 5 1 (.slice (some ⟨r, 0, none⟩) l.length cap) l.length (bc (ovr l A v (m + 1)))) := by
        have h := hst.1
        rw [bc_set, hK, hJ, ovr_set hA hlt, ← hK, ← hJ] at h
        exact h
      have hrl := (HO.out.lt r rfl)
      have HC2 : Hid (Ch (WU p B w) w (wr.setCell ⟨r, K, none⟩ (.int .u8 (v / 256 ^ J % 256 : Nat)))) := HC.out.tu (chU (v := .slice (some ⟨r, 0, none⟩) l.length cap) hst.2 HO.out)
      have HG2 : Hid ((wr.setCell ⟨r, K, none⟩ (.int .u8 (v / 256 ^ J % 256 : Nat))).heap[p]? = some (.cells #[.int .i64 l.length, .slice (some ⟨r, 0, none⟩) l.length cap] T (0, 0))) := heap_set_far HG.out (by have h1 := HPB.out; have h2 := HBr.out; show p ≠ r; omega)
      have c1 : wr.cell? ⟨p, 1, none⟩ = some (.slice (some ⟨r, 0, none⟩) l.length cap) := (cell_of HG.out).trans rfl
      have hlen : (bc (ovr l A v m)).length = l.length := by rw [bc_len]; exact ovr_len hA (by omega)
      obtain ⟨y, hy⟩ : ∃ y, (bc (ovr l A v m))[K]? = some y := ⟨_, List.getElem?_eq_getElem (by omega)⟩
      have cy : wr.cell? ⟨r, K, none⟩ = some y := by rw [HO.out.cellAt K (by omega)]; exact hy
      have fy := HO.out.frozenAt K
      have HKm := hid hK
      clear hst hrl hlen hy hA hl hJ HO HC HG hK
      generalize hQ : v / 256 ^ J % 256 = Q at *
      clear hQ
      go_wp2_with fail
      go_region
      all_goals
        go_wp2_with fail
        go_roundg k
        case measure => omega
        case rel => exact ⟨m + 1, by omega, by go_num, by first | exact HG2 | exact hid HG2.out, by first | exact HO2 | (show World.ownsRow (World.drew _) _ _ _ _ _ _; exact HO2.out), by first | exact HC2 | exact HC2.out.drew⟩
    · have hm4 : m = 4 := by omega
      subst hm4
      have HW : Hid (Wr wr p B (ovr l A v 4)) := by
        have hlen : (ovr l A v 4).length = l.length := ovr_len HA.out (by omega)
        refine ⟨some ⟨r, 0, none⟩, l.length, cap, T, ?_, ?_, HPB.out, Nat.le_trans HBw.out HC.out.size, ovr_byte HBY.out⟩
        · rw [hlen]; exact HG.out
        · rw [hlen]; exact HO.out
      clear HG HO
      go_wp2_with fail
      go_ret
      exact ⟨rfl, HW.out, HC.out⟩
end Go.Proofs.YtpfaioncaolmjaaGreat
