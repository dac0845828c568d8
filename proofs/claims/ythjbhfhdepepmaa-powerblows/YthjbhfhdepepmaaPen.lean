/- Over a nil disk: Crash, Harm, Check, Least, Most. -/
import Derived.Test.YthjbhfhdepepmaaPMB
import Derived.Test.YthjbhfhdepepmaaNil
namespace Go.Proofs.Ythjbhfhdepepmaa
open Go.RowKit
theorem Fts.kept {w w' : World} {a : Option Addr} {fs : List Ft3} (h : Fts w a fs) (hb : Below w.heap.size w w') : Fts w' a fs := by
  rcases h with h | ⟨b, off, h1, h2, h3⟩
  · exact Or.inl h
  · refine Or.inr ⟨b, off, h1, Nat.lt_of_lt_of_le h2 hb.size, fun j hj => ?_⟩
    have hh : w'.heap[b]? = w.heap[b]? := hb.block b h2
    have hc : ∀ o, w'.cell? ⟨b, o, none⟩ = w.cell? ⟨b, o, none⟩ := fun o => by simp [World.cell?, hh]
    rw [hc, hc, hc]
    exact h3 j hj
set_option maxHeartbeats 1000000 in
theorem crash_nil (a : Option Addr) (cap : Nat) (fs : List Ft3) (w : World) (hF : Fts w a fs) (hl : fs.length ≤ 140737488355328) (hz : ∀ f ∈ fs, FtOk f) : Calls Try.prog 25 #[.pointer none, .slice a fs.length cap] w fun e w' => e = .returned (.tuple #[]) ∧ Below w.heap.size w w' := by
  have HFi := hid (firsts_any a cap fs w hF (by omega) hz)
  have HLi := hid (fun wx => list_nil wx)
  generalize fs.length = N at *
  clear hF hz hl
  go_enter Try.func25, Try.ntmps25
  go_wp2_with (first | (go_at_call 47; refine HFi.out.mono ?_; rintro e w1 ⟨m, rfl, hm, _, hb1⟩; have HB1 := hid hb1; clear hm hb1) | (go_at_call 39; refine (HLi.out _).mono ?_; rintro e w2 ⟨rfl, rfl⟩))
  go_loopg [15] 0 (fun k i wr => i = .int .i64 0 ∧ w2 = wr)
  case atStart => exact ⟨rfl, rfl⟩
  case round =>
    obtain ⟨rfl, rfl⟩ := hrel
    go_wp2_with fail
    go_end0
    exact ⟨rfl, HB1.out⟩
set_option maxHeartbeats 1000000 in
theorem pgood_any (nm : ByteArray) (w : World) : Calls Try.prog 48 #[.string nm] w fun e w' => e = .returned (.bool (decide (1 ≤ nm.size ∧ nm.size ≤ 255))) ∧ w' = w := by
  by_cases h1 : 1 ≤ nm.size
  · have h1I : (1 : Int) ≤ nm.size := by omega
    by_cases h2 : nm.size ≤ 255
    · have h2I : (nm.size : Int) ≤ 255 := by omega
      have HE : Hid (decide (1 ≤ nm.size ∧ nm.size ≤ 255) = true) := decide_eq_true ⟨h1, h2⟩
      rw [HE.out]
      go_enter Try.func48, Try.ntmps48
      go_wp2_with fail
      go_ret
      exact ⟨rfl, rfl⟩
    · have h2I : ¬ (nm.size : Int) ≤ 255 := by omega
      have HE : Hid (decide (1 ≤ nm.size ∧ nm.size ≤ 255) = false) := decide_eq_false (fun h => h2 h.2)
      rw [HE.out]
      go_enter Try.func48, Try.ntmps48
      go_wp2_with fail
      go_ret
      exact ⟨rfl, rfl⟩
  · have h1I : ¬ (1 : Int) ≤ nm.size := by omega
    have HE : Hid (decide (1 ≤ nm.size ∧ nm.size ≤ 255) = false) := decide_eq_false (fun h => h1 h.1)
    rw [HE.out]
    go_enter Try.func48, Try.ntmps48
    go_wp2_with fail
    go_ret
    exact ⟨rfl, rfl⟩
set_option maxHeartbeats 1000000 in
theorem harm1_nil (nm : ByteArray) (kp : Int) (oa : Option Addr) (on oc : Nat) (w : World) : Calls Try.prog 55 #[.pointer none, .agg #[.string nm, .int .i64 kp, .slice oa on oc]] w fun e w' => e = .returned (.tuple #[]) ∧ Below w.heap.size w w' := by
  have HB0 := hid (bel_alloc w (.cells #[.string nm, .int .i64 kp, .slice oa on oc] 24))
  have HR := hid (fun wx => remove_nil nm wx)
  have HS := hid (fun wx => size_nil nm wx)
  by_cases hk : kp < 0
  · go_enter Try.func55, Try.ntmps55
    go_wp2_with (go_at_call 77; refine (HR.out _).mono ?_; rintro e w2 ⟨rfl, rfl⟩)
    refine bodyPost_ret (v := .tuple #[]) (by simp [results, Try.results55, go_sem]) rfl ⟨rfl, ?_⟩
    exact HB0.out
  · have HC := hid (fun wx => create_nil nm wx)
    have hc0 : ¬ ((crN nm : Nat) : Int) = 0 := by unfold crN; split <;> decide
    have hc1 : (((crN nm : Nat) : Int) != 0) = true := by simp; omega
    have hk0 : ¬ kp < 0 := hk
    go_enter Try.func55, Try.ntmps55
    go_wp2_with (first | (go_at_call 36; refine (HS.out _).mono ?_; rintro e w2 ⟨rfl, rfl⟩) | (go_at_call 28; refine (HC.out _).mono ?_; rintro e w3 ⟨rfl, rfl⟩))
    refine bodyPost_ret (v := .tuple #[]) (by simp [results, Try.results55, go_sem]) rfl ⟨rfl, ?_⟩
    exact HB0.out
/-- Harm over a nil disk. -/
theorem ft_get {fs : List Ft3} {j : Nat} (hj : j < fs.length) : fs.getD j t00 ∈ fs := by
  rw [List.getD_eq_getElem?_getD, List.getElem?_eq_getElem hj]
  exact List.getElem_mem _
set_option maxRecDepth 20000 in
set_option maxHeartbeats 2000000 in
theorem harm_nil (a : Option Addr) (cap : Nat) (fs : List Ft3) (w : World) (hF : Fts w a fs) (hl : fs.length ≤ 140737488355328) (hz : ∀ f ∈ fs, f.1.size ≤ 140737488355328) : Calls Try.prog 23 #[.pointer none, .slice a fs.length cap] w fun e w' => e = .returned (.tuple #[]) ∧ Below w.heap.size w w' := by
  have HF := hid hF
  have HZ : Hid (∀ j, j < fs.length → (fs.getD j t00).1.size ≤ 140737488355328) := fun j hj => hz _ (ft_get hj)
  obtain ⟨N, hN⟩ : ∃ N, N = fs.length := ⟨_, rfl⟩
  have HN := hid hN
  rw [← hN] at hl HZ ⊢
  clear hF hz hN
  go_enter Try.func23, Try.ntmps23
  go_wp2_with fail
  go_loopg [8] N (fun k i wr => ∃ j : Nat, j + k = N ∧ i = .int .i64 j ∧ Hid (Below w.heap.size w wr))
  case atStart => exact ⟨0, by omega, rfl, Below.refl _ _⟩
  case round =>
    obtain ⟨j, hj, rfl, HB⟩ := hrel
    by_cases hlt : j < N
    · obtain ⟨k', rfl⟩ : ∃ k', gk = k' + 1 := ⟨gk - 1, by omega⟩
      have hltI : (j : Int) < N := by omega
      rcases HF.out with rfl | ⟨b, off, rfl, hbl, hc⟩
      · exact absurd hlt (by rw [HN.out]; simp)
      obtain ⟨q0, q1, q2⟩ := hc j (by rw [← HN.out]; exact hlt)
      have hok := HZ.out j hlt
      rw [← HB.out.cell (p := ⟨b, off + j * 3, none⟩) hbl] at q0
      rw [← HB.out.cell (p := ⟨b, off + j * 3 + 1, none⟩) hbl] at q1
      rw [← HB.out.cell (p := ⟨b, off + j * 3 + 2, none⟩) hbl] at q2
      generalize fs.getD j t00 = f at *
      obtain ⟨nm, kp, oa, on, oc⟩ := f
      simp only [ovS] at q0 q1 q2 hok
      have HG := hid (fun wx => pgood_any nm wx)
      have HH := hid (fun wx => harm1_nil nm kp oa on oc wx)
      have HBa := hid (HB.out.alloc HB.out.size (.cells #[.string nm, .int .i64 kp, .slice oa on oc] 24))
      have HJ := hid hj
      clear hc hbl hok hj
      cases hg : decide (1 ≤ nm.size ∧ nm.size ≤ 255) with
      | true =>
        rw [hg] at HG
        clear hg
        go_wp2_with (first | (go_at_call 48; refine (HG.out _).mono ?_; rintro e w2 ⟨rfl, rfl⟩) | (go_at_call 55; refine (HH.out _).mono ?_; rintro e w3 ⟨rfl, hb3⟩; have HB3 := hid (HBa.out.trans (hb3.mono HBa.out.size)); clear hb3))
        go_roundg k'
        case measure => omega
        case rel => exact ⟨j + 1, by have := HJ.out; omega, congrArg (Value.int .i64) (by omega), HB3.out⟩
      | false =>
        rw [hg] at HG
        clear hg
        go_wp2_with (go_at_call 48; refine (HG.out _).mono ?_; rintro e w2 ⟨rfl, rfl⟩)
        go_roundg k'
        case measure => omega
        case rel => exact ⟨j + 1, by have := HJ.out; omega, congrArg (Value.int .i64) (by omega), HBa.out⟩
    · have hltI : ¬ (j : Int) < N := by omega
      go_wp2_with fail
      go_end0
      exact ⟨rfl, HB.out⟩
/-- What Check answers over a nil disk. -/
def ckN (fs : List Ft3) : Int := match fs with | [] => 0 | f :: _ => if 1 ≤ f.1.size ∧ f.1.size ≤ 255 then 4 else 3
set_option maxRecDepth 20000 in
set_option maxHeartbeats 2000000 in
theorem check_nil (a : Option Addr) (cap : Nat) (fs : List Ft3) (w : World) (hF : Fts w a fs) (hl : fs.length ≤ 140737488355328) (hz : ∀ f ∈ fs, f.1.size ≤ 140737488355328) : Calls Try.prog 16 #[.pointer none, .slice a fs.length cap] w fun e w' => e = .returned (.int .i64 (ckN fs)) ∧ Below w.heap.size w w' := by
  have HFi := hid (firsts_any a cap fs w hF (by omega) (fun f hf => by have := hz f hf; unfold FtOk maxLen; omega))
  cases fs with
  | nil =>
    have HE : Hid (ckN [] = 0) := rfl
    simp only [List.length_nil] at HFi ⊢
    clear hF hz hl
    go_enter Try.func16, Try.ntmps16
    go_wp2_with (go_at_call 47; refine HFi.out.mono ?_; rintro e w1 ⟨m, rfl, hm, _, hb1⟩; have HB1 := hid hb1; clear hm hb1)
    go_loopg [16] 0 (fun k i wr => i = .int .i64 0 ∧ w1 = wr)
    case atStart => exact ⟨rfl, rfl⟩
    case round =>
      obtain ⟨rfl, rfl⟩ := hrel
      go_wp2_with fail
      go_ret
      exact ⟨by rw [HE.out]; rfl, HB1.out⟩
  | cons f r =>
    have hzf := hz f (by simp)
    rcases hF with h | ⟨b, off, rfl, hbl, hc⟩
    · cases h
    obtain ⟨q0, q1, q2⟩ := hc 0 (by simp)
    obtain ⟨nm, kp, oa, on, oc⟩ := f
    simp only [ovS, List.getD_cons_zero, Nat.zero_mul, Nat.add_zero] at q0 q1 q2 hzf
    have HQ : Hid (∀ wx, Below w.heap.size w wx → wx.cell? ⟨b, off, none⟩ = some (.string nm) ∧ wx.cell? ⟨b, off + 1, none⟩ = some (.int .i64 kp) ∧ wx.cell? ⟨b, off + 2, none⟩ = some (.slice oa on oc)) := fun wx hx => ⟨(hx.cell (p := ⟨b, off, none⟩) hbl).trans q0, (hx.cell (p := ⟨b, off + 1, none⟩) hbl).trans q1, (hx.cell (p := ⟨b, off + 2, none⟩) hbl).trans q2⟩
    have HE : Hid (ckN ((nm, kp, oa, on, oc) :: r) = if 1 ≤ nm.size ∧ nm.size ≤ 255 then 4 else 3) := rfl
    have HG := hid (fun wx => pgood_any nm wx)
    have HS := hid (fun wx => size_nil nm wx)
    obtain ⟨N, hN⟩ : ∃ N, N = ((nm, kp, oa, on, oc) :: r : List Ft3).length := ⟨_, rfl⟩
    have hN1 : (0 : Int) < N := by rw [hN]; simp
    have hN2 : 0 < N := by rw [hN]; simp
    rw [← hN] at HFi ⊢
    clear hz hc hl hN q0 q1 q2 hzf
    go_enter Try.func16, Try.ntmps16
    go_wp2_with (go_at_call 47; refine HFi.out.mono ?_; rintro e w1 ⟨m, rfl, hm, _, hb1⟩; have HB1 := hid hb1; clear hm hb1)
    go_loopg [16] 1 (fun k i wr => i = .int .i64 0 ∧ w1 = wr)
    case atStart => exact ⟨rfl, rfl⟩
    case round =>
      obtain ⟨rfl, rfl⟩ := hrel
      obtain ⟨q0, q1, q2⟩ := HQ.out _ HB1.out
      have HBa := hid (HB1.out.alloc HB1.out.size (.cells #[.string nm, .int .i64 kp, .slice oa on oc] 24))
      cases hg : decide (1 ≤ nm.size ∧ nm.size ≤ 255) with
      | true =>
        rw [hg] at HG
        have HE2 : Hid (ckN ((nm, kp, oa, on, oc) :: r) = 4) := by show _ = _; rw [HE.out, if_pos (of_decide_eq_true hg)]
        clear hg
        go_wp2_with (first | (go_at_call 48; refine (HG.out _).mono ?_; rintro e w2 ⟨rfl, rfl⟩) | (go_at_call 36; refine (HS.out _).mono ?_; rintro e w3 ⟨rfl, rfl⟩))
        go_ret
        exact ⟨by rw [HE2.out]; rfl, HBa.out⟩
      | false =>
        rw [hg] at HG
        have HE2 : Hid (ckN ((nm, kp, oa, on, oc) :: r) = 3) := by show _ = _; rw [HE.out, if_neg (of_decide_eq_false hg)]
        clear hg
        go_wp2_with (go_at_call 48; refine (HG.out _).mono ?_; rintro e w2 ⟨rfl, rfl⟩)
        go_ret
        exact ⟨by rw [HE2.out]; rfl, HBa.out⟩
theorem Try.infoFate : (Try.prog.info? 24).map (fun i => (i.zero, i.size, i.bytes)) = some (some (.agg #[.string ⟨#[]⟩, .int .i64 0, .slice none 0 0]), 3, 48) := by kernel_rfl
theorem mkfates (N : Nat) (hN : N ≤ 1099511627776) (w : World) : (Instr.makeSlice 37 (.int .i64 N) (.int .i64 N)).run Try.prog w = .ok (.slice (some ⟨w.heap.size, 0, none⟩) N N) (w.alloc (.cells (madeCells #[.string ⟨#[]⟩, .int .i64 0, .slice none 0 0] (N * 3)) 24)) := by
  obtain ⟨i0, hi, hz0, hz1, hz2⟩ := info_parts Try.infoFate
  have h := run_make (P := Try.prog) w 37 24 i0 (.agg #[.string ⟨#[]⟩, .int .i64 0, .slice none 0 0]) Try.underlying37 hi hz0 .i64 .i64 N N (by omega) (by omega) (by rw [hz2]; omega) (by omega)
  rw [hz1, show (Value.agg #[.string ⟨#[]⟩, .int .i64 0, .slice none 0 0]).cells = #[.string ⟨#[]⟩, .int .i64 0, .slice none 0 0] from rfl] at h
  simpa using h
set_option maxRecDepth 20000 in
set_option maxHeartbeats 1000000 in
theorem keeping_nil (k : Value) (w : World) : Calls Try.prog 54 #[.pointer none, k] w fun e w' => (∃ a c, e = .returned (.slice a 0 c)) ∧ Below w.heap.size w w' := by
  have hmk := fun w => mkfates 0 (by omega) w
  simp only [Int.cast_ofNat_Int, Nat.zero_mul] at hmk
  have HLi := hid (fun wx => list_nil wx)
  go_enter Try.func54, Try.ntmps54
  go_wp2_with (go_at_call 39; refine (HLi.out _).mono ?_; rintro e w2 ⟨rfl, hw2⟩; subst w2)
  go_loopg [18] 0 (fun k i wr => i = .int .i64 0 ∧ Hid (Below w.heap.size w wr))
  case atStart => exact ⟨rfl, (Below.refl _ _).alloc (Nat.le_refl _) _⟩
  case round =>
    obtain ⟨rfl, HB⟩ := hrel
    go_wp2_with fail
    go_ret
    exact ⟨⟨_, _, rfl⟩, HB.out⟩
theorem least_nil (w : World) : Calls Try.prog 19 #[.pointer none] w fun e w' => (∃ a c, e = .returned (.slice a 0 c)) ∧ Below w.heap.size w w' := by
  have HK := hid (fun k wx => keeping_nil k wx)
  go_enter Try.func19, Try.ntmps19
  go_wp2_with (go_at_call 54; refine (HK.out _ _).mono ?_; rintro e w2 ⟨⟨a, c, rfl⟩, hb⟩)
  go_ret
  exact ⟨⟨a, c, rfl⟩, hb⟩
theorem most_nil (w : World) : Calls Try.prog 21 #[.pointer none] w fun e w' => (∃ a c, e = .returned (.slice a 0 c)) ∧ Below w.heap.size w w' := by
  have HK := hid (fun k wx => keeping_nil k wx)
  go_enter Try.func21, Try.ntmps21
  go_wp2_with (go_at_call 54; refine (HK.out _ _).mono ?_; rintro e w2 ⟨⟨a, c, rfl⟩, hb⟩)
  go_ret
  exact ⟨⟨a, c, rfl⟩, hb⟩
end Go.Proofs.Ythjbhfhdepepmaa
