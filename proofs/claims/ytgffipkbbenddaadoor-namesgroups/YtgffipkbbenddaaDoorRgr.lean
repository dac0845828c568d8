/- The document's Group. -/
import Derived.Test.YtgffipkbbenddaaDoorRwi
import Derived.Test.YtgffipkbbenddaaDoorRso
import Derived.Test.YtgffipkbbenddaaDoorPtm
namespace Go.Proofs.YtgffipkbbenddaaDoor
open Go.RowKit Go.Lib
theorem wi_len (b : Nat) : ∀ l : List Sg, (wi b l).length ≤ l.length + 1
  | [] => by simp [wi]
  | s :: l => by
    have := wi_len b l
    rw [wi]
    split
    · simp
    · split
      · simp
      · simp; omega
theorem rg1_len (st : List Sg × List (List UInt8)) (t : List UInt8) : (rg1 st t).1.length + (rg1 st t).2.length ≤ st.1.length + st.2.length + 1 := by
  cases hp : prs t with
  | none =>
    rw [rg1_none hp]
    have := (ins_perm t st.2).length_eq
    simp at this
    simp only
    omega
  | some q =>
    obtain ⟨b, k⟩ := q
    rw [rg1_some hp]
    have := wi_len b st.1
    simp only [mb, List.length_map]
    omega
theorem rfold_len : ∀ (R : List (List UInt8)) (st : List Sg × List (List UInt8)), (R.foldl rg1 st).1.length + (R.foldl rg1 st).2.length ≤ st.1.length + st.2.length + R.length
  | [], st => by simp
  | t :: R, st => by
    have h1 := rfold_len R (rg1 st t)
    have h2 := rg1_len st t
    rw [List.foldl_cons, List.length_cons]
    omega
theorem rgp_step {S : List (List UInt8)} {j : Nat} (h : j < S.length) : rgp (S.take (j + 1)) = rg1 (rgp (S.take j)) S[j] := by
  unfold rgp
  rw [List.take_succ_eq_append_getElem h, List.foldl_append]
  rfl
set_option maxRecDepth 20000 in
set_option maxHeartbeats 2000000 in
theorem rgroup_any (l : List ByteArray) (a : Option Addr) (cap : Nat) (w : World) (hv : Txs w a l) (hn : l.length ≤ 8796093022206) (hz : ∀ y ∈ l, y.size ≤ 140737488355328) :
    Calls Tryd.prog 14 #[.slice a l.length cap] w fun e w' => (∃ v1 v2, e = .returned (.tuple #[v1, v2]) ∧ OwS 65 w' w.heap.size v1 (rgp (l.map fun s => s.data.toList)).1 ∧ OwX w' w.heap.size v2 (rgp (l.map fun s => s.data.toList)).2) ∧ Below w.heap.size w w' := by
  obtain ⟨T, hT⟩ : ∃ T, T = l.map fun s => s.data.toList := ⟨_, rfl⟩
  rw [← hT]
  have hTl : T.length = l.length := by rw [hT, List.length_map]
  have HTj : Hid (∀ j (h : j < l.length) (h' : j < T.length), T[j] = (l[j]).data.toList) := fun j h h' => by simp [hT]
  obtain ⟨N, hN⟩ : ∃ N, N = l.length := ⟨_, rfl⟩
  have HN := hid hN
  have HTL := hid hTl
  have HV := hid hv
  have HZ := hid hz
  rw [← hN] at hn ⊢
  clear hT hTl hv hz hN
  go_enter Tryd.func14, Tryd.ntmps14
  go_wp2_with fail
  go_loopg [4, 5, 6] N (fun k v1 v2 i wr => ∃ j : Nat, j + k = N ∧ i = .int .i64 (j : Int) ∧ Hid (OwS 65 wr w.heap.size v1 (rgp (T.take j)).1) ∧ Hid (OwX wr w.heap.size v2 (rgp (T.take j)).2) ∧ Hid (Below w.heap.size w wr))
  case atStart => exact ⟨0, by omega, rfl, OwS.nil _ _ _, OwX.nil _ _, Below.refl _ _⟩
  case round =>
    obtain ⟨j, hj, rfl, H1, H2, HB⟩ := hrel
    by_cases hlt : j < N
    · obtain ⟨k', rfl⟩ : ∃ k', gk = k' + 1 := ⟨gk - 1, by omega⟩
      have hjl : j < l.length := by rw [← HN.out]; exact hlt
      have hjT : j < T.length := by rw [HTL.out]; exact hjl
      have hltI : (j : Int) < N := by omega
      rcases HV.out with e | ⟨b1, o1, rfl, hb1, hc1⟩
      · exact absurd hjl (by rw [e]; simp)
      have c0 := hc1 j hjl
      rw [List.getD_eq_getElem?_getD, List.getElem?_eq_getElem hjl] at c0
      simp only [Option.getD_some] at c0
      have hts : (l[j]).size ≤ 140737488355328 := HZ.out _ (List.getElem_mem _)
      have HST := hid (rgp_step hjT)
      rw [HTj.out j hjl hjT] at HST
      have hlen := rfold_len (T.take j) ([], [])
      have hlen' : (rgp (T.take j)).1.length + (rgp (T.take j)).2.length ≤ j := by
        have e : (T.take j).length ≤ j := by rw [List.length_take]; omega
        unfold rgp
        simp only [List.length_nil] at hlen
        omega
      clear hlen
      generalize l[j] = t at *
      have HCe : Hid (∀ wx, Below w.heap.size w wx → wx.cell? ⟨b1, o1 + j, none⟩ = some (.string t)) := fun wx hx => (hx.cell (p := ⟨b1, o1 + j, none⟩) hb1).trans c0
      have d0 := HCe.out _ HB.out
      have HP := hid (rparse_any t wr hts)
      have HJ := hid hj
      clear hc1 c0 hj
      generalize rgp (T.take j) = st at *
      obtain ⟨l1, l2⟩ := st
      simp only at hlen' H1 H2
      obtain ⟨a1, c1, rfl, hs1⟩ := H1.out.sgs
      obtain ⟨a2, c2, rfl, hx2⟩ := H2.out.txs
      have hbs := HB.out.size
      cases hp : prs t.data.toList with
      | none =>
        rw [hp] at HP
        rw [rg1_none hp] at HST
        simp only [prV] at HP
        have hso := sorted_any l2 t.data.toList a2 c2 wr hx2 (by omega)
        rw [ba_of] at hso
        have HSo := hid hso
        clear hso hs1 hx2 hp
        go_wp2_with (first | (go_at_call 13; refine HP.out.mono ?_; rintro e w3 ⟨rfl, rfl⟩) | (go_at_call 28; refine HSo.out.mono ?_; rintro e w4 ⟨⟨v4, rfl, ho4⟩, hb4⟩; have HO4 := hid (And.intro ho4 hb4); clear ho4 hb4))
        go_roundg k'
        case measure => omega
        case rel =>
          obtain ⟨ho4, hb4⟩ := HO4.out
          refine ⟨j + 1, by have := HJ.out; omega, congrArg (Value.int .i64) (by omega), ?_, ?_, HB.out.trans (hb4.mono hbs)⟩
          · rw [HST.out]; exact H1.out.below hb4 (Nat.le_refl _)
          · rw [HST.out]; exact row_le9 ho4 hbs
      | some q =>
        obtain ⟨b, k⟩ := q
        obtain ⟨hb, hk, htn⟩ := prs_some hp
        clear htn
        rw [hp] at HP
        rw [rg1_some hp] at HST
        simp only [prV] at HP
        have HWi := hid (with_any l1 b k hb hk a1 c1 wr hs1 (by omega))
        clear hs1 hx2 hp hb hk
        go_wp2_with (first | (go_at_call 13; refine HP.out.mono ?_; rintro e w3 ⟨rfl, rfl⟩) | (go_at_call 27; refine HWi.out.mono ?_; rintro e w4 ⟨⟨v4, rfl, ho4⟩, hb4⟩; have HO4 := hid (And.intro ho4 hb4); clear ho4 hb4))
        go_roundg k'
        case measure => omega
        case rel =>
          obtain ⟨ho4, hb4⟩ := HO4.out
          refine ⟨j + 1, by have := HJ.out; omega, congrArg (Value.int .i64) (by omega), ?_, ?_, HB.out.trans (hb4.mono hbs)⟩
          · rw [HST.out]; exact row_le9 ho4 hbs
          · rw [HST.out]; exact H2.out.kept fun g _ hg => hb4.block g hg
    · have hltI : ¬ (j : Int) < N := by omega
      have e : T.take j = T := List.take_of_length_le (by rw [HTL.out, ← HN.out]; omega)
      rw [e] at H1 H2
      clear e
      go_wp2_with fail
      go_ret2
      exact ⟨⟨_, _, rfl, H1.out, H2.out⟩, HB.out⟩
end Go.Proofs.YtgffipkbbenddaaDoor
