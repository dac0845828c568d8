/- Texts of the proof, put together: Mst, Msk, Cop, Sfa. -/
import Derived.Test.YthjbhfhdepepmaaPMB
import Derived.Laws.MakeOwn
import Derived.Laws.AppendOwnNone
import Derived.BigQuiet
import Derived.Deep.QuietTactic
namespace Go.Proofs.Ythjbhfhdepepmaa
open Go.RowKit
/-- A fate without writes: its cells. -/
def fcell (x : ByteArray × Int) : List Value := [.string x.1, .int .i64 x.2, .slice none 0 0]
def fcs (l : List (ByteArray × Int)) : List Value := l.flatMap fcell
def f0p : ByteArray × Int := (⟨#[]⟩, 0)
theorem fcs_len (l : List (ByteArray × Int)) : (fcs l).length = l.length * 3 := by
  induction l with
  | nil => rfl
  | cons r rs ih => simp only [fcs, List.flatMap_cons, List.length_append] at *; rw [ih]; simp [fcell]; omega
theorem fcs_app (a b : List (ByteArray × Int)) : fcs (a ++ b) = fcs a ++ fcs b := by simp [fcs]
theorem fcs_cons (e : ByteArray × Int) (r : List (ByteArray × Int)) : fcs (e :: r) = .string e.1 :: .int .i64 e.2 :: .slice none 0 0 :: fcs r := rfl
theorem fcs_at {l : List (ByteArray × Int)} {j k : Nat} (hj : j < l.length) (hk : k < 3) : (fcs l)[j * 3 + k]? = (fcell (l.getD j f0p))[k]? := by
  have e : l = l.take j ++ l.getD j f0p :: l.drop (j + 1) := by
    rw [List.getD_eq_getElem?_getD, List.getElem?_eq_getElem hj]
    simp
  have hl : (fcs (l.take j)).length = j * 3 := by rw [fcs_len, List.length_take]; congr 1; omega
  have e2 : fcs l = fcs (l.take j) ++ (fcell (l.getD j f0p) ++ fcs (l.drop (j + 1))) := by
    conv => lhs; rw [e, fcs_app]
    rfl
  rw [e2, List.getElem?_append_right (by omega), hl, show j * 3 + k - j * 3 = k from by omega, List.getElem?_append_left (by show k < 3; exact hk)]
theorem fcs_set (A : List (ByteArray × Int)) (e x : ByteArray × Int) (R : List (ByteArray × Int)) : (((fcs (A ++ e :: R)).set (A.length * 3) (.string x.1)).set (A.length * 3 + 1) (.int .i64 x.2)).set (A.length * 3 + 2) (.slice none 0 0) = fcs (A ++ x :: R) := by
  rw [fcs_app, fcs_app, List.set_append_right _ _ (by rw [fcs_len]; omega), fcs_len, Nat.sub_self, List.set_append_right _ _ (by rw [fcs_len]; omega), fcs_len, Nat.add_sub_cancel_left, List.set_append_right _ _ (by rw [fcs_len]; omega), fcs_len, Nat.add_sub_cancel_left, fcs_cons, fcs_cons]
  rfl
theorem own_set3 {w : World} {B : Nat} {e : TypeId} {size g n cap : Nat} {xs : List Value} (h : w.ownsRow B e size (.slice (some ⟨g, 0, none⟩) n cap) n xs) (i : Nat) (u : Value) : (w.setCell ⟨g, i, none⟩ u).ownsRow B e size (.slice (some ⟨g, 0, none⟩) n cap) n (xs.set i u) := by
  refine ⟨by rw [List.length_set]; exact h.1, ?_⟩
  rcases h.2 with ⟨h1, _⟩ | ⟨g', cap', cur, hv, h3, h4, h5, h6, h7, h8⟩
  · cases h1
  · simp only [Value.slice.injEq, Option.some.injEq, Addr.mk.injEq, and_true, true_and] at hv
    obtain ⟨rfl, rfl⟩ := hv
    refine Or.inr ⟨g, cap, cur.setIfInBounds i u, rfl, h3, heap_set h4, h5, h6, by rw [Array.size_setIfInBounds]; exact h7, ?_⟩
    rw [Array.toList_setIfInBounds, List.take_set, h8]
theorem made_fcs (n : Nat) : (madeCells #[.string ⟨#[]⟩, .int .i64 0, .slice none 0 0] (n * 3)).toList = fcs (List.replicate n f0p) := by
  apply List.ext_getElem?
  intro i
  by_cases h : i < n * 3
  · have hm : i = i / 3 * 3 + i % 3 := by omega
    have hr : (List.replicate n f0p).getD (i / 3) f0p = f0p := by
      rw [List.getD_eq_getElem?_getD, List.getElem?_replicate]
      split <;> rfl
    have h1 : (fcs (List.replicate n f0p))[i]? = (fcell f0p)[i % 3]? := by
      conv => lhs; rw [hm]
      rw [fcs_at (by rw [List.length_replicate]; omega) (by omega), hr]
    rw [h1]
    unfold madeCells
    rw [Array.getElem?_toList, Array.getElem?_map, Array.getElem?_range, if_pos h]
    rcases (by omega : i % 3 = 0 ∨ i % 3 = 1 ∨ i % 3 = 2) with e | e | e
    · simp [e, fcell, f0p]
    · simp [e, fcell, f0p]
    · simp [e, fcell, f0p]
  · rw [List.getElem?_eq_none (by rw [Array.length_toList, size_madeCells]; omega), List.getElem?_eq_none (by rw [fcs_len, List.length_replicate]; omega)]
theorem Try.infoFt : (Try.prog.info? 24).map (fun i => (i.zero, i.size, i.bytes)) = some (some (.agg #[.string ⟨#[]⟩, .int .i64 0, .slice none 0 0]), 3, 48) := by kernel_rfl
theorem mkfts (N : Nat) (hN : N ≤ 1099511627776) (w : World) : (Instr.makeSlice 37 (.int .i64 N) (.int .i64 N)).run Try.prog w = .ok (.slice (some ⟨w.heap.size, 0, none⟩) N N) (w.alloc (.cells (madeCells #[.string ⟨#[]⟩, .int .i64 0, .slice none 0 0] (N * 3)) 24)) := by
  obtain ⟨i0, hi, hz0, hz1, hz2⟩ := info_parts Try.infoFt
  have h := run_make (P := Try.prog) w 37 24 i0 (.agg #[.string ⟨#[]⟩, .int .i64 0, .slice none 0 0]) Try.underlying37 hi hz0 .i64 .i64 N N (by omega) (by omega) (by rw [hz2]; omega) (by omega)
  rw [hz1, show (Value.agg #[.string ⟨#[]⟩, .int .i64 0, .slice none 0 0]).cells = #[.string ⟨#[]⟩, .int .i64 0, .slice none 0 0] from rfl] at h
  simpa using h
theorem made_fts (N : Nat) (hN : N ≤ 1099511627776) (w : World) : (w.alloc (.cells (madeCells #[.string ⟨#[]⟩, .int .i64 0, .slice none 0 0] (N * 3)) 24)).ownsRow w.heap.size 24 3 (.slice (some ⟨w.heap.size, 0, none⟩) N N) N (fcs (List.replicate N f0p)) := by
  refine ⟨by rw [fcs_len, List.length_replicate], Or.inr ⟨w.heap.size, N, _, rfl, Nat.le_refl _, heap_new _ _, Nat.le_refl _, by unfold maxLen; omega, size_madeCells _ _, ?_⟩⟩
  rw [made_fcs]
  exact List.take_of_length_le (by rw [fcs_len, List.length_replicate]; omega)
/-- What Most answers of a disk that is seen as V. -/
def mst (V : Vw) : List (ByteArray × Int) := V.map (fun x => (x.1, (x.2.1.length : Int)))
end Go.Proofs.Ythjbhfhdepepmaa
namespace Go.Proofs.Ythjbhfhdepepmaa
open Go.RowKit
theorem lsd_form {w : World} {B n : Nat} {v : Value} {l : List Value} (h : w.ownsRow B 9 1 v n l) : ∃ a c, v = .slice a n c := by
  rcases h.2 with ⟨h1, h2⟩ | ⟨g, cap, cur, h1, _⟩
  · exact ⟨none, 0, by rw [h1, h2]⟩
  · exact ⟨_, _, h1⟩
theorem vl_at8 {V : Vw} (hp : V.Pairwise (fun a b => Bf a.1 b.1)) {x : ByteArray × List UInt8 × Nat} (hx : x ∈ V) : vl x.1 V = some x.2 := by
  unfold vl
  obtain ⟨l, r, rfl⟩ := List.append_of_mem hx
  have : (l ++ x :: r).find? (fun y => decide (y.1 = x.1)) = some x := by
    refine List.find?_eq_some_iff_append.2 ⟨by simp, l, r, rfl, fun y hy => ?_⟩
    have h1 := (List.pairwise_append.1 hp).2.2 y hy x (by simp)
    have : y.1 ≠ x.1 := fun e => by unfold Bf at h1; rw [e, bb_irr] at h1; cases h1
    simp [this]
  rw [this]
  rfl
theorem mst_at {V : Vw} {j : Nat} (hj : j < V.length) : (mst V).take (j + 1) = (mst V).take j ++ [(((V.map (·.1)).getD j ⟨#[]⟩), ((V.getD j (⟨#[]⟩, [], 0)).2.1.length : Int))] := by
  have e : (mst V)[j]? = some ((((V.map (·.1)).getD j ⟨#[]⟩), ((V.getD j (⟨#[]⟩, [], 0)).2.1.length : Int))) := by
    unfold mst
    rw [List.getElem?_map, List.getElem?_eq_getElem hj]
    simp [List.getD_eq_getElem?_getD, List.getElem?_eq_getElem hj]
  rw [List.take_add_one, e]
  rfl
set_option maxRecDepth 20000 in
set_option maxHeartbeats 4000000 in
theorem keeping_size (d : Nat) (ft : Nat → Prop) (rm : Nat) (cl cb : Int) (V : Vw) (w : World) (h : Ds w d ft rm cl cb V) (hs : SV rm V) :
    Calls Try.prog 54 #[.pointer (some ⟨d, 0, none⟩), .func (.func 36) #[.pointer (some ⟨d, 0, none⟩)] #[]] w fun e w' => ∃ g N, e = .returned (.slice (some ⟨g, 0, none⟩) N N) ∧ N = V.length ∧ w.heap.size ≤ g ∧ w'.ownsRow w.heap.size 24 3 (.slice (some ⟨g, 0, none⟩) N N) N (fcs (mst V)) ∧ Below w.heap.size w w' := by
  have HD : Hid (∀ wx, Below w.heap.size w wx → Ds wx d ft rm cl cb V) := fun wx hb => h.kept hb
  have hc := hs.cnt
  have HLi := hid (s_listV d ft rm cl cb V w h hc)
  have HSz : Hid (∀ wx nm, nm.size ≤ maxLen → Below w.heap.size w wx → Calls Try.prog 36 #[.pointer (some ⟨d, 0, none⟩), .string nm] wx fun e w' => e = .returned (.tuple #[.int .i64 (szN (vl nm V)), .int .i64 (noE (vl nm V))]) ∧ ∃ k, w' = wx.drewN k) := fun wx nm hn hb => s_size d ft rm cl cb V nm wx (HD.out wx hb) hn
  have HS := hid hs
  have hmk : ∀ (n : Nat) w, n ≤ 65536 → _ := fun n w hn => mkfts n (by omega) w
  obtain ⟨N, hN⟩ : ∃ N, N = V.length := ⟨_, rfl⟩
  have HN := hid hN
  rw [← hN] at hc
  have hmk2 := fun w => mkfts N (by omega) w
  clear h hs hN hmk
  go_enter Try.func54, Try.ntmps54
  go_wp2_with (go_at_call 39; refine HLi.out.mono ?_; rintro e w1 ⟨v1, rfl, hl1, hb1⟩; obtain ⟨a1, c1, rfl⟩ : ∃ a c, v1 = .slice a N c := (by have h1 := hl1.1; rw [List.length_map, ← HN.out] at h1; exact lsd_form h1); have HL1 := hid hl1.1; have HB1 := hid hb1; clear hl1 hb1)
  have HMO := hid (made_fts N (by omega) w1)
  have HCH0 : Hid (Ch (fun i => i = w1.heap.size) w1 (w1.alloc (.cells (madeCells #[.string ⟨#[]⟩, .int .i64 0, .slice none 0 0] (N * 3)) 24))) := (Ch.refl _ _).alloc _
  have HG : Hid (w.heap.size ≤ w1.heap.size) := HB1.out.size
  generalize w1.alloc (.cells (madeCells #[.string ⟨#[]⟩, .int .i64 0, .slice none 0 0] (N * 3)) 24) = w2 at *
  obtain ⟨g, hg⟩ : ∃ g, g = w1.heap.size := ⟨_, rfl⟩
  rw [← hg] at HMO HCH0 HG ⊢
  have HGe := hid hg
  clear hmk2 hg
  go_loopg [18] N (fun k i wr => ∃ j : Nat, j + k = N ∧ i = .int .i64 j ∧ Hid (wr.ownsRow g 24 3 (.slice (some ⟨g, 0, none⟩) N N) N (fcs ((mst V).take j ++ List.replicate (N - j) f0p))) ∧ Hid (Ch (fun i => i = g) w1 wr))
  case atStart => exact ⟨0, by omega, rfl, by show World.ownsRow _ _ _ _ _ _ _; simpa using HMO.out, HCH0.out⟩
  case round =>
    clear HMO HCH0
    obtain ⟨j, hj, rfl, HO, HC⟩ := hrel
    by_cases hlt : j < N
    · obtain ⟨k', rfl⟩ : ∃ k', gk = k' + 1 := ⟨gk - 1, by omega⟩
      have hltI : (j : Int) < N := by omega
      have hjV : j < V.length := by rw [← HN.out]; exact hlt
      have HT := hid (mst_at hjV)
      have hx : V.getD j (⟨#[]⟩, [], 0) ∈ V := by rw [List.getD_eq_getElem?_getD, List.getElem?_eq_getElem hjV]; exact List.getElem_mem _
      have hnm : (V.map (·.1)).getD j ⟨#[]⟩ = (V.getD j (⟨#[]⟩, [], 0)).1 := by simp [List.getD_eq_getElem?_getD, List.getElem?_eq_getElem hjV]
      have hsz := (HS.out.lng _ hx).1
      have hvl := vl_at8 HS.out.srt hx
      have hnc : ∃ gn, a1 = some ⟨gn, 0, none⟩ ∧ gn < w1.heap.size ∧ w1.cell? ⟨gn, j, none⟩ = some (.string (V.getD j (⟨#[]⟩, [], 0)).1) := by
        have h1 := HL1.out
        rw [List.length_map, ← HN.out] at h1
        obtain ⟨gn, h2, h3⟩ := nm_cell h1 (j := j) (u := .string (V.getD j (⟨#[]⟩, [], 0)).1) (by rw [List.map_map, List.getElem?_map, List.getElem?_eq_getElem hjV, List.getD_eq_getElem?_getD, List.getElem?_eq_getElem hjV]; rfl)
        exact ⟨gn, h2, World.block_lt_of_cell? _ _ h3, h3⟩
      rw [hnm] at HT
      generalize V.getD j (⟨#[]⟩, [], 0) = x at *
      obtain ⟨nm, da, sy⟩ := x
      simp only at hsz hvl hnc HT
      obtain ⟨gn, rfl, hgn, q0'⟩ := hnc
      have hBl : Below w.heap.size w wr := HB1.out.trans (HC.out.below HB1.out.size (fun i hi e => by have := HG.out; omega))
      have q0 : wr.cell? ⟨gn, j, none⟩ = some (.string nm) := by
        have h1 := HC.out.block gn hgn (by have := HGe.out; omega)
        rw [← q0']
        simp [World.cell?, h1]
      have HSz1 := hid (HSz.out wr nm (by unfold maxLen; omega) hBl)
      rw [hvl] at HSz1
      simp only [szN] at HSz1
      have hfl : (mst V).take j ++ List.replicate (N - j) f0p = (mst V).take j ++ f0p :: List.replicate (N - (j + 1)) f0p := by rw [show N - j = N - (j + 1) + 1 from by omega, List.replicate_succ]
      have htl : ((mst V).take j).length = j := by rw [List.length_take]; unfold mst; rw [List.length_map]; omega
      rw [hfl] at HO
      have HST : Hid (((((fcs ((mst V).take j ++ f0p :: List.replicate (N - (j + 1)) f0p)).set (j * 3) (.string nm)).set (j * 3 + 1) (.int .i64 da.length)).set (j * 3 + 2) (.slice none 0 0)) = fcs ((mst V).take (j + 1) ++ List.replicate (N - (j + 1)) f0p)) := by
        have := fcs_set ((mst V).take j) f0p (nm, (da.length : Int)) (List.replicate (N - (j + 1)) f0p)
        rw [htl] at this
        show _ = _
        rw [this, HT.out, List.append_assoc]
        rfl
      have hcl : ∀ k, k < 3 → wr.cell? ⟨g, j * 3 + k, none⟩ = (fcell f0p)[k]? := fun k hk => by
        have h2 := (HO.out.cellAt (j * 3 + k) (by omega)).trans (fcs_at (l := (mst V).take j ++ f0p :: List.replicate (N - (j + 1)) f0p) (j := j) (by rw [List.length_append, htl]; simp) hk)
        rw [h2, List.getD_eq_getElem?_getD, List.getElem?_append_right (by omega), htl]
        simp
      have y0 : wr.cell? ⟨g, j * 3, none⟩ = some (.string ⟨#[]⟩) := hcl 0 (by omega)
      have y1 : wr.cell? ⟨g, j * 3 + 1, none⟩ = some (.int .i64 0) := hcl 1 (by omega)
      have y2 : wr.cell? ⟨g, j * 3 + 2, none⟩ = some (.slice none 0 0) := hcl 2 (by omega)
      have z0 : wr.frozen? ⟨g, j * 3, none⟩ = false := HO.out.frozenAt _
      have z1 : wr.frozen? ⟨g, j * 3 + 1, none⟩ = false := HO.out.frozenAt _
      have z2 : wr.frozen? ⟨g, j * 3 + 2, none⟩ = false := HO.out.frozenAt _
      have HJ := hid hj
      clear hfl htl hcl hx hnm hsz hvl hjV hj q0' hgn hBl
      go_wp2_with (go_at_call 36; refine HSz1.out.mono ?_; rintro e w4 ⟨rfl, k4, rfl⟩)
      go_roundg k'
      case measure => omega
      case rel =>
        refine ⟨j + 1, by have := HJ.out; omega, congrArg (Value.int .i64) (by omega), ?_, (((HC.out.drewN k4).setCell _ _ (fun _ => rfl)).setCell _ _ (fun _ => rfl)).setCell _ _ (fun _ => rfl)⟩
        rw [← HST.out]
        have h0 : (wr.drewN k4).ownsRow g 24 3 (.slice (some ⟨g, 0, none⟩) N N) N (fcs ((mst V).take j ++ f0p :: List.replicate (N - (j + 1)) f0p)) := HO.out
        exact own_set3 (own_set3 (own_set3 h0 _ _) _ _) _ _
    · have hltI : ¬ (j : Int) < N := by omega
      have HE : Hid ((mst V).take j ++ List.replicate (N - j) f0p = mst V) := by
        show _ = _
        rw [show N - j = 0 from by omega, List.replicate_zero, List.append_nil]
        exact List.take_of_length_le (by unfold mst; rw [List.length_map, ← HN.out]; omega)
      rw [HE.out] at HO
      have HBl : Hid (Below w.heap.size w wr) := HB1.out.trans (HC.out.below HB1.out.size (fun i hi e => by have := HG.out; omega))
      go_wp2_with fail
      go_ret
      refine ⟨g, N, rfl, HN.out, HG.out, ?_, HBl.out⟩
      refine ⟨HO.out.1, HO.out.2.imp_right fun ⟨g', cap, cur, h1, h2, h3⟩ => ⟨g', cap, cur, h1, Nat.le_trans HG.out h2, h3⟩⟩
theorem most_any (d : Nat) (ft : Nat → Prop) (rm : Nat) (cl cb : Int) (V : Vw) (w : World) (h : Ds w d ft rm cl cb V) (hs : SV rm V) :
    Calls Try.prog 21 #[.pointer (some ⟨d, 0, none⟩)] w fun e w' => ∃ g N, e = .returned (.slice (some ⟨g, 0, none⟩) N N) ∧ N = V.length ∧ w.heap.size ≤ g ∧ w'.ownsRow w.heap.size 24 3 (.slice (some ⟨g, 0, none⟩) N N) N (fcs (mst V)) ∧ Below w.heap.size w w' := by
  have HK := hid (keeping_size d ft rm cl cb V w h hs)
  clear h hs
  go_enter Try.func21, Try.ntmps21
  go_wp2_with (go_at_call 54; refine HK.out.mono ?_; rintro e w2 ⟨g, N, rfl, h1, h2, h3, h4⟩; have H1 := hid h1; clear h1)
  go_ret
  exact ⟨g, N, rfl, H1.out, h2, h3, h4⟩
end Go.Proofs.Ythjbhfhdepepmaa
namespace Go.Proofs.Ythjbhfhdepepmaa
open Go.RowKit
/-- A fate whose writes are an empty list somewhere. -/
def gcell (x : (ByteArray × Int) × Value) : List Value := [.string x.1.1, .int .i64 x.1.2, x.2]
def EmO (L : List ((ByteArray × Int) × Value)) : Prop := ∀ x ∈ L, ∃ a c, x.2 = .slice a 0 c
def gcs (l : List ((ByteArray × Int) × Value)) : List Value := l.flatMap gcell
theorem gcs_len (l : List ((ByteArray × Int) × Value)) : (gcs l).length = l.length * 3 := by
  induction l with
  | nil => rfl
  | cons r rs ih => simp only [gcs, List.flatMap_cons, List.length_append] at *; rw [ih]; simp [gcell]; omega
theorem gcs_snoc (a : List ((ByteArray × Int) × Value)) (e : (ByteArray × Int) × Value) : gcs (a ++ [e]) = gcs a ++ gcell e := by simp [gcs]
theorem mkcap (N : Nat) (hN : N ≤ 65537) (w : World) : (Instr.makeSlice 37 (.int .i64 0) (.int .i64 N)).run Try.prog w = .ok (.slice (some ⟨w.heap.size, 0, none⟩) 0 N) (w.alloc (.cells (madeCells #[.string ⟨#[]⟩, .int .i64 0, .slice none 0 0] (N * 3)) 24)) := by
  obtain ⟨i0, hi, hz0, hz1, hz2⟩ := info_parts Try.infoFt
  have h := run_make (P := Try.prog) w 37 24 i0 (.agg #[.string ⟨#[]⟩, .int .i64 0, .slice none 0 0]) Try.underlying37 hi hz0 .i64 .i64 0 N (by omega) (by omega) (by rw [hz2]; omega) (by omega)
  rw [hz1, show (Value.agg #[.string ⟨#[]⟩, .int .i64 0, .slice none 0 0]).cells = #[.string ⟨#[]⟩, .int .i64 0, .slice none 0 0] from rfl] at h
  simpa using h
theorem made_cap (N : Nat) (hN : N ≤ 65537) (w : World) : (w.alloc (.cells (madeCells #[.string ⟨#[]⟩, .int .i64 0, .slice none 0 0] (N * 3)) 24)).ownsRow w.heap.size 24 3 (.slice (some ⟨w.heap.size, 0, none⟩) 0 N) 0 (gcs []) := by
  refine ⟨rfl, Or.inr ⟨w.heap.size, N, _, rfl, Nat.le_refl _, heap_new _ _, Nat.zero_le _, by unfold maxLen; omega, size_madeCells _ _, ?_⟩⟩
  simp [gcs]
theorem Try.infoWr : (Try.prog.info? 69).map (fun i => (i.zero, i.size, i.bytes)) = some (some (.agg #[.int .i64 0, .string ⟨#[]⟩]), 2, 24) := by kernel_rfl
theorem gcell_one (x : (ByteArray × Int) × Value) (h : ∃ a c, x.2 = .slice a 0 c) : ∀ u ∈ gcell x, u.oneCell' = true := by
  intro u hu
  obtain ⟨a, c, h⟩ := h
  simp only [gcell, h, List.mem_cons, List.not_mem_nil, or_false] at hu
  rcases hu with rfl | rfl | rfl <;> rfl
set_option maxRecDepth 20000 in
set_option maxHeartbeats 4000000 in
theorem copied_mst (l : List (ByteArray × Int)) (g N : Nat) (B : Nat) (w : World) (h : w.ownsRow B 24 3 (.slice (some ⟨g, 0, none⟩) N N) N (fcs l)) (hN : N = l.length) (hl : N ≤ 65536) :
    Calls Try.prog 15 #[.slice (some ⟨g, 0, none⟩) N N] w fun e w' => ∃ v, e = .returned v ∧ ∃ L, L.map (·.1) = l ∧ EmO L ∧ w'.ownsRow w.heap.size 24 3 v N (gcs L) ∧ Below w.heap.size w w' := by
  have HO := hid h
  have HN := hid hN
  have hmk := fun w => mkcap (N + 1) (by omega) w
  have eN : ((N + 1 : Nat) : Int) = (N : Int) + 1 := by omega
  rw [eN] at hmk
  clear h hN eN
  go_enter Try.func15, Try.ntmps15
  go_wp2_with fail
  have HM0 := hid (made_cap (N + 1) (by omega) w)
  have HB0 : Hid (Below w.heap.size w (w.alloc (.cells (madeCells #[.string ⟨#[]⟩, .int .i64 0, .slice none 0 0] ((N + 1) * 3)) 24))) := (Below.refl _ _).alloc (Nat.le_refl _) _
  generalize w.alloc (.cells (madeCells #[.string ⟨#[]⟩, .int .i64 0, .slice none 0 0] ((N + 1) * 3)) 24) = w1 at *
  clear hmk
  obtain ⟨i0, hi, hz0, hz1, hz2⟩ := info_parts Try.infoFt
  obtain ⟨j0, kj, kz0, kz1, kz2⟩ := info_parts Try.infoWr
  go_loopg [3, 12] N (fun k vo vi wr => ∃ (j : Nat) (L : List ((ByteArray × Int) × Value)), j + k = N ∧ vi = .int .i64 j ∧ Hid (L.map (·.1) = l.take j) ∧ Hid (EmO L) ∧ Hid (wr.ownsRow w.heap.size 24 3 vo j (gcs L)) ∧ Hid (Below w.heap.size w wr))
  case atStart => exact ⟨0, [], by omega, rfl, rfl, (fun _ h => by cases h), HM0.out, HB0.out⟩
  case round =>
    clear HM0 HB0
    obtain ⟨j, L, hj, rfl, HL, HS, HW, HB⟩ := hrel
    by_cases hlt : j < N
    · obtain ⟨k', rfl⟩ : ∃ k', gk = k' + 1 := ⟨gk - 1, by omega⟩
      have hltI : (j : Int) < N := by omega
      have hjl : j < l.length := by rw [← HN.out]; exact hlt
      have hgl : g < w.heap.size := (HO.out.lt g rfl).2
      have hcl : ∀ k, k < 3 → wr.cell? ⟨g, j * 3 + k, none⟩ = (fcell (l.getD j f0p))[k]? := fun k hk => by
        have h2 := (HO.out.cellAt (j * 3 + k) (by omega)).trans (fcs_at (l := l) (j := j) hjl hk)
        rw [← h2]
        exact HB.out.cell (p := ⟨g, j * 3 + k, none⟩) hgl
      have q0 := hcl 0 (by omega)
      have q1 := hcl 1 (by omega)
      have q2 := hcl 2 (by omega)
      have HTk : Hid (l.take (j + 1) = l.take j ++ [l.getD j f0p]) := by
        show _ = _
        rw [List.take_succ_eq_append_getElem hjl, List.getD_eq_getElem?_getD, List.getElem?_eq_getElem hjl]
        rfl
      generalize l.getD j f0p = x at *
      obtain ⟨nm, kp⟩ := x
      simp only [fcell] at q0 q1 q2
      have q0' : wr.cell? ⟨g, j * 3, none⟩ = some (.string nm) := q0
      have q1' : wr.cell? ⟨g, j * 3 + 1, none⟩ = some (.int .i64 kp) := q1
      have q2' : wr.cell? ⟨g, j * 3 + 2, none⟩ = some (.slice none 0 0) := q2
      have HJ := hid hj
      clear hcl q0 q1 q2 hjl hj
      obtain ⟨wc, hwc⟩ : ∃ wc, wc = (((wr.alloc (.cells #[.string nm, .int .i64 kp, .slice (some ⟨wr.heap.size + 1, 0, none⟩) 0 0] 24)).alloc (.cells #[] 69)).alloc (.cells #[.string nm, .int .i64 kp, .slice (some ⟨wr.heap.size + 1, 0, none⟩) 0 0] 24)) := ⟨_, rfl⟩
      have HBc : Hid (Below wr.heap.size wr wc) := by rw [hwc]; exact (((Below.refl _ _).alloc (Nat.le_refl _) _).alloc (by simp) _).alloc (by simp; omega) _
      have HNb : Hid (wc.heap[wr.heap.size + 1 + 1]? = some (.cells #[.string nm, .int .i64 kp, .slice (some ⟨wr.heap.size + 1, 0, none⟩) 0 0] 24 (0, 0))) := by
        have := heap_new ((wr.alloc (.cells #[.string nm, .int .i64 kp, .slice (some ⟨wr.heap.size + 1, 0, none⟩) 0 0] 24)).alloc (.cells #[] 69)) (.cells #[.string nm, .int .i64 kp, .slice (some ⟨wr.heap.size + 1, 0, none⟩) 0 0] 24 (0, 0))
        rw [← hwc] at this
        refine hid ?_
        simpa using this
      have HOc : Hid (wc.ownsRow w.heap.size 24 3 u3 j (gcs L)) := by
        have h1 := HW.out
        refine ⟨h1.1, ?_⟩
        rcases h1.2 with h2 | ⟨g', cap, cur, h2, h3, h4, h5⟩
        · exact Or.inl h2
        · exact Or.inr ⟨g', cap, cur, h2, h3, (HBc.out.block g' (lt_of_heap h4)).trans h4, h5⟩
      have HLt : Hid (∀ k, u3.ownBlock = some k → w.heap.size ≤ k) := fun k hk => (HW.out.lt k hk).1
      have HOV : Hid (∃ a c, ((nm, kp), Value.slice (some ⟨wr.heap.size + 1, 0, none⟩) 0 0).2 = .slice a 0 c) := ⟨_, _, rfl⟩
      go_wp2_with (at_builtin; refine wpList_append_lies _ rfl _ _ 37 rfl w.heap.size 24 i0 (.agg #[.string ⟨#[]⟩, .int .i64 0, .slice none 0 0]) 3 48 Try.underlying37 hi hz0 hz1 hz2 rfl (by decide) _ j (gcs L) rfl ?c0 ⟨wr.heap.size + 1 + 1, 0, none⟩ 1 1 (gcell ((nm, kp), .slice (some ⟨wr.heap.size + 1, 0, none⟩) 0 0)) rfl rfl ?c1 ?c2 ?c3 ?c4 ?c5 ?c6 _ rfl ?_)
      case c0 => rw [← hwc]; exact HOc.out
      case c1 => exact fun j u h => h
      case c2 => exact gcell_one _ HOV.out
      case c4 => unfold maxLen; omega
      case c5 => omega
      case c6 => have := HB.out.size; omega
      intro g5 cap5 w5 hown5 hgrow5 hat5 hlt5
      rw [← hwc] at hgrow5
      have HB5 : Hid (Below w.heap.size w w5) := (HB.out.trans (HBc.out.mono HB.out.size)).grown hgrow5 (Nat.le_trans HB.out.size HBc.out.size) (fun k hk => HLt.out k hk)
      have HO5 := hid hown5
      have HL5 : Hid ((L ++ [((nm, kp), Value.slice (some ⟨wr.heap.size + 1, 0, none⟩) 0 0)]).map (·.1) = l.take (j + 1)) := by show _ = _; rw [List.map_append, HL.out, HTk.out]; rfl
      have HS5 : Hid (EmO (L ++ [((nm, kp), Value.slice (some ⟨wr.heap.size + 1, 0, none⟩) 0 0)])) := fun x hx => by
        rcases List.mem_append.1 hx with h | h
        · exact HS.out x h
        · rw [List.mem_singleton] at h; subst h; exact ⟨_, _, rfl⟩
      rw [← gcs_snoc] at HO5
      generalize L ++ [((nm, kp), Value.slice (some ⟨wr.heap.size + 1, 0, none⟩) 0 0)] = L5 at *
      clear hown5 hgrow5 hat5 hlt5 hwc
      go_wp2_with fail
      go_roundg k'
      case measure => omega
      case rel => exact ⟨j + 1, L5, by have := HJ.out; omega, congrArg (Value.int .i64) (by omega), HL5.out, HS5.out, HO5.out, HB5.out⟩
    · have hltI : ¬ (j : Int) < N := by omega
      have hjN : j = N := by omega
      have e : l.take j = l := List.take_of_length_le (by rw [← HN.out]; omega)
      rw [e] at HL
      subst hjN
      clear e
      go_wp2_with fail
      go_ret
      exact ⟨_, rfl, L, HL.out, HS.out, HW.out, HB.out⟩
end Go.Proofs.Ythjbhfhdepepmaa
namespace Go.Proofs.Ythjbhfhdepepmaa
open Go.RowKit
def g0p : (ByteArray × Int) × Value := (f0p, .slice none 0 0)
theorem gcs_app (a b : List ((ByteArray × Int) × Value)) : gcs (a ++ b) = gcs a ++ gcs b := by simp [gcs]
theorem gcs_at {l : List ((ByteArray × Int) × Value)} {j k : Nat} (hj : j < l.length) (hk : k < 3) : (gcs l)[j * 3 + k]? = (gcell (l.getD j g0p))[k]? := by
  have e : l = l.take j ++ l.getD j g0p :: l.drop (j + 1) := by
    rw [List.getD_eq_getElem?_getD, List.getElem?_eq_getElem hj]
    simp
  have hl : (gcs (l.take j)).length = j * 3 := by rw [gcs_len, List.length_take]; congr 1; omega
  have e2 : gcs l = gcs (l.take j) ++ (gcell (l.getD j g0p) ++ gcs (l.drop (j + 1))) := by
    conv => lhs; rw [e, gcs_app]
    rfl
  rw [e2, List.getElem?_append_right (by omega), hl, show j * 3 + k - j * 3 = k from by omega, List.getElem?_append_left (by show k < 3; exact hk)]
/-- What both rows hold at a place. -/
theorem both_at {w : World} {B B2 g N : Nat} {v : Value} {l : List (ByteArray × Int)} {L : List ((ByteArray × Int) × Value)} (h1 : w.ownsRow B 24 3 (.slice (some ⟨g, 0, none⟩) N N) N (fcs l)) (h2 : w.ownsRow B2 24 3 v N (gcs L)) (hL : L.map (·.1) = l) (hE : EmO L) (hN : N = l.length) {j : Nat} (hj : j < N) : ∃ g2 c2 nm kp a3 c3, v = .slice (some ⟨g2, 0, none⟩) N c2 ∧ w.cell? ⟨g, j * 3, none⟩ = some (.string nm) ∧ w.cell? ⟨g, j * 3 + 1, none⟩ = some (.int .i64 kp) ∧ w.cell? ⟨g, j * 3 + 2, none⟩ = some (.slice none 0 0) ∧ w.cell? ⟨g2, j * 3, none⟩ = some (.string nm) ∧ w.cell? ⟨g2, j * 3 + 1, none⟩ = some (.int .i64 kp) ∧ w.cell? ⟨g2, j * 3 + 2, none⟩ = some (.slice a3 0 c3) := by
  have hjl : j < l.length := by omega
  have hjL : j < L.length := by rw [← hL, List.length_map] at hjl; exact hjl
  rcases h2.2 with ⟨_, h⟩ | ⟨g2, c2, cur, rfl, _⟩
  · omega
  obtain ⟨a3, c3, he⟩ := hE (L.getD j g0p) (by rw [List.getD_eq_getElem?_getD, List.getElem?_eq_getElem hjL]; exact List.getElem_mem _)
  have hx : (L.getD j g0p).1 = l.getD j f0p := by rw [← hL]; simp [List.getD_eq_getElem?_getD, List.getElem?_map, List.getElem?_eq_getElem hjL]
  have a : ∀ k, k < 3 → w.cell? ⟨g, j * 3 + k, none⟩ = (fcell (l.getD j f0p))[k]? := fun k hk => (h1.cellAt (j * 3 + k) (by omega)).trans (fcs_at hjl hk)
  have b : ∀ k, k < 3 → w.cell? ⟨g2, j * 3 + k, none⟩ = (gcell (L.getD j g0p))[k]? := fun k hk => (h2.cellAt (j * 3 + k) (by omega)).trans (gcs_at hjL hk)
  have b0 := b 0 (by omega)
  have b1 := b 1 (by omega)
  have b2 := b 2 (by omega)
  unfold gcell at b0 b1 b2
  rw [hx] at b0 b1
  rw [he] at b2
  exact ⟨g2, c2, _, _, a3, c3, rfl, a 0 (by omega), a 1 (by omega), a 2 (by omega), b0, b1, b2⟩
theorem row_form8 {w : World} {B n : Nat} {v : Value} {T : TypeId} {sz : Nat} {l : List Value} (h : w.ownsRow B T sz v n l) : ∃ a c, v = .slice a n c := by
  rcases h.2 with ⟨h1, h2⟩ | ⟨g, cap, cur, h1, _⟩
  · exact ⟨none, 0, by rw [h1, h2]⟩
  · exact ⟨_, _, h1⟩
set_option maxRecDepth 20000 in
set_option maxHeartbeats 4000000 in
theorem samefates_yes (l : List (ByteArray × Int)) (L : List ((ByteArray × Int) × Value)) (g N B B2 : Nat) (v : Value) (w : World) (h1 : w.ownsRow B 24 3 (.slice (some ⟨g, 0, none⟩) N N) N (fcs l)) (h2 : w.ownsRow B2 24 3 v N (gcs L)) (hL : L.map (·.1) = l) (hE : EmO L) (hN : N = l.length) (hl : N ≤ 65536) :
    Calls Try.prog 18 #[.slice (some ⟨g, 0, none⟩) N N, v] w fun e w' => e = .returned (.bool true) ∧ Below w.heap.size w w' := by
  have HA := hid (fun (j : Nat) hj => both_at (j := j) h1 h2 hL hE hN hj)
  obtain ⟨a2, c2, rfl⟩ := row_form8 h2
  clear h1 h2 hL hE hN
  go_enter Try.func18, Try.ntmps18
  go_wp2_with fail
  go_loopg [5] N (fun k vi wr => ∃ j : Nat, j + k = N ∧ vi = .int .i64 j ∧ Hid (Below w.heap.size w wr))
  case atStart => exact ⟨0, by omega, rfl, Below.refl _ _⟩
  case round =>
    obtain ⟨j, hj, rfl, HD⟩ := hrel
    by_cases hlt : j < N
    · obtain ⟨k', rfl⟩ : ∃ k', gk = k' + 1 := ⟨gk - 1, by omega⟩
      have hltI : (j : Int) < N := by omega
      obtain ⟨g2, c2', nm, kp, a3, c3, e2, y0, y1, y2, y3, y4, y5⟩ := HA.out j hlt
      cases e2
      have hg1 := World.block_lt_of_cell? _ _ y0
      have hg2 := World.block_lt_of_cell? _ _ y3
      have z0 := (HD.out.cell (p := ⟨g, j * 3, none⟩) hg1).trans y0
      have z1 := (HD.out.cell (p := ⟨g, j * 3 + 1, none⟩) hg1).trans y1
      have z2 := (HD.out.cell (p := ⟨g, j * 3 + 2, none⟩) hg1).trans y2
      have z3 := (HD.out.cell (p := ⟨g2, j * 3, none⟩) hg2).trans y3
      have z4 := (HD.out.cell (p := ⟨g2, j * 3 + 1, none⟩) hg2).trans y4
      have z5 := (HD.out.cell (p := ⟨g2, j * 3 + 2, none⟩) hg2).trans y5
      have HJ := hid hj
      have hNb : (N : Int) ≤ 65536 := by omega
      clear y0 y1 y2 y3 y4 y5 hj hg1 hg2
      go_wp2_with fail
      go_big_quiet (fail)
      go_wp2_with fail
      have HDq : Hid (Below w.heap.size w (wr.drewN nq)) := HD.out.trans ⟨rfl, rfl, rfl, Nat.le_refl _, fun _ _ => rfl⟩
      have zq : (wr.drewN nq).cell? ⟨g, j * 3 + 2, none⟩ = some (.slice none 0 0) := z2
      generalize wr.drewN nq = wy at *
      clear z0 z1 z2 z3 z4 z5 HD
      go_loopg [6] 0 (fun k vi wx => vi = .int .i64 0 ∧ wy = wx)
      case atStart => exact ⟨rfl, rfl⟩
      case round =>
        obtain ⟨rfl, rfl⟩ := hrel
        go_wp2_with fail
        go_roundg k'
        case measure => omega
        case rel => exact ⟨j + 1, by have := HJ.out; omega, congrArg (Value.int .i64) (by omega), HDq.out⟩
    · have hltI : ¬ (j : Int) < N := by omega
      go_wp2_with fail
      go_ret
      exact ⟨rfl, HD.out⟩
end Go.Proofs.Ythjbhfhdepepmaa
