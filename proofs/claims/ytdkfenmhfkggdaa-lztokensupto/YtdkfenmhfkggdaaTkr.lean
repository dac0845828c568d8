/- Rows of tokens; the program's Tokens. -/
import Derived.Test.YtdkfenmhfkggdaaUnps
import Derived.Test.YtdkfenmhfkggdaaPk3
import Derived.Laws.AppendOwnNone
namespace Go.Proofs.Ytdkfenmhfkggdaa
open Go.RowKit
/-- A token as a text and two numbers. -/
def rt (t : M.Tok) : ByteArray × Int × Int := (ba t.lits, (t.len : Nat), (t.dist : Nat))
def rc (r : ByteArray × Int × Int) : List Value := [.string r.1, .int .i64 r.2.1, .int .i64 r.2.2]
def rcs (rs : List (ByteArray × Int × Int)) : List Value := rs.flatMap rc
theorem rcs_len (rs : List (ByteArray × Int × Int)) : (rcs rs).length = rs.length * 3 := by
  induction rs with
  | nil => rfl
  | cons r rs ih => simp only [rcs, List.flatMap_cons, List.length_append] at *; rw [ih]; simp [rc]; omega
theorem rcs_app (a b : List (ByteArray × Int × Int)) : rcs (a ++ b) = rcs a ++ rcs b := by simp [rcs]
theorem rcs_one (rs : List (ByteArray × Int × Int)) : ∀ u ∈ rcs rs, u.oneCell' = true := by
  intro u hu
  simp only [rcs, List.mem_flatMap] at hu
  obtain ⟨r, _, h⟩ := hu
  simp only [rc, List.mem_cons, List.not_mem_nil, or_false] at h
  rcases h with rfl | rfl | rfl <;> rfl
theorem rcs_at (rs : List (ByteArray × Int × Int)) : ∀ j, j < rs.length → (rcs rs)[j * 3]? = some (.string (rs.getD j (ByteArray.empty, 0, 0)).1) ∧ (rcs rs)[j * 3 + 1]? = some (.int .i64 (rs.getD j (ByteArray.empty, 0, 0)).2.1) ∧ (rcs rs)[j * 3 + 2]? = some (.int .i64 (rs.getD j (ByteArray.empty, 0, 0)).2.2) := by
  induction rs with
  | nil => intro j hj; simp at hj
  | cons r rs ih =>
    intro j hj
    have e : rcs (r :: rs) = rc r ++ rcs rs := rfl
    cases j with
    | zero => rw [e]; exact ⟨rfl, rfl, rfl⟩
    | succ j =>
      have h := ih j (by simpa using hj)
      rw [e]
      have e3 : (rc r).length = 3 := rfl
      refine ⟨?_, ?_, ?_⟩
      · rw [List.getElem?_append_right (by omega), e3, show (j + 1) * 3 - 3 = j * 3 from by omega]; exact h.1
      · rw [List.getElem?_append_right (by omega), e3, show (j + 1) * 3 + 1 - 3 = j * 3 + 1 from by omega]; exact h.2.1
      · rw [List.getElem?_append_right (by omega), e3, show (j + 1) * 3 + 2 - 3 = j * 3 + 2 from by omega]; exact h.2.2
/-- A row of tokens of the call's own, from B on. -/
def OwnT (T : TypeId) (w : World) (B : Nat) (v : Value) (rs : List (ByteArray × Int × Int)) : Prop := w.ownsRow B T 3 v rs.length (rcs rs)
theorem OwnT.slice {T : TypeId} {w : World} {B : Nat} {v : Value} {rs : List (ByteArray × Int × Int)} (h : OwnT T w B v rs) : ∃ a cap, v = .slice a rs.length cap ∧ (a = none → v = .slice none 0 0 ∧ rs.length = 0) ∧ Trip w a rs := by
  have hlt := World.ownsRow.lt h
  have hcell := fun (g : Nat) (hg : v.ownBlock = some g) => World.ownsRow.cells h hg
  obtain ⟨hl, h⟩ := h
  rcases h with ⟨rfl, h1⟩ | ⟨g, cap, cur, rfl, _⟩
  · exact ⟨none, 0, by rw [h1], fun _ => ⟨rfl, h1⟩, Or.inl (List.eq_nil_of_length_eq_zero h1)⟩
  · refine ⟨some ⟨g, 0, none⟩, cap, rfl, fun hh => (by cases hh), Or.inr ⟨g, 0, rfl, (hlt g rfl).2, fun j hj => ?_⟩⟩
    have hr := rcs_at rs j hj
    have e : ∀ i, (⟨g, 0, none⟩ : Addr).add i = ⟨g, 0 + i, none⟩ := fun i => Go.WideShapes.add_plain _ _ _
    refine ⟨?_, ?_, ?_⟩
    · have := hcell g rfl _ _ hr.1; rw [e] at this; exact this
    · have := hcell g rfl _ _ hr.2.1; rw [e] at this; exact this
    · have := hcell g rfl _ _ hr.2.2; rw [e] at this; exact this
theorem ownT_snoc {T : TypeId} {w : World} {B n : Nat} {v : Value} {rs : List (ByteArray × Int × Int)} {r : ByteArray × Int × Int} (h : w.ownsRow B T 3 v (n + 1) (rcs rs ++ rc r)) (hn : rs.length = n) : OwnT T w B v (rs ++ [r]) := by
  unfold OwnT
  rw [List.length_append, hn, rcs_app]
  have : rcs [r] = rc r := by simp [rcs]
  rw [this]
  exact h
theorem Try.infoTok : (Try.prog.info? 47).map (fun i => (i.zero, i.size, i.bytes)) = some (some (.agg #[.string ⟨#[]⟩, .int .i64 0, .int .i64 0]), 3, 32) := by kernel_rfl
theorem Try.underToks : Try.prog.underlying 38 = some (.slice 47) := by kernel_rfl
theorem cells_newN (w : World) (xs : List Value) (t : TypeId) (n : Nat) (h : w.heap.size = n) : ∀ j u, xs[j]? = some u → (w.alloc (.cells xs.toArray t)).cell? ((⟨n, 0, none⟩ : Addr).add j) = some u := by subst h; exact cells_new w xs t
theorem rc_one (r : ByteArray × Int × Int) : ∀ u ∈ rc r, u.oneCell' = true := fun u hu => rcs_one [r] u (by simpa [rcs] using hu)
/-- What Tokens answers. -/
def TokPost (T : TypeId) (B size : Nat) (R : Except (Nat × Nat) (List M.Tok)) (e : Ending) (w' : World) : Prop :=
  match R with
  | .ok ts => ∃ v, e = .returned (.tuple #[v, .int .i64 size, .int .i64 0]) ∧ OwnT T w' B v (ts.map rt)
  | .error qk => e = .returned (.tuple #[.slice none 0 0, .int .i64 (qk.1 : Nat), .int .i64 (qk.2 : Nat)])
set_option maxHeartbeats 4000000 in
set_option maxRecDepth 20000 in
theorem toks_any (p : ByteArray) (w : World) (hs : p.size ≤ 1000000000000) :
    Calls Try.prog 18 #[.string p] w fun e w' => TokPost 47 w.heap.size p.size (M.tks 0 p.data.toList) e w' ∧ Below w.heap.size w w' := by
  obtain ⟨i0, hi, hz0, hz1, hz2⟩ := info_parts Try.infoTok
  obtain ⟨R, hR⟩ : ∃ R, R = M.tks 0 p.data.toList := ⟨_, rfl⟩
  rw [← hR]
  have hpl := len_ p
  have HEX := hid (fun n => ext_drop p n)
  generalize p.data.toList = l at *
  have HL := hid hpl
  have HR : Hid (M.pre [] (M.tks 0 (l.drop 0)) = R) := by show _ = R; rw [M.pre_nil, hR]; rfl
  clear hR hpl
  go_enter Try.func18, Try.ntmps18
  go_wp2_with fail
  go_loopg [5, 6, 7, 8, 9] p.size (fun k o a x1 x2 x3 wr => ∃ (q : Nat) (ts : List M.Tok), q + k = p.size ∧ a = .int .i64 q ∧ Hid (2 * ts.length ≤ q) ∧ Hid (M.pre ts (M.tks q (l.drop q)) = R) ∧ Hid (OwnT 47 wr w.heap.size o (ts.map rt)) ∧ Hid (Below w.heap.size w wr) ∧ Hid (w.heap.size ≤ wr.heap.size))
  case atStart => exact ⟨0, [], by omega, rfl, Nat.zero_le _, HR, World.ownsRow_nil _ _ _ _, Below.refl _ _, Nat.le_refl _⟩
  case round =>
    clear HR
    obtain ⟨q, ts, hk, rfl, HU, HP, HO, HB, HS⟩ := hrel
    have hU := HU.out
    by_cases h0 : q < p.size
    · obtain ⟨S, hS⟩ : ∃ S, S = p.extract q p.size := ⟨_, rfl⟩
      have hSl : S.data.toList = l.drop q := by rw [hS]; exact HEX.out q
      have hSs : S.size = p.size - q := by rw [← len_, hSl, List.length_drop, HL.out]
      have hp := HP.out
      rw [← hSl] at hp
      cases hf : M.fst' S.data.toList with
      | error k =>
        rw [M.tks_err (by rw [len_]; omega) hf] at hp
        have HC : Hid (R = .error (q, k)) := hp.symm
        have cf := fun w => first_err S k w (by omega) hf
        have hkk := fst_bad hf
        have CF := hid cf
        have HSS := hid hS
        clear hp cf hf HP hS hSl hSs
        go_wp2_with fail
        rw [← HSS.out]
        refine (CF.out _).mono ?_
        rintro e w1 ⟨rfl, hb1⟩
        have HB1 := hid (HB.out.trans (hb1.mono HS.out))
        have HS1 := hid (HB1.out.size)
        clear hb1
        go_wp2_with fail
        refine bodyPost_ret (v := .tuple #[.slice none 0 0, .int .i64 q, .int .i64 k]) (by simp [results, Try.results18, go_sem]) rfl ⟨?_, HB1.out.alloc HS1.out _⟩
        rw [HC.out]
        rfl
      | ok tn =>
        obtain ⟨t, n⟩ := tn
        have hok := M.fst_ok (by rw [len_]; omega) hf
        have hn := hok.2.2.1
        have hn2 := hok.2.1
        rw [len_] at hn
        rw [M.tks_ok (by rw [len_]; omega) hf, hSl, List.drop_drop] at hp
        have cf := fun w => first_ok S t n w (by omega) hf
        have HRT : Hid ((ts ++ [t]).map rt = ts.map rt ++ [(ba t.lits, (t.len : Int), (t.dist : Int))]) := by show _ = _; simp [rt]
        have HP2 := hid hp
        have ho := HO.out
        unfold OwnT at ho
        have hml : (ts.map rt).length = ts.length := by simp
        have HML := hid hml
        rw [hml] at ho
        generalize ts.map rt = rs at *
        generalize ba t.lits = TS at *
        generalize t.len = TN at *
        generalize t.dist = TD at *
        have CF := hid cf
        have HSS := hid hS
        have hnq : q + n ≤ p.size := by omega
        clear hp cf hf HP hS hSl hSs hok HO hml
        go_wp2_with fail
        rw [← HSS.out]
        refine (CF.out _).mono ?_
        rintro e w1 ⟨rfl, hb1⟩
        have HB1 := hid (HB.out.trans (hb1.mono HS.out))
        have HS1 := hid (HB1.out.size)
        have hsz1 := HS1.out
        have ho1 : w1.ownsRow w.heap.size 47 3 u5 ts.length (rcs rs) := own_apart ho (fun g hg => hb1.block g (World.ownsRow.lt ho g hg).2)
        clear hb1 ho HB HS
        go_wp2_with (at_builtin; refine wpList_append_own _ rfl _ _ 38 rfl w.heap.size 47 i0 (.agg #[.string ⟨#[]⟩, .int .i64 0, .int .i64 0]) 3 32 Try.underToks hi hz0 hz1 hz2 rfl (by decide) _ _ _ rfl ((ho1.alloc _).alloc _) ⟨w1.heap.size + 1, 0, none⟩ 1 1 (rc (TS, (TN : Int), (TD : Int))) rfl rfl ?c1 ?c2 ?c3 ?c4 ?c5 ?_)
        case c1 => exact cells_newN _ (rc (TS, (TN : Int), (TD : Int))) _ _ (by simp)
        case c2 => exact rc_one _
        case c3 => unfold maxLen; omega
        case c4 => omega
        case c5 => simp; omega
        intro v' w2 hown2 hgrow2 _
        have HB2 := hid (bel_step (HB1.out.alloc hsz1 (.cells #[.string TS, .int .i64 TN, .int .i64 TD] 47)) (ho1.alloc _) (by simp; omega) hgrow2)
        have HO2 : Hid (OwnT 47 w2 w.heap.size v' (rs ++ [(TS, (TN : Int), (TD : Int))])) := ownT_snoc hown2 HML.out
        have HS2 : Hid (w.heap.size ≤ w2.heap.size) := HB2.out.size
        clear hown2 hgrow2 ho1
        go_wp2_with fail
        go_roundg (p.size - (q + n))
        case measure => omega
        case rel => exact ⟨q + n, ts ++ [t], by omega, by go_num, by show _ ≤ _; rw [List.length_append]; simp; omega, HP2, by rw [HRT.out]; exact HO2, HB2, HS2⟩
    · have hp := HP.out
      rw [List.drop_eq_nil_of_le (by rw [HL.out]; omega), M.tks_nil] at hp
      have HC : Hid (R = .ok ts) := by show R = _; rw [← hp]; simp [M.pre]
      clear hp
      go_wp2_with fail
      refine bodyPost_ret (v := .tuple #[_, .int .i64 p.size, .int .i64 0]) (by simp [results, Try.results18, go_sem]; rfl) rfl ⟨?_, HB.out⟩
      rw [HC.out]
      exact ⟨_, rfl, HO.out⟩
end Go.Proofs.Ytdkfenmhfkggdaa
