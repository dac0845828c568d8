/- Texts of the proof, put together: Fm5, Can5, RecOpen, Sam5, Spl5, Bck5. -/
import Derived.Test.YtoohmbkgdmmghaaRdr5
import Derived.Test.YtoohmbkgdmmghaaByt
import Derived.ProofKit
import Derived.OpenShut
import Derived.ShutString
import Derived.ChangeOld
import Derived.JoinedCond
import Derived.ChangeSame
import Derived.Deep.Slices
import Derived.Deep.Strs
import Derived.Laws.StructEq
namespace Go.Proofs.Ytoohmbkgdmmghaa
open Go.RowKit
def ex1 : Rec := ⟨3, true, ⟨#[]⟩, true, ⟨#[97, 98]⟩, []⟩
def ex2 : Rec := ⟨5, false, ⟨#[]⟩, false, ⟨#[]⟩, []⟩
theorem ex_a : bym ex1 5 1 = ⟨#[8, 0, 3, 1, 0, 4, 97, 98, 0]⟩ := by kernel_rfl
theorem ex_b : sze ex1 5 1 = 0 := by kernel_rfl
theorem ex_c : rd5 ⟨#[6, 0, 0, 0, 1, 1, 0]⟩ 5 0 = .ok (ex2, 7) := by kernel_rfl
theorem ex_d : rd5 ⟨#[6, 0, 0, 0, 1, 1, 0]⟩ 5 1 = .error 27 := by kernel_rfl
theorem ex_m : Mod ex1 := ⟨by decide, by decide, (by intro x hx; cases hx), by decide, by decide⟩
theorem ex_z : (⟨#[6, 0, 0, 0, 1, 1, 0]⟩ : ByteArray).size ≤ 9223372036854775807 := by decide
set_option maxHeartbeats 1000000 in
set_option maxRecDepth 20000 in
theorem forms_any (w : World) :
    Calls Try.prog 5 #[] w fun e w' => e = .returned (.bool true) ∧ Below w.heap.size w w' := by
  have cb := fun x => bytes5_any ex1 none 0 5 1 x (Or.inl rfl) (by decide) (by decide) ex_m
  have cr := fun x => read5_any ⟨#[6, 0, 0, 0, 1, 1, 0]⟩ 5 0 x ex_z (by decide)
  have cs := fun x => read5_any ⟨#[6, 0, 0, 0, 1, 1, 0]⟩ 5 1 x ex_z (by decide)
  rw [ex_a, ex_b] at cb
  rw [ex_c] at cr
  rw [ex_d] at cs
  have CB := hid cb
  have CR := hid cr
  have CS := hid cs
  clear cb cr cs
  go_enter Try.func5, Try.ntmps5
  go_wp2_with fail
  refine (CB.out _).mono ?_
  rintro e w1 ⟨rfl, hb1⟩
  go_wp2_with fail
  refine (CR.out _).mono ?_
  rintro e w2 ⟨hb2, a, cap, rfl, ho⟩
  have HB2 := hid (bel_next hb1 (Nat.le_refl _) hb2)
  have HO := hid ho
  clear ho hb1 hb2
  unfold recV ex2
  go_wp2_with fail
  refine (CS.out _).mono ?_
  rintro e w3 ⟨hb3, rfl, _⟩
  have HB3 := hid (bel_next (HB2.out.alloc HB2.out.size _) (Nat.le_refl _) hb3)
  clear hb3
  unfold noRec
  go_wp2_with fail
  go_ret
  exact ⟨rfl, HB3.out⟩
end Go.Proofs.Ytoohmbkgdmmghaa
namespace Go.Proofs.Ytoohmbkgdmmghaa
open Go.RowKit
theorem cl_le {h : Bool} {d : ByteArray} (hc : Cl h d) : d.size ≤ (ol h d).length := by
  cases h with
  | false => rw [hc rfl]; exact Nat.zero_le _
  | true => exact (ol_ge true d).2 rfl
theorem hl_mem {hs : List Hdr} {x : Hdr} (h : x ∈ hs) : (hl1 x).length ≤ (hl hs).length := by
  induction hs with
  | nil => cases h
  | cons y l ih =>
    have e : hl (y :: l) = hl1 y ++ hl l := by simp [hl]
    rw [e, List.length_append]
    rcases List.mem_cons.1 h with rfl | h
    · omega
    · have := ih h; omega
theorem fm_len (d : Int) (n : Nat) (r : Rec) : (ol r.kh r.kd).length + (ol r.vh r.vd).length + (hl r.hs).length + 5 ≤ (fm d n r).length ∧ 7 ≤ (fm d n r).length := by
  have h1 := M.form_pos (M.zz d).toNat
  have h2 := M.form_pos n
  have h3 := M.form_pos r.hs.length
  have h4 := M.form_pos (own d n r).length
  have h5 := (ol_ge r.kh r.kd).1
  have h6 := (ol_ge r.vh r.vd).1
  have e : (fm d n r).length = (M.form (own d n r).length).length + (own d n r).length := by unfold fm; rw [List.length_append]
  have e2 : (own d n r).length = 1 + ((M.form (M.zz d).toNat).length + ((M.form n).length + ((ol r.kh r.kd).length + ((ol r.vh r.vd).length + ((M.form r.hs.length).length + (hl r.hs).length))))) := by
    simp only [own, List.length_append, List.length_cons, List.length_nil]
  omega
theorem good_mod {first : Int} {n : Nat} {r : Rec} (h : Good first r) (hl' : (fm (r.t - first) n r).length ≤ 16777216) : Mod r := by
  obtain ⟨_, _, h3, h4, h5, h6⟩ := h
  have hf := (fm_len (r.t - first) n r).1
  have a := cl_le h3
  have b := cl_le h4
  refine ⟨by omega, by omega, fun x hx => ?_, by omega, by omega⟩
  have c := cl_le (h6 x hx)
  have d := hl_mem hx
  unfold hl1 at d
  rw [List.length_append] at d
  omega
theorem canon5 {s : ByteArray} {first : Int} {N : Nat} {y : Rec} {ky : Nat} (hs : s.size ≤ 9223372036854775807) (hN : N < 65536) (h : nxt s 0 first N = .ok (y, ky)) :
    sze y first N = 0 ∧ szn y first N = ky ∧ bym y first N = s.extract 0 ky ∧ 7 ≤ ky ∧ ky ≤ s.size ∧ Mod y ∧ I64 y.t := by
  obtain ⟨h1, h2, h3, h4⟩ := (nxt_iff hs (Nat.zero_le _) (by omega)).1 h
  rw [Nat.zero_add] at h2
  have e : sze y first N = 0 := by
    unfold sze
    rw [if_neg (by omega), if_neg (by simpa using h3.2.1), if_neg (by have := h3.2.2.2.2.1; omega), Int.toNat_natCast, if_neg (by omega)]
  refine ⟨e, ?_, ?_, ?_, ?_, good_mod h3 h4, h3.1⟩
  · unfold szn; rw [if_pos e, Int.toNat_natCast, h2]
  · unfold bym
    rw [if_pos e, Int.toNat_natCast, h2]
    apply bl_inj
    have hb : ∀ b ∈ fm (y.t - first) N y, b < 256 := fun b hb => by
      have := h1.2
      rw [← this] at hb
      exact bl_byte s b (List.mem_of_mem_drop (List.mem_of_mem_take hb))
    rw [bl_bs _ hb, bl_ext, Nat.sub_zero]
    exact h1.2.symm
  · rw [h2]; exact (fm_len _ _ _).2
  · have := h1.1; omega
set_option maxHeartbeats 1000000 in
set_option maxRecDepth 20000 in
theorem same_none (w : World) : Calls Try.prog 11 #[noRec, noRec] w fun e w' => e = .returned (.bool true) ∧ Below w.heap.size w w' := by
  unfold noRec
  go_enter Try.func11, Try.ntmps11
  go_wp2_with fail
  go_loopg [37] 0 (fun _ i wr => i = .int .i64 0 ∧ Below w.heap.size w wr)
  case atStart => exact ⟨rfl, ((Below.refl _ w).alloc (Nat.le_refl _) _).alloc (by simp) _⟩
  case round =>
    obtain ⟨rfl, hb⟩ := hrel
    go_wp2_with fail
    go_ret
    exact ⟨rfl, hb⟩
end Go.Proofs.Ytoohmbkgdmmghaa
namespace Go.Proofs.Ytoohmbkgdmmghaa
open Go.ChangeShapes Go.WideShapes Go.ChangeAt Go.RowKit Go.Deep
theorem Try.cOpt : Try.prog.cellsOf 23 = 2 := by kernel_rfl
theorem Try.cHdr : Try.prog.cellsOf 33 = 3 := by kernel_rfl
theorem Try.cRec : Try.prog.cellsOf 26 = 6 := by kernel_rfl
theorem Try.cStr : Try.prog.cellsOf 9 = 1 := by kernel_rfl
theorem Try.cBool : Try.prog.cellsOf 4 = 1 := by kernel_rfl
theorem Try.cI64 : Try.prog.cellsOf 2 = 1 := by kernel_rfl
theorem Try.cHds : Try.prog.cellsOf 24 = 1 := by kernel_rfl
variable {H : Type} {enc : TypeId × Value → H} {W : World}
theorem take1 {cs : List Value} {v : Value} {k : Nat} (h : (cs.drop k).take 1 = [v]) : cs[k]? = some v := by
  have := congrArg (fun l => l[0]?) h
  simpa using this
theorem open_opt {fuel : Nat} {cs : List Value} {x : DataW H × List MemPlace} (h : DataW.trod enc Try.prog W 0 (fun _ => true) true fuel 23 cs = some x) : ∃ (b : Bool) (d : ByteArray), cs = [.bool b, .string d] ∧ d.size + 1 ≤ Rows.uptoBulk x.1 ∧ d.size ≤ maxLen := by
  obtain ⟨y0, y1, n, rfl, hlen, k0, k1⟩ := trod_struct2 Try.underlying23 h
  rw [Try.cOpt] at hlen
  simp only [Try.cBool, Try.cStr] at k0 k1
  obtain ⟨b, q0, r0⟩ := DataW.trod_bool Try.underlying4 k0
  obtain ⟨d, q1, r1, w1⟩ := DataW.trod_string Try.underlying9 k1
  match cs, hlen with
  | [u, v], _ =>
    simp at q0 q1
    subst q0 q1
    refine ⟨b, d, rfl, ?_, w1⟩
    rw [r0, r1]
    simp [Rows.uptoBulk, Rows.uptoBulkAll]
    try omega
theorem open_hdr {fuel : Nat} {cs : List Value} {x : DataW H × List MemPlace} (h : DataW.trod enc Try.prog W 0 (fun _ => true) true fuel 33 cs = some x) : ∃ y : Hdr, cs = hc1 y ∧ y.1.size + 1 + (y.2.2.size + 1) ≤ Rows.uptoBulk x.1 := by
  obtain ⟨y0, y1, n, rfl, hlen, k0, k1⟩ := trod_struct2 Try.underlying33 h
  rw [Try.cHdr] at hlen
  simp only [Try.cOpt, Try.cStr] at k0 k1
  obtain ⟨d, q0, r0, _⟩ := DataW.trod_string Try.underlying9 k0
  obtain ⟨b, e, q1, r1, _⟩ := open_opt k1
  match cs, hlen with
  | [u, v, z], _ =>
    simp at q0 q1
    obtain ⟨q1, q2⟩ := q1
    subst q0 q1 q2
    refine ⟨(d, b, e), rfl, ?_⟩
    rw [r0]
    simp [Rows.uptoBulk, Rows.uptoBulkAll]
    omega
/-- All bytes of the headers, and one for each text. -/
def hbk (hs : List Hdr) : Nat := (hs.map fun r => r.1.size + 1 + (r.2.2.size + 1)).sum
theorem hbk_mem {hs : List Hdr} {r : Hdr} (h : r ∈ hs) : r.1.size + 1 + (r.2.2.size + 1) ≤ hbk hs := by
  induction hs with
  | nil => simp at h
  | cons x l ih =>
    rcases List.mem_cons.1 h with e | e
    · subst e; simp [hbk]
    · have := ih e
      simp only [hbk, List.map_cons, List.sum_cons] at *
      omega
theorem hbk_len (hs : List Hdr) : hs.length ≤ hbk hs := by
  induction hs with
  | nil => simp [hbk]
  | cons x l ih => simp only [hbk, List.map_cons, List.sum_cons, List.length_cons] at *; omega
theorem ol_le (h : Bool) (d : ByteArray) : (ol h d).length ≤ 10 + d.size := by
  unfold ol
  split
  · rw [List.length_append, bl_len]; have := M.form_le (2 * d.size); omega
  · simp; omega
theorem hbk_hl (hs : List Hdr) : (hl hs).length ≤ 20 * hbk hs := by
  induction hs with
  | nil => simp [hl]
  | cons x l ih =>
    rw [hl_cons, List.length_append, List.length_append]
    have h1 := ol_le x.2.1 x.2.2
    have h2 : (tx x.1).length ≤ 10 + x.1.size := by unfold tx; rw [List.length_append, bl_len]; have := M.form_le x.1.size; omega
    simp only [hbk, List.map_cons, List.sum_cons] at *
    omega
theorem sum_leh {H : Type} (f : Nat → Hdr) (D : Nat → DataW H) : ∀ (l : List Nat), (∀ i ∈ l, (f i).1.size + 1 + ((f i).2.2.size + 1) ≤ Rows.uptoBulk (D i)) → hbk (l.map f) ≤ Rows.uptoBulkAll (l.map D)
  | [], _ => by simp [hbk, Rows.uptoBulkAll]
  | i :: l, h => by
    have ih := sum_leh f D l (fun j hj => h j (List.mem_cons_of_mem _ hj))
    have h0 := h i (List.mem_cons_self ..)
    simp only [hbk, List.map_cons, List.sum_cons, Rows.uptoBulkAll] at ih ⊢
    omega
theorem open_hds {fuel : Nat} {cs : List Value} {x : DataW H × List MemPlace} (h : DataW.trod enc Try.prog W 0 (fun _ => true) true fuel 24 cs = some x) : ∃ (a : Option Addr) (cap : Nat) (hs : List Hdr), cs = [.slice a hs.length cap] ∧ Hds W a hs ∧ hbk hs ≤ Rows.uptoBulk x.1 ∧ hs.length ≤ 9223372036854775807 ∧ (a = none → cap = 0) := by
  rcases open_slice Try.underlying24 h with ⟨hcs', hx⟩ | ⟨x', l, c, m, n, D, Pl, hcs', _, hl', hm, hmm, hx, hel⟩
  · exact ⟨none, 0, [], by simpa using hcs', Or.inl rfl, Nat.zero_le _, by simp, fun _ => rfl⟩
  · simp only [if_true] at hmm
    subst hx
    have each : ∀ i, i < l → ∃ o : Hdr, W.cell? ((x'.add (i * 3)).add 0) = some (.string o.1) ∧ W.cell? ((x'.add (i * 3)).add 1) = some (.bool o.2.1) ∧ W.cell? ((x'.add (i * 3)).add 2) = some (.string o.2.2) ∧ o.1.size + 1 + (o.2.2.size + 1) ≤ Rows.uptoBulk (D i) := by
      intro i hi
      obtain ⟨cs', e1, e2⟩ := hel i (by omega)
      rw [Try.cHdr] at e1
      obtain ⟨y, hy, hb⟩ := open_hdr e2
      have g := (World.cells?_some e1)
      refine ⟨y, ?_, ?_, ?_, hb⟩
      · rw [g.2.2 0 (by omega), hy]; rfl
      · rw [g.2.2 1 (by omega), hy]; rfl
      · rw [g.2.2 2 (by omega), hy]; rfl
    obtain ⟨f, hf⟩ := choose_lt each
    refine ⟨some x', c, (List.range l).map f, by simpa using hcs', ?_, ?_, ?_, fun h => by cases h⟩
    · by_cases h0 : l = 0
      · left; subst h0; rfl
      · right
        obtain ⟨b, off, spot⟩ := x'
        have h00 := (hf 0 (by omega)).1
        have hspot : spot = none := by simpa [Addr.add] using World.cell?_spot h00
        subst hspot
        have hlt := World.block_lt_of_cell? _ _ h00
        refine ⟨b, off, rfl, by simpa [Addr.add] using hlt, fun j hj => ?_⟩
        have hj' : j < l := by simpa using hj
        obtain ⟨k0, k1, k2, _⟩ := hf j hj'
        rw [Go.WideShapes.add_plain, Go.WideShapes.add_plain] at k0 k1 k2
        have eg : ((List.range l).map f).getD j df = f j := by
          rw [List.getD_eq_getElem?_getD, List.getElem?_map, List.getElem?_range hj']
          rfl
        rw [eg]
        exact ⟨by simpa using k0, k1, k2⟩
    · have := sum_leh f D (List.range l) (fun i hi => (hf i (by simpa using hi)).2.2.2)
      simp only [Rows.uptoBulk]
      have hle : l = m ∨ l ≤ m := by omega
      have := this
      subst hmm
      omega
    · simp
      unfold maxLen at hm
      omega
set_option maxRecDepth 20000 in
theorem open_rec {fuel : Nat} {cs : List Value} {x : DataW H × List MemPlace} (h : DataW.trod enc Try.prog W 0 (fun _ => true) true fuel 26 cs = some x) : ∃ (r : Rec) (a : Option Addr) (cap : Nat), cs = [.int .i64 r.t, .bool r.kh, .string r.kd, .bool r.vh, .string r.vd, .slice a r.hs.length cap] ∧ Hds W a r.hs ∧ r.kd.size + r.vd.size + hbk r.hs + 1 ≤ Rows.uptoBulk x.1 ∧ r.hs.length ≤ 9223372036854775807 ∧ (Lit.int .i64 r.t).wf = true ∧ (a = none → cap = 0) := by
  obtain ⟨xs, n, _, rfl, hlen, hxs, hf⟩ := DataW.trod_struct Try.underlying26 h
  rw [Try.cRec] at hlen
  match xs, hxs with
  | [y0, y1, y2, y3], _ =>
    have k0 : DataW.trod enc Try.prog W 0 (fun _ => true) true n 2 ((cs.drop 0).take (Try.prog.cellsOf 2)) = some y0 := hf 0 _ rfl
    have k1 : DataW.trod enc Try.prog W 0 (fun _ => true) true n 23 ((cs.drop 1).take (Try.prog.cellsOf 23)) = some y1 := hf 1 _ rfl
    have k2 : DataW.trod enc Try.prog W 0 (fun _ => true) true n 23 ((cs.drop 3).take (Try.prog.cellsOf 23)) = some y2 := hf 2 _ rfl
    have k3 : DataW.trod enc Try.prog W 0 (fun _ => true) true n 24 ((cs.drop 5).take (Try.prog.cellsOf 24)) = some y3 := hf 3 _ rfl
    rw [Try.cI64] at k0
    rw [Try.cOpt] at k1 k2
    rw [Try.cHds] at k3
    obtain ⟨t, q0, r0, w0⟩ := DataW.trod_int Try.underlying2 k0
    obtain ⟨kh, kd, q1, r1, _⟩ := open_opt k1
    obtain ⟨vh, vd, q2, r2, _⟩ := open_opt k2
    obtain ⟨a, cap, hs, q3, V, r3, hl3, hn3⟩ := open_hds k3
    match cs, hlen with
    | [c0, c1, c2, c3, c4, c5], _ =>
      simp at q0 q1 q2 q3
      obtain ⟨q1, q1'⟩ := q1
      obtain ⟨q2, q2'⟩ := q2
      subst q0 q1 q1' q2 q2' q3
      refine ⟨⟨t, kh, kd, vh, vd, hs⟩, a, cap, rfl, V, ?_, hl3, w0, hn3⟩
      simp [Rows.uptoBulk, Rows.uptoBulkAll]
      omega
theorem mod_of {r : Rec} (h : r.kd.size + r.vd.size + hbk r.hs ≤ 1048576) : Mod r := by
  have h1 := ol_le r.kh r.kd
  have h2 := ol_le r.vh r.vd
  have h3 := hbk_hl r.hs
  have h4 := hbk_len r.hs
  exact ⟨by omega, by omega, fun x hx => by have := hbk_mem hx; omega, by omega, by omega⟩
end Go.Proofs.Ytoohmbkgdmmghaa
namespace Go.Proofs.Ytoohmbkgdmmghaa
open Go.RowKit
/-- What a text that may be null says. -/
def bd (h : Bool) (d : ByteArray) : ByteArray := if h then d else ⟨#[]⟩
set_option maxHeartbeats 1000000 in
set_option maxRecDepth 20000 in
theorem bare_any (h : Bool) (d : ByteArray) (w : World) :
    Calls Try.prog 15 #[.agg #[.bool h, .string d]] w fun e w' => e = .returned (.agg #[.bool h, .string (bd h d)]) ∧ Below w.heap.size w w' := by
  cases h with
  | false =>
    go_enter Try.func15, Try.ntmps15
    go_wp2_with fail
    exact bodyPost_ret (v := .agg #[.bool false, .string ⟨#[]⟩]) (by simp [results, Try.results15, go_sem]) rfl ⟨rfl, ((Below.refl _ w).alloc (Nat.le_refl _) _).alloc (by simp) _⟩
  | true =>
    go_enter Try.func15, Try.ntmps15
    go_wp2_with fail
    exact bodyPost_ret (v := .agg #[.bool true, .string d]) (by simp [results, Try.results15, go_sem]) rfl ⟨rfl, ((Below.refl _ w).alloc (Nat.le_refl _) _).alloc (by simp) _⟩
theorem bareB (h : Bool) (d : ByteArray) (B : Nat) (w0 w : World) (hB : B ≤ w0.heap.size) (hb : Below B w0 w) :
    Calls Try.prog 15 #[.agg #[.bool h, .string d]] w fun e w' => e = .returned (.agg #[.bool h, .string (bd h d)]) ∧ Below B w0 w' :=
  (bare_any h d w).mono fun _ _ h => ⟨h.1, bel_next hb hB h.2⟩
theorem Try.optStruct : Try.prog.underlying 23 = some (.struct (Try.prog.fieldsOf 23)) := by kernel_rfl
theorem Try.optHeld : Try.prog.stoodInHeld 23 = false := by kernel_rfl
theorem Try.optGuard : Try.prog.eqGuardType Try.prog.depth 23 = false := by kernel_rfl
set_option maxRecDepth 20000 in
theorem neq_opt (b : Bool) (d : ByteArray) (w : World) : (binOp .neq 23 (.agg #[.bool b, .string d]) (.agg #[.bool b, .string d])).run Try.prog w = .ok (.bool false) w := by
  rw [run_neq_struct, run_equalIn_agg w 9999 _ _ _ Try.optStruct Try.optHeld]
  have hf : (Try.prog.fieldsOf 23) = (match Try.prog.underlying 23 with | some (.struct fs) => fs | _ => #[]) := rfl
  rw [hf, Try.underlying23]
  simp [go_sem, Op.eqFields, Try.underlying9, Try.underlying4]
theorem Try.hdrStruct : Try.prog.underlying 33 = some (.struct (Try.prog.fieldsOf 33)) := by kernel_rfl
theorem Try.hdrHeld : Try.prog.stoodInHeld 33 = false := by kernel_rfl
theorem Try.hdrGuard : Try.prog.eqGuardType Try.prog.depth 33 = false := by kernel_rfl
set_option maxRecDepth 20000 in
theorem neq_hdr (k : ByteArray) (b : Bool) (d : ByteArray) (w : World) : (binOp .neq 33 (.agg #[.string k, .bool b, .string d]) (.agg #[.string k, .bool b, .string d])).run Try.prog w = .ok (.bool false) w := by
  rw [run_neq_struct, run_equalIn_agg w 9999 _ _ _ Try.hdrStruct Try.hdrHeld]
  have hf : (Try.prog.fieldsOf 33) = (match Try.prog.underlying 33 with | some (.struct fs) => fs | _ => #[]) := rfl
  rw [hf, Try.underlying33]
  simp [go_sem, Op.eqFields, Try.underlying9, Try.underlying4, Try.underlying23]
theorem store3 {x : World} {A R : Nat} {o : Obj} {v0 v1 v2 : Value} (h : x.heap[A]? = some o) (hne : A ≠ R) :
    (((x.setCell ⟨R, 0, none⟩ v0).setCell ⟨R, 1, none⟩ v1).setCell ⟨R, 2, none⟩ v2).heap[A]? = some o :=
  heap_set_far (heap_set_far (heap_set_far h hne) hne) hne
set_option maxHeartbeats 800000 in
set_option maxRecDepth 20000 in
theorem bareh_any (k : ByteArray) (h : Bool) (d : ByteArray) (w : World) :
    Calls Try.prog 16 #[.agg #[.string k, .bool h, .string d]] w fun e w' => e = .returned (.agg #[.string k, .bool h, .string (bd h d)]) ∧ Below w.heap.size w w' := by
  go_enter Try.func16, Try.ntmps16
  go_wp2_with fail
  have h1 : ((w.alloc (.cells #[.string k, .bool h, .string d] 33)).alloc (.cells #[.string ⟨#[]⟩, .bool false, .string ⟨#[]⟩] 33)).heap[w.heap.size]? = some (.cells #[.string k, .bool h, .string d] 33 (0, 0)) := heap_alloc_at (heap_new _ _)
  have h2 : ((w.alloc (.cells #[.string k, .bool h, .string d] 33)).alloc (.cells #[.string ⟨#[]⟩, .bool false, .string ⟨#[]⟩] 33)).heap[w.heap.size + 1]? = some (.cells #[.string ⟨#[]⟩, .bool false, .string ⟨#[]⟩] 33 (0, 0)) := heap_new' _ _ _ (by simp)
  have hb1 : Below w.heap.size w ((w.alloc (.cells #[.string k, .bool h, .string d] 33)).alloc (.cells #[.string ⟨#[]⟩, .bool false, .string ⟨#[]⟩] 33)) := ((Below.refl _ w).alloc (Nat.le_refl _) _).alloc (by simp) _
  have hs1 : ((w.alloc (.cells #[.string k, .bool h, .string d] 33)).alloc (.cells #[.string ⟨#[]⟩, .bool false, .string ⟨#[]⟩] 33)).heap.size = w.heap.size + 2 := by simp
  generalize (w.alloc (.cells #[.string k, .bool h, .string d] 33)).alloc (.cells #[.string ⟨#[]⟩, .bool false, .string ⟨#[]⟩] 33) = W2 at *
  have hB : w.heap.size + 2 ≤ W2.heap.size := by omega
  have C1 : Hid (∀ x, Below (w.heap.size + 2) W2 x → Calls Try.prog 15 #[.agg #[.bool h, .string d]] x fun e w' => e = .returned (.agg #[.bool h, .string (bd h d)]) ∧ Hid (Below (w.heap.size + 2) W2 w') ∧ w'.heap[w.heap.size]? = some (.cells #[.string k, .bool h, .string d] 33 (0, 0)) ∧ Hid (w'.heap[w.heap.size + 1]? = some (.cells #[.string ⟨#[]⟩, .bool false, .string ⟨#[]⟩] 33 (0, 0))) ∧ w'.cell? ⟨w.heap.size + 1, 0, none⟩ = some (.string ⟨#[]⟩) ∧ w'.cell? ⟨w.heap.size + 1, 1, none⟩ = some (.bool false) ∧ w'.cell? ⟨w.heap.size + 1, 2, none⟩ = some (.string ⟨#[]⟩) ∧ w'.frozen? ⟨w.heap.size + 1, 0, none⟩ = false ∧ w'.frozen? ⟨w.heap.size + 1, 1, none⟩ = false ∧ w'.frozen? ⟨w.heap.size + 1, 2, none⟩ = false) := by
    intro x hx
    refine (bareB h d (w.heap.size + 2) W2 x hB hx).mono ?_
    rintro e w' ⟨rfl, hb⟩
    have r1 := (hb.block (w.heap.size + 1) (by omega)).trans h2
    have m := cells3 r1
    exact ⟨rfl, hb, (hb.block w.heap.size (by omega)).trans h1, r1, m.1, m.2.1, m.2.2, froz_of r1, froz_of r1, froz_of r1⟩
  have HB1 := hid hb1
  have h0 : Below (w.heap.size + 2) W2 W2 := Below.refl _ _
  have h0' : Below (w.heap.size + 2) W2 W2.drew := h0.drew
  have H1 := hid h1
  have H1' : Hid (W2.drew.heap[w.heap.size]? = some (.cells #[.string k, .bool h, .string d] 33 (0, 0))) := h1
  have y1 : w.heap.size ≠ w.heap.size + 1 := by omega
  clear h1 h2 hb1
  go_region_held3 (fun x => x.cell? ⟨w.heap.size, 0, none⟩ = some (.string k) ∧ x.cell? ⟨w.heap.size, 1, none⟩ = some (.bool h) ∧ x.cell? ⟨w.heap.size, 2, none⟩ = some (.string d)) (first | with_reducible exact cells3 H1.out | with_reducible exact cells3 H1'.out | with_reducible exact cells3 g1 | with_reducible exact cells3 (store3 g1 y1)) (first | (go_at_call 15; refine (C1.out _ (by assumption)).mono ?_; rintro e w' ⟨rfl, hbel, g1, r1, m0, m1, m2, n0, n1, n2⟩))
  have f11 : (((w'.setCell ⟨w.heap.size + 1, 0, none⟩ (.string k)).setCell ⟨w.heap.size + 1, 1, none⟩ (.bool h)).setCell ⟨w.heap.size + 1, 2, none⟩ (.string (bd h d))).heap[w.heap.size + 1]? = some (.cells #[.string k, .bool h, .string (bd h d)] 33 (0, 0)) := heap_set (heap_set (heap_set r1.out))
  obtain ⟨j0, j1, j2⟩ := cells3 f11
  clear f11 m0 m1 m2 n0 n1 n2
  have HF : Hid (Below w.heap.size w (((w'.setCell ⟨w.heap.size + 1, 0, none⟩ (.string k)).setCell ⟨w.heap.size + 1, 1, none⟩ (.bool h)).setCell ⟨w.heap.size + 1, 2, none⟩ (.string (bd h d)))) := (((HB1.out.trans (hbel.out.mono (by omega))).setCell (by show w.heap.size ≤ w.heap.size + 1; omega) _).setCell (by show w.heap.size ≤ w.heap.size + 1; omega) _).setCell (by show w.heap.size ≤ w.heap.size + 1; omega) _
  go_wp2_with fail
  exact bodyPost_ret (v := .agg #[.string k, .bool h, .string (bd h d)]) (by simp [results, Try.results16, go_sem, j0, j1, j2]) rfl ⟨rfl, HF.out⟩
theorem barehB (k : ByteArray) (h : Bool) (d : ByteArray) (B : Nat) (w0 w : World) (hB : B ≤ w0.heap.size) (hb : Below B w0 w) :
    Calls Try.prog 16 #[.agg #[.string k, .bool h, .string d]] w fun e w' => e = .returned (.agg #[.string k, .bool h, .string (bd h d)]) ∧ Below B w0 w' :=
  (bareh_any k h d w).mono fun _ _ h => ⟨h.1, bel_next hb hB h.2⟩
theorem held12 {w0 x : World} {B P Q : Nat} {T : TypeId} {v0 v1 v2 v3 v4 v5 u0 u1 u2 u3 u4 u5 : Value} (h : w0.heap[P]? = some (.cells #[v0, v1, v2, v3, v4, v5] T (0, 0))) (k : w0.heap[Q]? = some (.cells #[u0, u1, u2, u3, u4, u5] T (0, 0))) (hP : P < B) (hQ : Q < B) (hb : Below B w0 x) :
    ((x.cell? ⟨P, 0, none⟩ = some v0 ∧ x.cell? ⟨P, 1, none⟩ = some v1 ∧ x.cell? ⟨P, 2, none⟩ = some v2 ∧ x.cell? ⟨P, 3, none⟩ = some v3 ∧ x.cell? ⟨P, 4, none⟩ = some v4 ∧ x.cell? ⟨P, 5, none⟩ = some v5) ∧ (x.cell? ⟨Q, 0, none⟩ = some u0 ∧ x.cell? ⟨Q, 1, none⟩ = some u1 ∧ x.cell? ⟨Q, 2, none⟩ = some u2 ∧ x.cell? ⟨Q, 3, none⟩ = some u3 ∧ x.cell? ⟨Q, 4, none⟩ = some u4 ∧ x.cell? ⟨Q, 5, none⟩ = some u5)) ∧ Below B w0 x :=
  ⟨⟨cells6 ((hb.block P hP).trans h), cells6 ((hb.block Q hQ).trans k)⟩, hb⟩
set_option maxHeartbeats 800000 in
set_option maxRecDepth 20000 in
theorem same_yes (t : Int) (kh vh : Bool) (kd kd2 vd vd2 : ByteArray) (hs hs2 : List Hdr) (a1 a2 : Option Addr) (cap1 cap2 : Nat) (w : World) (V1 : Hds w a1 hs) (V2 : Hds w a2 hs2) (hz : hs.length ≤ 9223372036854775807) (hK : bd kh kd2 = bd kh kd) (hV : bd vh vd2 = bd vh vd) (hl2 : hs2.length = hs.length)
    (hH : ∀ j, j < hs.length → (hs2.getD j df).1 = (hs.getD j df).1 ∧ (hs2.getD j df).2.1 = (hs.getD j df).2.1 ∧ bd (hs2.getD j df).2.1 (hs2.getD j df).2.2 = bd (hs.getD j df).2.1 (hs.getD j df).2.2) :
    Calls Try.prog 6 #[.agg #[.int .i64 t, .bool kh, .string kd, .bool vh, .string vd, .slice a1 hs.length cap1], .agg #[.int .i64 t, .bool kh, .string kd2, .bool vh, .string vd2, .slice a2 hs.length cap2]] w fun e w' => e = .returned (.bool true) ∧ Below w.heap.size w w' := by
  have n1 : ∀ w, (binOp .neq 23 (.agg #[.bool kh, .string (bd kh kd)]) (.agg #[.bool kh, .string (bd kh kd2)])).run Try.prog w = .ok (.bool false) w := fun w => by rw [hK]; exact neq_opt _ _ w
  have n2 : ∀ w, (binOp .neq 23 (.agg #[.bool vh, .string (bd vh vd)]) (.agg #[.bool vh, .string (bd vh vd2)])).run Try.prog w = .ok (.bool false) w := fun w => by rw [hV]; exact neq_opt _ _ w
  have g1 := fun x y w => run_eqGuard_agg (P := Try.prog) w BinOp.neq 23 x y #[.bool kh, .string (bd kh kd)] #[.bool kh, .string (bd kh kd2)] Try.optGuard
  have g2 := fun x y w => run_eqGuard_agg (P := Try.prog) w BinOp.neq 23 x y #[.bool vh, .string (bd vh vd)] #[.bool vh, .string (bd vh vd2)] Try.optGuard
  have HH := hid hH
  have HV1 := hid V1
  have HV2 := hid V2
  have HL2 := hid hl2
  clear hH V1 V2 hK hV hl2
  go_enter Try.func6, Try.ntmps6
  go_wp2_with fail
  have h1 : ((w.alloc (.cells #[.int .i64 t, .bool kh, .string kd, .bool vh, .string vd, .slice a1 hs.length cap1] 26)).alloc (.cells #[.int .i64 t, .bool kh, .string kd2, .bool vh, .string vd2, .slice a2 hs.length cap2] 26)).heap[w.heap.size]? = some (.cells #[.int .i64 t, .bool kh, .string kd, .bool vh, .string vd, .slice a1 hs.length cap1] 26 (0, 0)) := heap_alloc_at (heap_new _ _)
  have h2 : ((w.alloc (.cells #[.int .i64 t, .bool kh, .string kd, .bool vh, .string vd, .slice a1 hs.length cap1] 26)).alloc (.cells #[.int .i64 t, .bool kh, .string kd2, .bool vh, .string vd2, .slice a2 hs.length cap2] 26)).heap[w.heap.size + 1]? = some (.cells #[.int .i64 t, .bool kh, .string kd2, .bool vh, .string vd2, .slice a2 hs.length cap2] 26 (0, 0)) := heap_new' _ _ _ (by simp)
  have hb1 : Below w.heap.size w ((w.alloc (.cells #[.int .i64 t, .bool kh, .string kd, .bool vh, .string vd, .slice a1 hs.length cap1] 26)).alloc (.cells #[.int .i64 t, .bool kh, .string kd2, .bool vh, .string vd2, .slice a2 hs.length cap2] 26)) := ((Below.refl _ w).alloc (Nat.le_refl _) _).alloc (by simp) _
  have hs1 : ((w.alloc (.cells #[.int .i64 t, .bool kh, .string kd, .bool vh, .string vd, .slice a1 hs.length cap1] 26)).alloc (.cells #[.int .i64 t, .bool kh, .string kd2, .bool vh, .string vd2, .slice a2 hs.length cap2] 26)).heap.size = w.heap.size + 2 := by simp
  generalize (w.alloc (.cells #[.int .i64 t, .bool kh, .string kd, .bool vh, .string vd, .slice a1 hs.length cap1] 26)).alloc (.cells #[.int .i64 t, .bool kh, .string kd2, .bool vh, .string vd2, .slice a2 hs.length cap2] 26) = W2 at *
  have hB : w.heap.size + 2 ≤ W2.heap.size := by omega
  have HB1 := hid hb1
  have h0 : Below (w.heap.size + 2) W2 W2 := Below.refl _ _
  have H1 := hid h1
  have H2 := hid h2
  have y1 : w.heap.size < w.heap.size + 2 := by omega
  have y2 : w.heap.size + 1 < w.heap.size + 2 := by omega
  clear h1 h2 hb1
  go_region_held3 (fun x => ((x.cell? ⟨w.heap.size, 0, none⟩ = some (.int .i64 t) ∧ x.cell? ⟨w.heap.size, 1, none⟩ = some (.bool kh) ∧ x.cell? ⟨w.heap.size, 2, none⟩ = some (.string kd) ∧ x.cell? ⟨w.heap.size, 3, none⟩ = some (.bool vh) ∧ x.cell? ⟨w.heap.size, 4, none⟩ = some (.string vd) ∧ x.cell? ⟨w.heap.size, 5, none⟩ = some (.slice a1 hs.length cap1)) ∧ (x.cell? ⟨w.heap.size + 1, 0, none⟩ = some (.int .i64 t) ∧ x.cell? ⟨w.heap.size + 1, 1, none⟩ = some (.bool kh) ∧ x.cell? ⟨w.heap.size + 1, 2, none⟩ = some (.string kd2) ∧ x.cell? ⟨w.heap.size + 1, 3, none⟩ = some (.bool vh) ∧ x.cell? ⟨w.heap.size + 1, 4, none⟩ = some (.string vd2) ∧ x.cell? ⟨w.heap.size + 1, 5, none⟩ = some (.slice a2 hs.length cap2))) ∧ Below (w.heap.size + 2) W2 x) (first | with_reducible exact held12 H1.out H2.out y1 y2 (by assumption) | with_reducible exact held12 H1.out H2.out y1 y2 (Below.drew (by assumption))) (first | (go_at_call 15; refine (bareB _ _ (w.heap.size + 2) W2 _ hB ?_).mono ?_; (first | assumption | exact Below.drew (by assumption)); rintro e w' ⟨rfl, hbel⟩))
  rename_i hHeld
  obtain ⟨⟨⟨_, _, _, _, _, c5⟩, ⟨_, _, _, _, _, d5⟩⟩, hbx⟩ := hHeld
  clear n1 n2 g1 g2
  go_wp2_with fail
  go_loopg [5, 42] hs.length (fun k _ i wr => ∃ j : Nat, j + k = hs.length ∧ i = .int .i64 j ∧ Hid (Below (w.heap.size + 2) W2 wr))
  case atStart => exact ⟨0, by omega, rfl, hbx⟩
  case round =>
    obtain ⟨j, hk, rfl, HB⟩ := hrel
    by_cases hlt : j < hs.length
    · obtain ⟨k, rfl⟩ : ∃ k, gk = k + 1 := ⟨gk - 1, by omega⟩
      obtain ⟨e1, e2, e3⟩ := HH.out j hlt
      rcases HV1.out with h | ⟨b, off, rfl, hbl, hc⟩
      · rw [h] at hlt; simp at hlt
      rcases HV2.out with h | ⟨b2, off2, rfl, hbl2, hc2⟩
      · have := HL2.out; rw [h] at this; simp at this; omega
      obtain ⟨q0, q1, q2⟩ := hc j hlt
      obtain ⟨p0, p1, p2⟩ := hc2 j (by have := HL2.out; omega)
      have hcw : ∀ b o, b < w.heap.size → wr.cell? ⟨b, o, none⟩ = w.cell? ⟨b, o, none⟩ := fun b o h => (HB.out.cell (p := ⟨b, o, none⟩) (by show b < _; omega)).trans (HB1.out.cell (p := ⟨b, o, none⟩) h)
      generalize hs.getD j df = x at *
      generalize hs2.getD j df = z at *
      obtain ⟨xk, xh, xd⟩ := x
      obtain ⟨zk, zh, zd⟩ := z
      simp only at q0 q1 q2 p0 p1 p2 e1 e2 e3
      subst e1 e2
      have l0 := (hcw b (off + j * 3) hbl).trans q0
      have l1 := (hcw b (off + j * 3 + 1) hbl).trans q1
      have l2 := (hcw b (off + j * 3 + 2) hbl).trans q2
      have o0 := (hcw b2 (off2 + j * 3) hbl2).trans p0
      have o1 := (hcw b2 (off2 + j * 3 + 1) hbl2).trans p1
      have o2 := (hcw b2 (off2 + j * 3 + 2) hbl2).trans p2
      have o5 : wr.cell? ⟨w.heap.size + 1, 5, none⟩ = some (.slice (some ⟨b2, off2, none⟩) hs.length cap2) := held_at H2.out y2 rfl HB.out
      have hbw := HB.out.size
      have i1 : (0 : Int) ≤ (j : Int) := by omega
      have i2 : (j : Int) < hs.length := by omega
      clear hcw q0 q1 q2 p0 p1 p2 hc hc2
      go_wp2_with fail
      have f1 : (wr.alloc (.cells #[.string zk, .bool zh, .string xd] 33)).heap[wr.heap.size]? = some (.cells #[.string zk, .bool zh, .string xd] 33 (0, 0)) := heap_new _ _
      have fb : Below wr.heap.size wr (wr.alloc (.cells #[.string zk, .bool zh, .string xd] 33)) := (Below.refl _ _).alloc (Nat.le_refl _) _
      have fs : (wr.alloc (.cells #[.string zk, .bool zh, .string xd] 33)).heap.size = wr.heap.size + 1 := by simp
      generalize wr.alloc (.cells #[.string zk, .bool zh, .string xd] 33) = W3 at *
      have hB3 : wr.heap.size + 1 ≤ W3.heap.size := by omega
      have z0 := (fb.cell (p := ⟨b2, off2 + j * 3, none⟩) (by show b2 < _; omega)).trans o0
      have z1 := (fb.cell (p := ⟨b2, off2 + j * 3 + 1, none⟩) (by show b2 < _; omega)).trans o1
      have z2 := (fb.cell (p := ⟨b2, off2 + j * 3 + 2, none⟩) (by show b2 < _; omega)).trans o2
      have z5 := (fb.cell (p := ⟨w.heap.size + 1, 5, none⟩) (by show w.heap.size + 1 < _; omega)).trans o5
      have HS : Hid (∀ x, Below (wr.heap.size + 1) W3 x → ((x.cell? ⟨wr.heap.size, 0, none⟩ = some (.string zk) ∧ x.cell? ⟨wr.heap.size, 1, none⟩ = some (.bool zh) ∧ x.cell? ⟨wr.heap.size, 2, none⟩ = some (.string xd)) ∧ x.cell? ⟨w.heap.size + 1, 5, none⟩ = some (.slice (some ⟨b2, off2, none⟩) hs.length cap2) ∧ (x.cell? ⟨b2, off2 + j * 3, none⟩ = some (.string zk) ∧ x.cell? ⟨b2, off2 + j * 3 + 1, none⟩ = some (.bool zh) ∧ x.cell? ⟨b2, off2 + j * 3 + 2, none⟩ = some (.string zd))) ∧ Below (wr.heap.size + 1) W3 x) := fun x hx =>
        ⟨⟨cells3 ((hx.block _ (Nat.lt_succ_self _)).trans f1), (hx.cell (p := ⟨w.heap.size + 1, 5, none⟩) (by show w.heap.size + 1 < _; omega)).trans z5, (hx.cell (p := ⟨b2, off2 + j * 3, none⟩) (by show b2 < _; omega)).trans z0, (hx.cell (p := ⟨b2, off2 + j * 3 + 1, none⟩) (by show b2 < _; omega)).trans z1, (hx.cell (p := ⟨b2, off2 + j * 3 + 2, none⟩) (by show b2 < _; omega)).trans z2⟩, hx⟩
      have n3 : ∀ w, (binOp .neq 33 (.agg #[.string zk, .bool zh, .string (bd zh xd)]) (.agg #[.string zk, .bool zh, .string (bd zh zd)])).run Try.prog w = .ok (.bool false) w := fun w => by rw [e3]; exact neq_hdr _ _ _ w
      have g3 := fun x y w => run_eqGuard_agg (P := Try.prog) w BinOp.neq 33 x y #[.string zk, .bool zh, .string (bd zh xd)] #[.string zk, .bool zh, .string (bd zh zd)] Try.hdrGuard
      have h03 : Below (wr.heap.size + 1) W3 W3 := Below.refl _ _
      have HBB := hid (HB.out.trans (fb.mono (by omega)))
      clear l0 l1 l2 o0 o1 o2 o5 z0 z1 z2 z5 f1 fb e3
      go_region_held3 (fun x => ((x.cell? ⟨wr.heap.size, 0, none⟩ = some (.string zk) ∧ x.cell? ⟨wr.heap.size, 1, none⟩ = some (.bool zh) ∧ x.cell? ⟨wr.heap.size, 2, none⟩ = some (.string xd)) ∧ x.cell? ⟨w.heap.size + 1, 5, none⟩ = some (.slice (some ⟨b2, off2, none⟩) hs.length cap2) ∧ (x.cell? ⟨b2, off2 + j * 3, none⟩ = some (.string zk) ∧ x.cell? ⟨b2, off2 + j * 3 + 1, none⟩ = some (.bool zh) ∧ x.cell? ⟨b2, off2 + j * 3 + 2, none⟩ = some (.string zd))) ∧ Below (wr.heap.size + 1) W3 x) (first | with_reducible exact HS.out _ (by assumption) | with_reducible exact HS.out _ (Below.drew (by assumption))) (first | (go_at_call 16; refine (barehB _ _ _ (wr.heap.size + 1) W3 _ hB3 ?_).mono ?_; (first | assumption | exact Below.drew (by assumption)); rintro e w' ⟨rfl, hbel⟩))
      all_goals
        rename_i hH3
        clear n3 g3
        go_wp2_with fail
        go_roundg k
        case measure => omega
        case rel => exact ⟨j + 1, by omega, by go_num, HBB.out.trans (hH3.2.mono (by omega))⟩
    · have HF := hid (HB1.out.trans (HB.out.mono (by omega)))
      go_wp2_with fail
      go_ret
      exact ⟨rfl, HF.out⟩
end Go.Proofs.Ytoohmbkgdmmghaa
namespace Go.Proofs.Ytoohmbkgdmmghaa
open Go.RowKit
theorem sze_in {r : Rec} {first : Int} {N : Nat} (hN : N < 65536) (h : sze r first N ≠ 0) : sze r first N = 27 ∨ sze r first N = 5 ∨ sze r first N = 66 := by
  unfold sze at *
  rw [if_neg (by omega)] at *
  split
  · exact Or.inl rfl
  · split
    · exact Or.inr (Or.inl rfl)
    · split
      · exact Or.inr (Or.inr rfl)
      · rename_i h1 h2 h3; rw [if_neg h1, if_neg h2, if_neg h3] at h; exact absurd rfl h
theorem ol_byte (h : Bool) (d : ByteArray) (hd : d.size ≤ 1000000000000000000) : ∀ b ∈ ol h d, b < 256 := by
  intro b hb
  unfold ol at hb
  split at hb
  · rcases List.mem_append.1 hb with hb | hb
    · exact M.form_byte (by omega) b hb
    · exact bl_byte d b hb
  · simp at hb; omega
theorem hl_byte (hs : List Hdr) (h : ∀ x ∈ hs, x.1.size ≤ 1000000000000000000 ∧ x.2.2.size ≤ 1000000000000000000) : ∀ b ∈ hl hs, b < 256 := by
  intro b hb
  simp only [hl, List.mem_flatMap] at hb
  obtain ⟨x, hx, hb⟩ := hb
  unfold hl1 tx at hb
  rcases List.mem_append.1 hb with hb | hb
  · rcases List.mem_append.1 hb with hb | hb
    · exact M.form_byte (by have := (h x hx).1; omega) b hb
    · exact bl_byte _ b hb
  · exact ol_byte _ _ (h x hx).2 b hb
theorem own_byte (d : Int) (n : Nat) (r : Rec) (hd : I64 d) (hn : n < 18446744073709551616) (hh : r.hs.length < 18446744073709551616) (hm : Mod r) : ∀ b ∈ own d n r, b < 256 := by
  have hzb := M.zz_bd hd.1 hd.2
  intro b hb
  unfold own at hb
  simp only [List.mem_append] at hb
  rcases hb with hb | hb | hb | hb | hb | hb | hb
  · simp at hb; omega
  · exact M.form_byte (by omega) b hb
  · exact M.form_byte hn b hb
  · exact ol_byte _ _ hm.k b hb
  · exact ol_byte _ _ hm.v b hb
  · exact M.form_byte hh b hb
  · refine hl_byte _ (fun x hx => ⟨?_, hm.h x hx⟩) b hb
    have h1 := hl_mem hx
    have h2 := hm.all
    have h3 := (tx_ge x.1).2
    unfold hl1 at h1
    rw [List.length_append] at h1
    omega
end Go.Proofs.Ytoohmbkgdmmghaa
namespace Go.Proofs.Ytoohmbkgdmmghaa
open Go.RowKit
def cln (r : Rec) : Rec := ⟨r.t, r.kh, bd r.kh r.kd, r.vh, bd r.vh r.vd, r.hs.map fun x => (x.1, x.2.1, bd x.2.1 x.2.2)⟩
theorem ol_bd (h : Bool) (d : ByteArray) : ol h (bd h d) = ol h d := by cases h <;> rfl
theorem bd_bd (h : Bool) (d : ByteArray) : bd h (bd h d) = bd h d := by cases h <;> rfl
theorem cl_bd (h : Bool) (d : ByteArray) : Cl h (bd h d) := fun e => by subst e; rfl
theorem hl_cln (hs : List Hdr) : hl (hs.map fun x => (x.1, x.2.1, bd x.2.1 x.2.2)) = hl hs := by
  induction hs with
  | nil => rfl
  | cons x l ih => rw [List.map_cons, hl_cons, hl_cons, ih, ol_bd]
theorem own_cln (d : Int) (n : Nat) (r : Rec) : own d n (cln r) = own d n r := by
  unfold own cln
  rw [ol_bd, ol_bd, hl_cln, List.length_map]
theorem fm_cln (d : Int) (n : Nat) (r : Rec) : fm d n (cln r) = fm d n r := by unfold fm; rw [own_cln]
theorem bl_app (s t : ByteArray) : bl (s ++ t) = bl s ++ bl t := by
  unfold bl
  have : (s ++ t).data.toList = s.data.toList ++ t.data.toList := by rw [ByteArray.data_append, Array.toList_append]
  rw [this, List.map_append]
theorem form_inj {v v' : Nat} {t t' : List Nat} (h : v < 18446744073709551616) (h' : v' < 18446744073709551616) (e : M.form v ++ t = M.form v' ++ t') : v = v' ∧ t = t' := by
  have a := M.rd_back h t
  have b := M.rd_back h' t'
  rw [e, b] at a
  injection a with a _
  subst a
  exact ⟨rfl, List.append_cancel_left e⟩
theorem own_num {d d' : Int} {n n' : Nat} {x y : Rec} (hd : I64 d) (hd' : I64 d') (hn : n < 65537) (hn' : n' < 65537) (e : own d n x = own d' n' y) : n = n' := by
  have z := M.zz_bd hd.1 hd.2
  have z' := M.zz_bd hd'.1 hd'.2
  unfold own at e
  have e1 := List.append_cancel_left e
  have e2 := (form_inj (by omega) (by omega) e1).2
  exact (form_inj (by omega) (by omega) e2).1
/-- What is read of the form. -/
theorem back_read {r : Rec} {first : Int} {N : Nat} {S more : ByteArray} (hN : N < 65536) (ht : I64 r.t) (hz : sze r first N = 0) (hS : bl S = fm (r.t - first) N r) (hm : more.size ≤ 1048576) : nxt (S ++ more) 0 first N = .ok (cln r, S.size) := by
  obtain ⟨_, hi, hh, hl'⟩ := sze_ok hz
  rw [Int.toNat_natCast] at hl'
  have hsz : S.size = (fm (r.t - first) N r).length := by rw [← hS, bl_len]
  have hz2 : (S ++ more).size = S.size + more.size := by rw [ByteArray.size_append]
  refine (nxt_iff (by omega) (Nat.zero_le _) (by omega)).2 ?_
  have ec : (cln r).t = r.t := rfl
  rw [ec, fm_cln, Nat.zero_add]
  refine ⟨stands_of (r := bl more) (Nat.zero_le _) (by rw [List.drop_zero, bl_app, hS]), hsz, ⟨ht, hi, cl_bd _ _, cl_bd _ _, by show (List.map _ _).length ≤ 1024; rw [List.length_map]; exact hh, ?_⟩, hl'⟩
  intro x hx
  simp only [cln, List.mem_map] at hx
  obtain ⟨y, _, rfl⟩ := hx
  exact cl_bd _ _
theorem back_num {r : Rec} {first : Int} {N : Nat} {S : ByteArray} (hN : N < 65536) (hz : sze r first N = 0) (hS : bl S = fm (r.t - first) N r) : ∃ x, rd5 S first ((N : Int) + 1) = .error x := by
  obtain ⟨_, hi, hh, hl'⟩ := sze_ok hz
  rw [Int.toNat_natCast] at hl'
  have hsz : S.size = (fm (r.t - first) N r).length := by rw [← hS, bl_len]
  cases hx : rd5 S first ((N : Int) + 1) with
  | error x => exact ⟨x, rfl⟩
  | ok y =>
    exfalso
    unfold rd5 at hx
    split at hx
    · cases hx
    · rename_i hb
      have e1 : ((N : Int) + 1).toNat = N + 1 := by omega
      rw [e1] at hx
      obtain ⟨h1, h2, h3, h4⟩ := (nxt_iff (by omega) (Nat.zero_le _) (by omega)).1 hx
      obtain ⟨T, h5⟩ : ∃ T, fm (r.t - first) N r = fm (y.1.t - first) (N + 1) y.1 ++ T := ⟨_, by rw [← hS]; have := stands_drop h1; rw [List.drop_zero] at this; exact this⟩
      have hL := h4
      unfold fm at hL hl' h5
      rw [List.append_assoc] at h5
      rw [List.length_append] at hL hl'
      obtain ⟨e2, e3⟩ := form_inj (by omega) (by omega) h5
      have hT : T.length = 0 := by have := congrArg List.length e3; rw [List.length_append] at this; omega
      rw [List.eq_nil_of_length_eq_zero hT, List.append_nil] at e3
      have := own_num hi h3.2.1 (by omega) (by omega) e3
      omega
theorem back_cut {r : Rec} {first : Int} {N m : Nat} {S : ByteArray} (hN : N < 65536) (hz : sze r first N = 0) (hS : bl S = fm (r.t - first) N r) (hm : m < S.size) : ∃ x, rd5 (S.extract 0 m) first N = .error x := by
  obtain ⟨_, hi, hh, hl'⟩ := sze_ok hz
  rw [Int.toNat_natCast] at hl'
  have hsz : S.size = (fm (r.t - first) N r).length := by rw [← hS, bl_len]
  have hz2 : (S.extract 0 m).size = m := by rw [ByteArray.size_extract]; omega
  cases hx : rd5 (S.extract 0 m) first N with
  | error x => exact ⟨x, rfl⟩
  | ok y =>
    exfalso
    unfold rd5 at hx
    split at hx
    · cases hx
    · rename_i hb
      rw [Int.toNat_natCast] at hx
      obtain ⟨h1, h2, h3, h4⟩ := (nxt_iff (by omega) (Nat.zero_le _) (by omega)).1 hx
      have hle := h1.1
      have h5 := stands_drop h1
      rw [List.drop_zero, bl_ext, List.drop_zero, Nat.sub_zero] at h5
      have h6 : bl S = (bl S).take m ++ (bl S).drop m := (List.take_append_drop m _).symm
      rw [h5, hS] at h6
      generalize List.drop (0 + (fm (y.1.t - first) N y.1).length) (List.take m (fm (r.t - first) N r)) = T1 at h6
      generalize List.drop m (fm (r.t - first) N r) = T2 at h6
      generalize hT : List.drop _ _ = T3 at h6
      have hL := h4
      have e0 : (fm (y.1.t - first) N y.1).length = (M.form (own (y.1.t - first) N y.1).length).length + (own (y.1.t - first) N y.1).length := by unfold fm; rw [List.length_append]
      have e0' : (fm (r.t - first) N r).length = (M.form (own (r.t - first) N r).length).length + (own (r.t - first) N r).length := by unfold fm; rw [List.length_append]
      unfold fm at h6
      simp only [List.append_assoc] at h6
      obtain ⟨e2, _⟩ := form_inj (by omega) (by omega) h6
      rw [e2] at e0'
      omega
end Go.Proofs.Ytoohmbkgdmmghaa
