/- Texts of the proof, put together: Byt, Fm5, Can5, RecOpen, Sam5, Spl5, Bck5, RecL, FitB, Bdy, Rbd, Rbe, RecW, Grt, Grx. -/
import Derived.Test.YtihokphamgkkcaaGreatMRd
import Derived.ProofKit
import Derived.OpenShut
import Derived.ShutString
import Derived.ChangeOld
import Derived.JoinedCond
import Derived.ChangeSame
import Derived.Deep.Slices
import Derived.Deep.Strs
import Derived.Laws.StructEq
namespace Go.Proofs.YtihokphamgkkcaaGreat
open Go.RowKit
/-- The form as a text, or none. -/
def bym (r : Rec) (first n : Int) : ByteArray := if sze r first n = 0 then bs (fm (r.t - first) n.toNat r) else ⟨#[]⟩
end Go.Proofs.YtihokphamgkkcaaGreat
namespace Go.Proofs.YtihokphamgkkcaaGreat
open Go.RowKit
def ex1 : Rec := ⟨3, true, ⟨#[]⟩, true, ⟨#[97, 98]⟩, []⟩
def ex2 : Rec := ⟨5, false, ⟨#[]⟩, false, ⟨#[]⟩, []⟩
theorem ex_a : bym ex1 5 1 = ⟨#[8, 0, 3, 1, 0, 4, 97, 98, 0]⟩ := by kernel_rfl
theorem ex_b : sze ex1 5 1 = 0 := by kernel_rfl
theorem ex_c : rd5 ⟨#[6, 0, 0, 0, 1, 1, 0]⟩ 5 0 = .ok (ex2, 7) := by kernel_rfl
theorem ex_d : rd5 ⟨#[6, 0, 0, 0, 1, 1, 0]⟩ 5 1 = .error 27 := by kernel_rfl
theorem ex_m : Mod ex1 := ⟨by decide, by decide, (by intro x hx; cases hx), by decide, by decide⟩
theorem ex_z : (⟨#[6, 0, 0, 0, 1, 1, 0]⟩ : ByteArray).size ≤ 9223372036854775807 := by decide
end Go.Proofs.YtihokphamgkkcaaGreat
namespace Go.Proofs.YtihokphamgkkcaaGreat
open Go.RowKit
theorem cl_le {h : Bool} {d : ByteArray} (hc : Cl h d) : d.size ≤ (ol h d).length := by
  cases h with
  | false => rw [hc rfl]; exact Nat.zero_le _
  | true => exact (ol_ge true d).2 rfl
theorem hl_mem {hs : List Hdr} {x : Hdr} (h : x ∈ hs) : (hl1 x).length ≤ (hl hs).length := by
  induction hs with
  | nil => cases h
  | cons y l ih =>
    have e : hl (y :: l) = hl1 y ++ hl l := by simp [hl]
    rw [e, List.length_append]
    rcases List.mem_cons.1 h with rfl | h
    · omega
    · have := ih h; omega
theorem fm_len (d : Int) (n : Nat) (r : Rec) : (ol r.kh r.kd).length + (ol r.vh r.vd).length + (hl r.hs).length + 5 ≤ (fm d n r).length ∧ 7 ≤ (fm d n r).length := by
  have h1 := M.form_pos (M.zz d).toNat
  have h2 := M.form_pos n
  have h3 := M.form_pos r.hs.length
  have h4 := M.form_pos (own d n r).length
  have h5 := (ol_ge r.kh r.kd).1
  have h6 := (ol_ge r.vh r.vd).1
  have e : (fm d n r).length = (M.form (own d n r).length).length + (own d n r).length := by unfold fm; rw [List.length_append]
  have e2 : (own d n r).length = 1 + ((M.form (M.zz d).toNat).length + ((M.form n).length + ((ol r.kh r.kd).length + ((ol r.vh r.vd).length + ((M.form r.hs.length).length + (hl r.hs).length))))) := by
    simp only [own, List.length_append, List.length_cons, List.length_nil]
  omega
theorem good_mod {first : Int} {n : Nat} {r : Rec} (h : Good first r) (hl' : (fm (r.t - first) n r).length ≤ 16777216) : Mod r := by
  obtain ⟨_, _, h3, h4, h5, h6⟩ := h
  have hf := (fm_len (r.t - first) n r).1
  have a := cl_le h3
  have b := cl_le h4
  refine ⟨by omega, by omega, fun x hx => ?_, by omega, by omega⟩
  have c := cl_le (h6 x hx)
  have d := hl_mem hx
  unfold hl1 at d
  rw [List.length_append] at d
  omega
theorem canon5 {s : ByteArray} {first : Int} {N : Nat} {y : Rec} {ky : Nat} (hs : s.size ≤ 9223372036854775807) (hN : N < 65536) (h : nxt s 0 first N = .ok (y, ky)) :
    sze y first N = 0 ∧ szn y first N = ky ∧ bym y first N = s.extract 0 ky ∧ 7 ≤ ky ∧ ky ≤ s.size ∧ Mod y ∧ I64 y.t := by
  obtain ⟨h1, h2, h3, h4⟩ := (nxt_iff hs (Nat.zero_le _) (by omega)).1 h
  rw [Nat.zero_add] at h2
  have e : sze y first N = 0 := by
    unfold sze
    rw [if_neg (by omega), if_neg (by simpa using h3.2.1), if_neg (by have := h3.2.2.2.2.1; omega), Int.toNat_natCast, if_neg (by omega)]
  refine ⟨e, ?_, ?_, ?_, ?_, good_mod h3 h4, h3.1⟩
  · unfold szn; rw [if_pos e, Int.toNat_natCast, h2]
  · unfold bym
    rw [if_pos e, Int.toNat_natCast, h2]
    apply bl_inj
    have hb : ∀ b ∈ fm (y.t - first) N y, b < 256 := fun b hb => by
      have := h1.2
      rw [← this] at hb
      exact bl_byte s b (List.mem_of_mem_drop (List.mem_of_mem_take hb))
    rw [bl_bs _ hb, bl_ext, Nat.sub_zero]
    exact h1.2.symm
  · rw [h2]; exact (fm_len _ _ _).2
  · have := h1.1; omega
end Go.Proofs.YtihokphamgkkcaaGreat
namespace Go.Proofs.YtihokphamgkkcaaGreat
open Go.ChangeShapes Go.WideShapes Go.ChangeAt Go.RowKit Go.Deep
theorem Tryz.cOpt : Tryz.prog.cellsOf 46 = 2 := by kernel_rfl
theorem Tryz.cHdr : Tryz.prog.cellsOf 51 = 3 := by kernel_rfl
theorem Tryz.cRec : Tryz.prog.cellsOf 49 = 6 := by kernel_rfl
theorem Tryz.cStr : Tryz.prog.cellsOf 9 = 1 := by kernel_rfl
theorem Tryz.cBool : Tryz.prog.cellsOf 4 = 1 := by kernel_rfl
theorem Tryz.cI64 : Tryz.prog.cellsOf 2 = 1 := by kernel_rfl
theorem Tryz.cHds : Tryz.prog.cellsOf 47 = 1 := by kernel_rfl
variable {H : Type} {enc : TypeId × Value → H} {W : World}
theorem take1 {cs : List Value} {v : Value} {k : Nat} (h : (cs.drop k).take 1 = [v]) : cs[k]? = some v := by
  have := congrArg (fun l => l[0]?) h
  simpa using this
theorem open_opt {fuel : Nat} {cs : List Value} {x : DataW H × List MemPlace} (h : DataW.trod enc Tryz.prog W 0 (fun _ => true) true fuel 46 cs = some x) : ∃ (b : Bool) (d : ByteArray), cs = [.bool b, .string d] ∧ d.size + 1 ≤ Rows.uptoBulk x.1 ∧ d.size ≤ maxLen := by
  obtain ⟨y0, y1, n, rfl, hlen, k0, k1⟩ := trod_struct2 Tryz.underlying46 h
  rw [Tryz.cOpt] at hlen
  simp only [Tryz.cBool, Tryz.cStr] at k0 k1
  obtain ⟨b, q0, r0⟩ := DataW.trod_bool Tryz.underlying4 k0
  obtain ⟨d, q1, r1, w1⟩ := DataW.trod_string Tryz.underlying9 k1
  match cs, hlen with
  | [u, v], _ =>
    simp at q0 q1
    subst q0 q1
    refine ⟨b, d, rfl, ?_, w1⟩
    rw [r0, r1]
    simp [Rows.uptoBulk, Rows.uptoBulkAll]
    try omega
theorem open_hdr {fuel : Nat} {cs : List Value} {x : DataW H × List MemPlace} (h : DataW.trod enc Tryz.prog W 0 (fun _ => true) true fuel 51 cs = some x) : ∃ y : Hdr, cs = hc1 y ∧ y.1.size + 1 + (y.2.2.size + 1) ≤ Rows.uptoBulk x.1 := by
  obtain ⟨y0, y1, n, rfl, hlen, k0, k1⟩ := trod_struct2 Tryz.underlying51 h
  rw [Tryz.cHdr] at hlen
  simp only [Tryz.cOpt, Tryz.cStr] at k0 k1
  obtain ⟨d, q0, r0, _⟩ := DataW.trod_string Tryz.underlying9 k0
  obtain ⟨b, e, q1, r1, _⟩ := open_opt k1
  match cs, hlen with
  | [u, v, z], _ =>
    simp at q0 q1
    obtain ⟨q1, q2⟩ := q1
    subst q0 q1 q2
    refine ⟨(d, b, e), rfl, ?_⟩
    rw [r0]
    simp [Rows.uptoBulk, Rows.uptoBulkAll]
    omega
/-- All bytes of the headers, and one for each text. -/
def hbk (hs : List Hdr) : Nat := (hs.map fun r => r.1.size + 1 + (r.2.2.size + 1)).sum
theorem hbk_mem {hs : List Hdr} {r : Hdr} (h : r ∈ hs) : r.1.size + 1 + (r.2.2.size + 1) ≤ hbk hs := by
  induction hs with
  | nil => simp at h
  | cons x l ih =>
    rcases List.mem_cons.1 h with e | e
    · subst e; simp [hbk]
    · have := ih e
      simp only [hbk, List.map_cons, List.sum_cons] at *
      omega
theorem hbk_len (hs : List Hdr) : hs.length ≤ hbk hs := by
  induction hs with
  | nil => simp [hbk]
  | cons x l ih => simp only [hbk, List.map_cons, List.sum_cons, List.length_cons] at *; omega
theorem ol_le (h : Bool) (d : ByteArray) : (ol h d).length ≤ 10 + d.size := by
  unfold ol
  split
  · rw [List.length_append, bl_len]; have := M.form_le (2 * d.size); omega
  · simp; omega
theorem hbk_hl (hs : List Hdr) : (hl hs).length ≤ 20 * hbk hs := by
  induction hs with
  | nil => simp [hl]
  | cons x l ih =>
    rw [hl_cons, List.length_append, List.length_append]
    have h1 := ol_le x.2.1 x.2.2
    have h2 : (tx x.1).length ≤ 10 + x.1.size := by unfold tx; rw [List.length_append, bl_len]; have := M.form_le x.1.size; omega
    simp only [hbk, List.map_cons, List.sum_cons] at *
    omega
theorem sum_leh {H : Type} (f : Nat → Hdr) (D : Nat → DataW H) : ∀ (l : List Nat), (∀ i ∈ l, (f i).1.size + 1 + ((f i).2.2.size + 1) ≤ Rows.uptoBulk (D i)) → hbk (l.map f) ≤ Rows.uptoBulkAll (l.map D)
  | [], _ => by simp [hbk, Rows.uptoBulkAll]
  | i :: l, h => by
    have ih := sum_leh f D l (fun j hj => h j (List.mem_cons_of_mem _ hj))
    have h0 := h i (List.mem_cons_self ..)
    simp only [hbk, List.map_cons, List.sum_cons, Rows.uptoBulkAll] at ih ⊢
    omega
theorem open_hds {fuel : Nat} {cs : List Value} {x : DataW H × List MemPlace} (h : DataW.trod enc Tryz.prog W 0 (fun _ => true) true fuel 47 cs = some x) : ∃ (a : Option Addr) (cap : Nat) (hs : List Hdr), cs = [.slice a hs.length cap] ∧ Hds W a hs ∧ hbk hs ≤ Rows.uptoBulk x.1 ∧ hs.length ≤ 9223372036854775807 ∧ (a = none → cap = 0) := by
  rcases open_slice Tryz.underlying47 h with ⟨hcs', hx⟩ | ⟨x', l, c, m, n, D, Pl, hcs', _, hl', hm, hmm, hx, hel⟩
  · exact ⟨none, 0, [], by simpa using hcs', Or.inl rfl, Nat.zero_le _, by simp, fun _ => rfl⟩
  · simp only [if_true] at hmm
    subst hx
    have each : ∀ i, i < l → ∃ o : Hdr, W.cell? ((x'.add (i * 3)).add 0) = some (.string o.1) ∧ W.cell? ((x'.add (i * 3)).add 1) = some (.bool o.2.1) ∧ W.cell? ((x'.add (i * 3)).add 2) = some (.string o.2.2) ∧ o.1.size + 1 + (o.2.2.size + 1) ≤ Rows.uptoBulk (D i) := by
      intro i hi
      obtain ⟨cs', e1, e2⟩ := hel i (by omega)
      rw [Tryz.cHdr] at e1
      obtain ⟨y, hy, hb⟩ := open_hdr e2
      have g := (World.cells?_some e1)
      refine ⟨y, ?_, ?_, ?_, hb⟩
      · rw [g.2.2 0 (by omega), hy]; rfl
      · rw [g.2.2 1 (by omega), hy]; rfl
      · rw [g.2.2 2 (by omega), hy]; rfl
    obtain ⟨f, hf⟩ := choose_lt each
    refine ⟨some x', c, (List.range l).map f, by simpa using hcs', ?_, ?_, ?_, fun h => by cases h⟩
    · by_cases h0 : l = 0
      · left; subst h0; rfl
      · right
        obtain ⟨b, off, spot⟩ := x'
        have h00 := (hf 0 (by omega)).1
        have hspot : spot = none := by simpa [Addr.add] using World.cell?_spot h00
        subst hspot
        have hlt := World.block_lt_of_cell? _ _ h00
        refine ⟨b, off, rfl, by simpa [Addr.add] using hlt, fun j hj => ?_⟩
        have hj' : j < l := by simpa using hj
        obtain ⟨k0, k1, k2, _⟩ := hf j hj'
        rw [Go.WideShapes.add_plain, Go.WideShapes.add_plain] at k0 k1 k2
        have eg : ((List.range l).map f).getD j df = f j := by
          rw [List.getD_eq_getElem?_getD, List.getElem?_map, List.getElem?_range hj']
          rfl
        rw [eg]
        exact ⟨by simpa using k0, k1, k2⟩
    · have := sum_leh f D (List.range l) (fun i hi => (hf i (by simpa using hi)).2.2.2)
      simp only [Rows.uptoBulk]
      have hle : l = m ∨ l ≤ m := by omega
      have := this
      subst hmm
      omega
    · simp
      unfold maxLen at hm
      omega
set_option maxRecDepth 20000 in
theorem open_rec {fuel : Nat} {cs : List Value} {x : DataW H × List MemPlace} (h : DataW.trod enc Tryz.prog W 0 (fun _ => true) true fuel 49 cs = some x) : ∃ (r : Rec) (a : Option Addr) (cap : Nat), cs = [.int .i64 r.t, .bool r.kh, .string r.kd, .bool r.vh, .string r.vd, .slice a r.hs.length cap] ∧ Hds W a r.hs ∧ r.kd.size + r.vd.size + hbk r.hs + 1 ≤ Rows.uptoBulk x.1 ∧ r.hs.length ≤ 9223372036854775807 ∧ (Lit.int .i64 r.t).wf = true ∧ (a = none → cap = 0) := by
  obtain ⟨xs, n, _, rfl, hlen, hxs, hf⟩ := DataW.trod_struct Tryz.underlying49 h
  rw [Tryz.cRec] at hlen
  match xs, hxs with
  | [y0, y1, y2, y3], _ =>
    have k0 : DataW.trod enc Tryz.prog W 0 (fun _ => true) true n 2 ((cs.drop 0).take (Tryz.prog.cellsOf 2)) = some y0 := hf 0 _ rfl
    have k1 : DataW.trod enc Tryz.prog W 0 (fun _ => true) true n 46 ((cs.drop 1).take (Tryz.prog.cellsOf 46)) = some y1 := hf 1 _ rfl
    have k2 : DataW.trod enc Tryz.prog W 0 (fun _ => true) true n 46 ((cs.drop 3).take (Tryz.prog.cellsOf 46)) = some y2 := hf 2 _ rfl
    have k3 : DataW.trod enc Tryz.prog W 0 (fun _ => true) true n 47 ((cs.drop 5).take (Tryz.prog.cellsOf 47)) = some y3 := hf 3 _ rfl
    rw [Tryz.cI64] at k0
    rw [Tryz.cOpt] at k1 k2
    rw [Tryz.cHds] at k3
    obtain ⟨t, q0, r0, w0⟩ := DataW.trod_int Tryz.underlying2 k0
    obtain ⟨kh, kd, q1, r1, _⟩ := open_opt k1
    obtain ⟨vh, vd, q2, r2, _⟩ := open_opt k2
    obtain ⟨a, cap, hs, q3, V, r3, hl3, hn3⟩ := open_hds k3
    match cs, hlen with
    | [c0, c1, c2, c3, c4, c5], _ =>
      simp at q0 q1 q2 q3
      obtain ⟨q1, q1'⟩ := q1
      obtain ⟨q2, q2'⟩ := q2
      subst q0 q1 q1' q2 q2' q3
      refine ⟨⟨t, kh, kd, vh, vd, hs⟩, a, cap, rfl, V, ?_, hl3, w0, hn3⟩
      simp [Rows.uptoBulk, Rows.uptoBulkAll]
      omega
theorem mod_of {r : Rec} (h : r.kd.size + r.vd.size + hbk r.hs ≤ 1048576) : Mod r := by
  have h1 := ol_le r.kh r.kd
  have h2 := ol_le r.vh r.vd
  have h3 := hbk_hl r.hs
  have h4 := hbk_len r.hs
  exact ⟨by omega, by omega, fun x hx => by have := hbk_mem hx; omega, by omega, by omega⟩
end Go.Proofs.YtihokphamgkkcaaGreat
namespace Go.Proofs.YtihokphamgkkcaaGreat
open Go.RowKit
/-- What a text that may be null says. -/
def bd (h : Bool) (d : ByteArray) : ByteArray := if h then d else ⟨#[]⟩
set_option maxHeartbeats 1000000 in
set_option maxRecDepth 20000 in
theorem bare_any (h : Bool) (d : ByteArray) (w : World) :
    Calls Tryz.prog 80 #[.agg #[.bool h, .string d]] w fun e w' => e = .returned (.agg #[.bool h, .string (bd h d)]) ∧ Below w.heap.size w w' := by
  cases h with
  | false =>
    go_enter Tryz.func80, Tryz.ntmps80
    go_wp2_with fail
    exact bodyPost_ret (v := .agg #[.bool false, .string ⟨#[]⟩]) (by simp [results, Tryz.results80, go_sem]) rfl ⟨rfl, ((Below.refl _ w).alloc (Nat.le_refl _) _).alloc (by simp) _⟩
  | true =>
    go_enter Tryz.func80, Tryz.ntmps80
    go_wp2_with fail
    exact bodyPost_ret (v := .agg #[.bool true, .string d]) (by simp [results, Tryz.results80, go_sem]) rfl ⟨rfl, ((Below.refl _ w).alloc (Nat.le_refl _) _).alloc (by simp) _⟩
theorem bareB (h : Bool) (d : ByteArray) (B : Nat) (w0 w : World) (hB : B ≤ w0.heap.size) (hb : Below B w0 w) :
    Calls Tryz.prog 80 #[.agg #[.bool h, .string d]] w fun e w' => e = .returned (.agg #[.bool h, .string (bd h d)]) ∧ Below B w0 w' :=
  (bare_any h d w).mono fun _ _ h => ⟨h.1, bel_next hb hB h.2⟩
theorem Tryz.optStruct : Tryz.prog.underlying 46 = some (.struct (Tryz.prog.fieldsOf 46)) := by kernel_rfl
theorem Tryz.optHeld : Tryz.prog.stoodInHeld 46 = false := by kernel_rfl
theorem Tryz.optGuard : Tryz.prog.eqGuardType Tryz.prog.depth 46 = false := by kernel_rfl
set_option maxRecDepth 20000 in
theorem neq_opt (b : Bool) (d : ByteArray) (w : World) : (binOp .neq 46 (.agg #[.bool b, .string d]) (.agg #[.bool b, .string d])).run Tryz.prog w = .ok (.bool false) w := by
  rw [run_neq_struct, run_equalIn_agg w 9999 _ _ _ Tryz.optStruct Tryz.optHeld]
  have hf : (Tryz.prog.fieldsOf 46) = (match Tryz.prog.underlying 46 with | some (.struct fs) => fs | _ => #[]) := rfl
  rw [hf, Tryz.underlying46]
  simp [go_sem, Op.eqFields, Tryz.underlying9, Tryz.underlying4]
theorem Tryz.hdrStruct : Tryz.prog.underlying 51 = some (.struct (Tryz.prog.fieldsOf 51)) := by kernel_rfl
theorem Tryz.hdrHeld : Tryz.prog.stoodInHeld 51 = false := by kernel_rfl
theorem Tryz.hdrGuard : Tryz.prog.eqGuardType Tryz.prog.depth 51 = false := by kernel_rfl
set_option maxRecDepth 20000 in
theorem neq_hdr (k : ByteArray) (b : Bool) (d : ByteArray) (w : World) : (binOp .neq 51 (.agg #[.string k, .bool b, .string d]) (.agg #[.string k, .bool b, .string d])).run Tryz.prog w = .ok (.bool false) w := by
  rw [run_neq_struct, run_equalIn_agg w 9999 _ _ _ Tryz.hdrStruct Tryz.hdrHeld]
  have hf : (Tryz.prog.fieldsOf 51) = (match Tryz.prog.underlying 51 with | some (.struct fs) => fs | _ => #[]) := rfl
  rw [hf, Tryz.underlying51]
  simp [go_sem, Op.eqFields, Tryz.underlying9, Tryz.underlying4, Tryz.underlying46]
theorem store3 {x : World} {A R : Nat} {o : Obj} {v0 v1 v2 : Value} (h : x.heap[A]? = some o) (hne : A ≠ R) :
    (((x.setCell ⟨R, 0, none⟩ v0).setCell ⟨R, 1, none⟩ v1).setCell ⟨R, 2, none⟩ v2).heap[A]? = some o :=
  heap_set_far (heap_set_far (heap_set_far h hne) hne) hne
set_option maxHeartbeats 800000 in
set_option maxRecDepth 20000 in
theorem bareh_any (k : ByteArray) (h : Bool) (d : ByteArray) (w : World) :
    Calls Tryz.prog 81 #[.agg #[.string k, .bool h, .string d]] w fun e w' => e = .returned (.agg #[.string k, .bool h, .string (bd h d)]) ∧ Below w.heap.size w w' := by
  go_enter Tryz.func81, Tryz.ntmps81
  go_wp2_with fail
  have h1 : ((w.alloc (.cells #[.string k, .bool h, .string d] 51)).alloc (.cells #[.string ⟨#[]⟩, .bool false, .string ⟨#[]⟩] 51)).heap[w.heap.size]? = some (.cells #[.string k, .bool h, .string d] 51 (0, 0)) := heap_alloc_at (heap_new _ _)
  have h2 : ((w.alloc (.cells #[.string k, .bool h, .string d] 51)).alloc (.cells #[.string ⟨#[]⟩, .bool false, .string ⟨#[]⟩] 51)).heap[w.heap.size + 1]? = some (.cells #[.string ⟨#[]⟩, .bool false, .string ⟨#[]⟩] 51 (0, 0)) := heap_new' _ _ _ (by simp)
  have hb1 : Below w.heap.size w ((w.alloc (.cells #[.string k, .bool h, .string d] 51)).alloc (.cells #[.string ⟨#[]⟩, .bool false, .string ⟨#[]⟩] 51)) := ((Below.refl _ w).alloc (Nat.le_refl _) _).alloc (by simp) _
  have hs1 : ((w.alloc (.cells #[.string k, .bool h, .string d] 51)).alloc (.cells #[.string ⟨#[]⟩, .bool false, .string ⟨#[]⟩] 51)).heap.size = w.heap.size + 2 := by simp
  generalize (w.alloc (.cells #[.string k, .bool h, .string d] 51)).alloc (.cells #[.string ⟨#[]⟩, .bool false, .string ⟨#[]⟩] 51) = W2 at *
  have hB : w.heap.size + 2 ≤ W2.heap.size := by omega
  have C1 : Hid (∀ x, Below (w.heap.size + 2) W2 x → Calls Tryz.prog 80 #[.agg #[.bool h, .string d]] x fun e w' => e = .returned (.agg #[.bool h, .string (bd h d)]) ∧ Hid (Below (w.heap.size + 2) W2 w') ∧ w'.heap[w.heap.size]? = some (.cells #[.string k, .bool h, .string d] 51 (0, 0)) ∧ Hid (w'.heap[w.heap.size + 1]? = some (.cells #[.string ⟨#[]⟩, .bool false, .string ⟨#[]⟩] 51 (0, 0))) ∧ w'.cell? ⟨w.heap.size + 1, 0, none⟩ = some (.string ⟨#[]⟩) ∧ w'.cell? ⟨w.heap.size + 1, 1, none⟩ = some (.bool false) ∧ w'.cell? ⟨w.heap.size + 1, 2, none⟩ = some (.string ⟨#[]⟩) ∧ w'.frozen? ⟨w.heap.size + 1, 0, none⟩ = false ∧ w'.frozen? ⟨w.heap.size + 1, 1, none⟩ = false ∧ w'.frozen? ⟨w.heap.size + 1, 2, none⟩ = false) := by
    intro x hx
    refine (bareB h d (w.heap.size + 2) W2 x hB hx).mono ?_
    rintro e w' ⟨rfl, hb⟩
    have r1 := (hb.block (w.heap.size + 1) (by omega)).trans h2
    have m := cells3 r1
    exact ⟨rfl, hb, (hb.block w.heap.size (by omega)).trans h1, r1, m.1, m.2.1, m.2.2, froz_of r1, froz_of r1, froz_of r1⟩
  have HB1 := hid hb1
  have h0 : Below (w.heap.size + 2) W2 W2 := Below.refl _ _
  have h0' : Below (w.heap.size + 2) W2 W2.drew := h0.drew
  have H1 := hid h1
  have H1' : Hid (W2.drew.heap[w.heap.size]? = some (.cells #[.string k, .bool h, .string d] 51 (0, 0))) := h1
  have y1 : w.heap.size ≠ w.heap.size + 1 := by omega
  clear h1 h2 hb1
  go_region_held3 (fun x => x.cell? ⟨w.heap.size, 0, none⟩ = some (.string k) ∧ x.cell? ⟨w.heap.size, 1, none⟩ = some (.bool h) ∧ x.cell? ⟨w.heap.size, 2, none⟩ = some (.string d)) (first | with_reducible exact cells3 H1.out | with_reducible exact cells3 H1'.out | with_reducible exact cells3 g1 | with_reducible exact cells3 (store3 g1 y1)) (first | (go_at_call 80; refine (C1.out _ (by assumption)).mono ?_; rintro e w' ⟨rfl, hbel, g1, r1, m0, m1, m2, n0, n1, n2⟩))
  have f11 : (((w'.setCell ⟨w.heap.size + 1, 0, none⟩ (.string k)).setCell ⟨w.heap.size + 1, 1, none⟩ (.bool h)).setCell ⟨w.heap.size + 1, 2, none⟩ (.string (bd h d))).heap[w.heap.size + 1]? = some (.cells #[.string k, .bool h, .string (bd h d)] 51 (0, 0)) := heap_set (heap_set (heap_set r1.out))
  obtain ⟨j0, j1, j2⟩ := cells3 f11
  clear f11 m0 m1 m2 n0 n1 n2
  have HF : Hid (Below w.heap.size w (((w'.setCell ⟨w.heap.size + 1, 0, none⟩ (.string k)).setCell ⟨w.heap.size + 1, 1, none⟩ (.bool h)).setCell ⟨w.heap.size + 1, 2, none⟩ (.string (bd h d)))) := (((HB1.out.trans (hbel.out.mono (by omega))).setCell (by show w.heap.size ≤ w.heap.size + 1; omega) _).setCell (by show w.heap.size ≤ w.heap.size + 1; omega) _).setCell (by show w.heap.size ≤ w.heap.size + 1; omega) _
  go_wp2_with fail
  exact bodyPost_ret (v := .agg #[.string k, .bool h, .string (bd h d)]) (by simp [results, Tryz.results81, go_sem, j0, j1, j2]) rfl ⟨rfl, HF.out⟩
theorem barehB (k : ByteArray) (h : Bool) (d : ByteArray) (B : Nat) (w0 w : World) (hB : B ≤ w0.heap.size) (hb : Below B w0 w) :
    Calls Tryz.prog 81 #[.agg #[.string k, .bool h, .string d]] w fun e w' => e = .returned (.agg #[.string k, .bool h, .string (bd h d)]) ∧ Below B w0 w' :=
  (bareh_any k h d w).mono fun _ _ h => ⟨h.1, bel_next hb hB h.2⟩
theorem held12 {w0 x : World} {B P Q : Nat} {T : TypeId} {v0 v1 v2 v3 v4 v5 u0 u1 u2 u3 u4 u5 : Value} (h : w0.heap[P]? = some (.cells #[v0, v1, v2, v3, v4, v5] T (0, 0))) (k : w0.heap[Q]? = some (.cells #[u0, u1, u2, u3, u4, u5] T (0, 0))) (hP : P < B) (hQ : Q < B) (hb : Below B w0 x) :
    ((x.cell? ⟨P, 0, none⟩ = some v0 ∧ x.cell? ⟨P, 1, none⟩ = some v1 ∧ x.cell? ⟨P, 2, none⟩ = some v2 ∧ x.cell? ⟨P, 3, none⟩ = some v3 ∧ x.cell? ⟨P, 4, none⟩ = some v4 ∧ x.cell? ⟨P, 5, none⟩ = some v5) ∧ (x.cell? ⟨Q, 0, none⟩ = some u0 ∧ x.cell? ⟨Q, 1, none⟩ = some u1 ∧ x.cell? ⟨Q, 2, none⟩ = some u2 ∧ x.cell? ⟨Q, 3, none⟩ = some u3 ∧ x.cell? ⟨Q, 4, none⟩ = some u4 ∧ x.cell? ⟨Q, 5, none⟩ = some u5)) ∧ Below B w0 x :=
  ⟨⟨cells6 ((hb.block P hP).trans h), cells6 ((hb.block Q hQ).trans k)⟩, hb⟩
set_option maxHeartbeats 800000 in
set_option maxRecDepth 20000 in
theorem same_yes (t : Int) (kh vh : Bool) (kd kd2 vd vd2 : ByteArray) (hs hs2 : List Hdr) (a1 a2 : Option Addr) (cap1 cap2 : Nat) (w : World) (V1 : Hds w a1 hs) (V2 : Hds w a2 hs2) (hz : hs.length ≤ 9223372036854775807) (hK : bd kh kd2 = bd kh kd) (hV : bd vh vd2 = bd vh vd) (hl2 : hs2.length = hs.length)
    (hH : ∀ j, j < hs.length → (hs2.getD j df).1 = (hs.getD j df).1 ∧ (hs2.getD j df).2.1 = (hs.getD j df).2.1 ∧ bd (hs2.getD j df).2.1 (hs2.getD j df).2.2 = bd (hs.getD j df).2.1 (hs.getD j df).2.2) :
    Calls Tryz.prog 43 #[.agg #[.int .i64 t, .bool kh, .string kd, .bool vh, .string vd, .slice a1 hs.length cap1], .agg #[.int .i64 t, .bool kh, .string kd2, .bool vh, .string vd2, .slice a2 hs.length cap2]] w fun e w' => e = .returned (.bool true) ∧ Below w.heap.size w w' := by
  have n1 : ∀ w, (binOp .neq 46 (.agg #[.bool kh, .string (bd kh kd)]) (.agg #[.bool kh, .string (bd kh kd2)])).run Tryz.prog w = .ok (.bool false) w := fun w => by rw [hK]; exact neq_opt _ _ w
  have n2 : ∀ w, (binOp .neq 46 (.agg #[.bool vh, .string (bd vh vd)]) (.agg #[.bool vh, .string (bd vh vd2)])).run Tryz.prog w = .ok (.bool false) w := fun w => by rw [hV]; exact neq_opt _ _ w
  have g1 := fun x y w => run_eqGuard_agg (P := Tryz.prog) w BinOp.neq 46 x y #[.bool kh, .string (bd kh kd)] #[.bool kh, .string (bd kh kd2)] Tryz.optGuard
  have g2 := fun x y w => run_eqGuard_agg (P := Tryz.prog) w BinOp.neq 46 x y #[.bool vh, .string (bd vh vd)] #[.bool vh, .string (bd vh vd2)] Tryz.optGuard
  have HH := hid hH
  have HV1 := hid V1
  have HV2 := hid V2
  have HL2 := hid hl2
  clear hH V1 V2 hK hV hl2
  go_enter Tryz.func43, Tryz.ntmps43
  go_wp2_with fail
  have h1 : ((w.alloc (.cells #[.int .i64 t, .bool kh, .string kd, .bool vh, .string vd, .slice a1 hs.length cap1] 49)).alloc (.cells #[.int .i64 t, .bool kh, .string kd2, .bool vh, .string vd2, .slice a2 hs.length cap2] 49)).heap[w.heap.size]? = some (.cells #[.int .i64 t, .bool kh, .string kd, .bool vh, .string vd, .slice a1 hs.length cap1] 49 (0, 0)) := heap_alloc_at (heap_new _ _)
  have h2 : ((w.alloc (.cells #[.int .i64 t, .bool kh, .string kd, .bool vh, .string vd, .slice a1 hs.length cap1] 49)).alloc (.cells #[.int .i64 t, .bool kh, .string kd2, .bool vh, .string vd2, .slice a2 hs.length cap2] 49)).heap[w.heap.size + 1]? = some (.cells #[.int .i64 t, .bool kh, .string kd2, .bool vh, .string vd2, .slice a2 hs.length cap2] 49 (0, 0)) := heap_new' _ _ _ (by simp)
  have hb1 : Below w.heap.size w ((w.alloc (.cells #[.int .i64 t, .bool kh, .string kd, .bool vh, .string vd, .slice a1 hs.length cap1] 49)).alloc (.cells #[.int .i64 t, .bool kh, .string kd2, .bool vh, .string vd2, .slice a2 hs.length cap2] 49)) := ((Below.refl _ w).alloc (Nat.le_refl _) _).alloc (by simp) _
  have hs1 : ((w.alloc (.cells #[.int .i64 t, .bool kh, .string kd, .bool vh, .string vd, .slice a1 hs.length cap1] 49)).alloc (.cells #[.int .i64 t, .bool kh, .string kd2, .bool vh, .string vd2, .slice a2 hs.length cap2] 49)).heap.size = w.heap.size + 2 := by simp
  generalize (w.alloc (.cells #[.int .i64 t, .bool kh, .string kd, .bool vh, .string vd, .slice a1 hs.length cap1] 49)).alloc (.cells #[.int .i64 t, .bool kh, .string kd2, .bool vh, .string vd2, .slice a2 hs.length cap2] 49) = W2 at *
  have hB : w.heap.size + 2 ≤ W2.heap.size := by omega
  have HB1 := hid hb1
  have h0 : Below (w.heap.size + 2) W2 W2 := Below.refl _ _
  have H1 := hid h1
  have H2 := hid h2
  have y1 : w.heap.size < w.heap.size + 2 := by omega
  have y2 : w.heap.size + 1 < w.heap.size + 2 := by omega
  clear h1 h2 hb1
  go_region_held3 (fun x => ((x.cell? ⟨w.heap.size, 0, none⟩ = some (.int .i64 t) ∧ x.cell? ⟨w.heap.size, 1, none⟩ = some (.bool kh) ∧ x.cell? ⟨w.heap.size, 2, none⟩ = some (.string kd) ∧ x.cell? ⟨w.heap.size, 3, none⟩ = some (.bool vh) ∧ x.cell? ⟨w.heap.size, 4, none⟩ = some (.string vd) ∧ x.cell? ⟨w.heap.size, 5, none⟩ = some (.slice a1 hs.length cap1)) ∧ (x.cell? ⟨w.heap.size + 1, 0, none⟩ = some (.int .i64 t) ∧ x.cell? ⟨w.heap.size + 1, 1, none⟩ = some (.bool kh) ∧ x.cell? ⟨w.heap.size + 1, 2, none⟩ = some (.string kd2) ∧ x.cell? ⟨w.heap.size + 1, 3, none⟩ = some (.bool vh) ∧ x.cell? ⟨w.heap.size + 1, 4, none⟩ = some (.string vd2) ∧ x.cell? ⟨w.heap.size + 1, 5, none⟩ = some (.slice a2 hs.length cap2))) ∧ Below (w.heap.size + 2) W2 x) (first | with_reducible exact held12 H1.out H2.out y1 y2 (by assumption) | with_reducible exact held12 H1.out H2.out y1 y2 (Below.drew (by assumption))) (first | (go_at_call 80; refine (bareB _ _ (w.heap.size + 2) W2 _ hB ?_).mono ?_; (first | assumption | exact Below.drew (by assumption)); rintro e w' ⟨rfl, hbel⟩))
  rename_i hHeld
  obtain ⟨⟨⟨_, _, _, _, _, c5⟩, ⟨_, _, _, _, _, d5⟩⟩, hbx⟩ := hHeld
  clear n1 n2 g1 g2
  go_wp2_with fail
  go_loopg [5, 42] hs.length (fun k _ i wr => ∃ j : Nat, j + k = hs.length ∧ i = .int .i64 j ∧ Hid (Below (w.heap.size + 2) W2 wr))
  case atStart => exact ⟨0, by omega, rfl, hbx⟩
  case round =>
    obtain ⟨j, hk, rfl, HB⟩ := hrel
    by_cases hlt : j < hs.length
    · obtain ⟨k, rfl⟩ : ∃ k, gk = k + 1 := ⟨gk - 1, by omega⟩
      obtain ⟨e1, e2, e3⟩ := HH.out j hlt
      rcases HV1.out with h | ⟨b, off, rfl, hbl, hc⟩
      · rw [h] at hlt; simp at hlt
      rcases HV2.out with h | ⟨b2, off2, rfl, hbl2, hc2⟩
      · have := HL2.out; rw [h] at this; simp at this; omega
      obtain ⟨q0, q1, q2⟩ := hc j hlt
      obtain ⟨p0, p1, p2⟩ := hc2 j (by have := HL2.out; omega)
      have hcw : ∀ b o, b < w.heap.size → wr.cell? ⟨b, o, none⟩ = w.cell? ⟨b, o, none⟩ := fun b o h => (HB.out.cell (p := ⟨b, o, none⟩) (by show b < _; omega)).trans (HB1.out.cell (p := ⟨b, o, none⟩) h)
      generalize hs.getD j df = x at *
      generalize hs2.getD j df = z at *
      obtain ⟨xk, xh, xd⟩ := x
      obtain ⟨zk, zh, zd⟩ := z
      simp only at q0 q1 q2 p0 p1 p2 e1 e2 e3
      subst e1 e2
      have l0 := (hcw b (off + j * 3) hbl).trans q0
      have l1 := (hcw b (off + j * 3 + 1) hbl).trans q1
      have l2 := (hcw b (off + j * 3 + 2) hbl).trans q2
      have o0 := (hcw b2 (off2 + j * 3) hbl2).trans p0
      have o1 := (hcw b2 (off2 + j * 3 + 1) hbl2).trans p1
      have o2 := (hcw b2 (off2 + j * 3 + 2) hbl2).trans p2
      have o5 : wr.cell? ⟨w.heap.size + 1, 5, none⟩ = some (.slice (some ⟨b2, off2, none⟩) hs.length cap2) := held_at H2.out y2 rfl HB.out
      have hbw := HB.out.size
      have i1 : (0 : Int) ≤ (j : Int) := by omega
      have i2 : (j : Int) < hs.length := by omega
      clear hcw q0 q1 q2 p0 p1 p2 hc hc2
      go_wp2_with fail
      have f1 : (wr.alloc (.cells #[.string zk, .bool zh, .string xd] 51)).heap[wr.heap.size]? = some (.cells #[.string zk, .bool zh, .string xd] 51 (0, 0)) := heap_new _ _
      have fb : Below wr.heap.size wr (wr.alloc (.cells #[.string zk, .bool zh, .string xd] 51)) := (Below.refl _ _).alloc (Nat.le_refl _) _
      have fs : (wr.alloc (.cells #[.string zk, .bool zh, .string xd] 51)).heap.size = wr.heap.size + 1 := by simp
      generalize wr.alloc (.cells #[.string zk, .bool zh, .string xd] 51) = W3 at *
      have hB3 : wr.heap.size + 1 ≤ W3.heap.size := by omega
      have z0 := (fb.cell (p := ⟨b2, off2 + j * 3, none⟩) (by show b2 < _; omega)).trans o0
      have z1 := (fb.cell (p := ⟨b2, off2 + j * 3 + 1, none⟩) (by show b2 < _; omega)).trans o1
      have z2 := (fb.cell (p := ⟨b2, off2 + j * 3 + 2, none⟩) (by show b2 < _; omega)).trans o2
      have z5 := (fb.cell (p := ⟨w.heap.size + 1, 5, none⟩) (by show w.heap.size + 1 < _; omega)).trans o5
      have HS : Hid (∀ x, Below (wr.heap.size + 1) W3 x → ((x.cell? ⟨wr.heap.size, 0, none⟩ = some (.string zk) ∧ x.cell? ⟨wr.heap.size, 1, none⟩ = some (.bool zh) ∧ x.cell? ⟨wr.heap.size, 2, none⟩ = some (.string xd)) ∧ x.cell? ⟨w.heap.size + 1, 5, none⟩ = some (.slice (some ⟨b2, off2, none⟩) hs.length cap2) ∧ (x.cell? ⟨b2, off2 + j * 3, none⟩ = some (.string zk) ∧ x.cell? ⟨b2, off2 + j * 3 + 1, none⟩ = some (.bool zh) ∧ x.cell? ⟨b2, off2 + j * 3 + 2, none⟩ = some (.string zd))) ∧ Below (wr.heap.size + 1) W3 x) := fun x hx =>
        ⟨⟨cells3 ((hx.block _ (Nat.lt_succ_self _)).trans f1), (hx.cell (p := ⟨w.heap.size + 1, 5, none⟩) (by show w.heap.size + 1 < _; omega)).trans z5, (hx.cell (p := ⟨b2, off2 + j * 3, none⟩) (by show b2 < _; omega)).trans z0, (hx.cell (p := ⟨b2, off2 + j * 3 + 1, none⟩) (by show b2 < _; omega)).trans z1, (hx.cell (p := ⟨b2, off2 + j * 3 + 2, none⟩) (by show b2 < _; omega)).trans z2⟩, hx⟩
      have n3 : ∀ w, (binOp .neq 51 (.agg #[.string zk, .bool zh, .string (bd zh xd)]) (.agg #[.string zk, .bool zh, .string (bd zh zd)])).run Tryz.prog w = .ok (.bool false) w := fun w => by rw [e3]; exact neq_hdr _ _ _ w
      have g3 := fun x y w => run_eqGuard_agg (P := Tryz.prog) w BinOp.neq 51 x y #[.string zk, .bool zh, .string (bd zh xd)] #[.string zk, .bool zh, .string (bd zh zd)] Tryz.hdrGuard
      have h03 : Below (wr.heap.size + 1) W3 W3 := Below.refl _ _
      have HBB := hid (HB.out.trans (fb.mono (by omega)))
      clear l0 l1 l2 o0 o1 o2 o5 z0 z1 z2 z5 f1 fb e3
      go_region_held3 (fun x => ((x.cell? ⟨wr.heap.size, 0, none⟩ = some (.string zk) ∧ x.cell? ⟨wr.heap.size, 1, none⟩ = some (.bool zh) ∧ x.cell? ⟨wr.heap.size, 2, none⟩ = some (.string xd)) ∧ x.cell? ⟨w.heap.size + 1, 5, none⟩ = some (.slice (some ⟨b2, off2, none⟩) hs.length cap2) ∧ (x.cell? ⟨b2, off2 + j * 3, none⟩ = some (.string zk) ∧ x.cell? ⟨b2, off2 + j * 3 + 1, none⟩ = some (.bool zh) ∧ x.cell? ⟨b2, off2 + j * 3 + 2, none⟩ = some (.string zd))) ∧ Below (wr.heap.size + 1) W3 x) (first | with_reducible exact HS.out _ (by assumption) | with_reducible exact HS.out _ (Below.drew (by assumption))) (first | (go_at_call 81; refine (barehB _ _ _ (wr.heap.size + 1) W3 _ hB3 ?_).mono ?_; (first | assumption | exact Below.drew (by assumption)); rintro e w' ⟨rfl, hbel⟩))
      all_goals
        rename_i hH3
        clear n3 g3
        go_wp2_with fail
        go_roundg k
        case measure => omega
        case rel => exact ⟨j + 1, by omega, by go_num, HBB.out.trans (hH3.2.mono (by omega))⟩
    · have HF := hid (HB1.out.trans (HB.out.mono (by omega)))
      go_wp2_with fail
      go_ret
      exact ⟨rfl, HF.out⟩
end Go.Proofs.YtihokphamgkkcaaGreat
namespace Go.Proofs.YtihokphamgkkcaaGreat
open Go.RowKit
theorem sze_in {r : Rec} {first : Int} {N : Nat} (hN : N < 65536) (h : sze r first N ≠ 0) : sze r first N = 27 ∨ sze r first N = 5 ∨ sze r first N = 66 := by
  unfold sze at *
  rw [if_neg (by omega)] at *
  split
  · exact Or.inl rfl
  · split
    · exact Or.inr (Or.inl rfl)
    · split
      · exact Or.inr (Or.inr rfl)
      · rename_i h1 h2 h3; rw [if_neg h1, if_neg h2, if_neg h3] at h; exact absurd rfl h
theorem ol_byte (h : Bool) (d : ByteArray) (hd : d.size ≤ 1000000000000000000) : ∀ b ∈ ol h d, b < 256 := by
  intro b hb
  unfold ol at hb
  split at hb
  · rcases List.mem_append.1 hb with hb | hb
    · exact M.form_byte (by omega) b hb
    · exact bl_byte d b hb
  · simp at hb; omega
theorem hl_byte (hs : List Hdr) (h : ∀ x ∈ hs, x.1.size ≤ 1000000000000000000 ∧ x.2.2.size ≤ 1000000000000000000) : ∀ b ∈ hl hs, b < 256 := by
  intro b hb
  simp only [hl, List.mem_flatMap] at hb
  obtain ⟨x, hx, hb⟩ := hb
  unfold hl1 tx at hb
  rcases List.mem_append.1 hb with hb | hb
  · rcases List.mem_append.1 hb with hb | hb
    · exact M.form_byte (by have := (h x hx).1; omega) b hb
    · exact bl_byte _ b hb
  · exact ol_byte _ _ (h x hx).2 b hb
theorem own_byte (d : Int) (n : Nat) (r : Rec) (hd : I64 d) (hn : n < 18446744073709551616) (hh : r.hs.length < 18446744073709551616) (hm : Mod r) : ∀ b ∈ own d n r, b < 256 := by
  have hzb := M.zz_bd hd.1 hd.2
  intro b hb
  unfold own at hb
  simp only [List.mem_append] at hb
  rcases hb with hb | hb | hb | hb | hb | hb | hb
  · simp at hb; omega
  · exact M.form_byte (by omega) b hb
  · exact M.form_byte hn b hb
  · exact ol_byte _ _ hm.k b hb
  · exact ol_byte _ _ hm.v b hb
  · exact M.form_byte hh b hb
  · refine hl_byte _ (fun x hx => ⟨?_, hm.h x hx⟩) b hb
    have h1 := hl_mem hx
    have h2 := hm.all
    have h3 := (tx_ge x.1).2
    unfold hl1 at h1
    rw [List.length_append] at h1
    omega
end Go.Proofs.YtihokphamgkkcaaGreat
namespace Go.Proofs.YtihokphamgkkcaaGreat
open Go.RowKit
def cln (r : Rec) : Rec := ⟨r.t, r.kh, bd r.kh r.kd, r.vh, bd r.vh r.vd, r.hs.map fun x => (x.1, x.2.1, bd x.2.1 x.2.2)⟩
theorem ol_bd (h : Bool) (d : ByteArray) : ol h (bd h d) = ol h d := by cases h <;> rfl
theorem bd_bd (h : Bool) (d : ByteArray) : bd h (bd h d) = bd h d := by cases h <;> rfl
theorem cl_bd (h : Bool) (d : ByteArray) : Cl h (bd h d) := fun e => by subst e; rfl
theorem hl_cln (hs : List Hdr) : hl (hs.map fun x => (x.1, x.2.1, bd x.2.1 x.2.2)) = hl hs := by
  induction hs with
  | nil => rfl
  | cons x l ih => rw [List.map_cons, hl_cons, hl_cons, ih, ol_bd]
theorem own_cln (d : Int) (n : Nat) (r : Rec) : own d n (cln r) = own d n r := by
  unfold own cln
  rw [ol_bd, ol_bd, hl_cln, List.length_map]
theorem fm_cln (d : Int) (n : Nat) (r : Rec) : fm d n (cln r) = fm d n r := by unfold fm; rw [own_cln]
theorem bl_app (s t : ByteArray) : bl (s ++ t) = bl s ++ bl t := by
  unfold bl
  have : (s ++ t).data.toList = s.data.toList ++ t.data.toList := by rw [ByteArray.data_append, Array.toList_append]
  rw [this, List.map_append]
theorem form_inj {v v' : Nat} {t t' : List Nat} (h : v < 18446744073709551616) (h' : v' < 18446744073709551616) (e : M.form v ++ t = M.form v' ++ t') : v = v' ∧ t = t' := by
  have a := M.rd_back h t
  have b := M.rd_back h' t'
  rw [e, b] at a
  injection a with a _
  subst a
  exact ⟨rfl, List.append_cancel_left e⟩
theorem own_num {d d' : Int} {n n' : Nat} {x y : Rec} (hd : I64 d) (hd' : I64 d') (hn : n < 65537) (hn' : n' < 65537) (e : own d n x = own d' n' y) : n = n' := by
  have z := M.zz_bd hd.1 hd.2
  have z' := M.zz_bd hd'.1 hd'.2
  unfold own at e
  have e1 := List.append_cancel_left e
  have e2 := (form_inj (by omega) (by omega) e1).2
  exact (form_inj (by omega) (by omega) e2).1
/-- What is read of the form. -/
theorem back_read {r : Rec} {first : Int} {N : Nat} {S more : ByteArray} (hN : N < 65536) (ht : I64 r.t) (hz : sze r first N = 0) (hS : bl S = fm (r.t - first) N r) (hm : more.size ≤ 1048576) : nxt (S ++ more) 0 first N = .ok (cln r, S.size) := by
  obtain ⟨_, hi, hh, hl'⟩ := sze_ok hz
  rw [Int.toNat_natCast] at hl'
  have hsz : S.size = (fm (r.t - first) N r).length := by rw [← hS, bl_len]
  have hz2 : (S ++ more).size = S.size + more.size := by rw [ByteArray.size_append]
  refine (nxt_iff (by omega) (Nat.zero_le _) (by omega)).2 ?_
  have ec : (cln r).t = r.t := rfl
  rw [ec, fm_cln, Nat.zero_add]
  refine ⟨stands_of (r := bl more) (Nat.zero_le _) (by rw [List.drop_zero, bl_app, hS]), hsz, ⟨ht, hi, cl_bd _ _, cl_bd _ _, by show (List.map _ _).length ≤ 1024; rw [List.length_map]; exact hh, ?_⟩, hl'⟩
  intro x hx
  simp only [cln, List.mem_map] at hx
  obtain ⟨y, _, rfl⟩ := hx
  exact cl_bd _ _
theorem back_num {r : Rec} {first : Int} {N : Nat} {S : ByteArray} (hN : N < 65536) (hz : sze r first N = 0) (hS : bl S = fm (r.t - first) N r) : ∃ x, rd5 S first ((N : Int) + 1) = .error x := by
  obtain ⟨_, hi, hh, hl'⟩ := sze_ok hz
  rw [Int.toNat_natCast] at hl'
  have hsz : S.size = (fm (r.t - first) N r).length := by rw [← hS, bl_len]
  cases hx : rd5 S first ((N : Int) + 1) with
  | error x => exact ⟨x, rfl⟩
  | ok y =>
    exfalso
    unfold rd5 at hx
    split at hx
    · cases hx
    · rename_i hb
      have e1 : ((N : Int) + 1).toNat = N + 1 := by omega
      rw [e1] at hx
      obtain ⟨h1, h2, h3, h4⟩ := (nxt_iff (by omega) (Nat.zero_le _) (by omega)).1 hx
      obtain ⟨T, h5⟩ : ∃ T, fm (r.t - first) N r = fm (y.1.t - first) (N + 1) y.1 ++ T := ⟨_, by rw [← hS]; have := stands_drop h1; rw [List.drop_zero] at this; exact this⟩
      have hL := h4
      unfold fm at hL hl' h5
      rw [List.append_assoc] at h5
      rw [List.length_append] at hL hl'
      obtain ⟨e2, e3⟩ := form_inj (by omega) (by omega) h5
      have hT : T.length = 0 := by have := congrArg List.length e3; rw [List.length_append] at this; omega
      rw [List.eq_nil_of_length_eq_zero hT, List.append_nil] at e3
      have := own_num hi h3.2.1 (by omega) (by omega) e3
      omega
theorem back_cut {r : Rec} {first : Int} {N m : Nat} {S : ByteArray} (hN : N < 65536) (hz : sze r first N = 0) (hS : bl S = fm (r.t - first) N r) (hm : m < S.size) : ∃ x, rd5 (S.extract 0 m) first N = .error x := by
  obtain ⟨_, hi, hh, hl'⟩ := sze_ok hz
  rw [Int.toNat_natCast] at hl'
  have hsz : S.size = (fm (r.t - first) N r).length := by rw [← hS, bl_len]
  have hz2 : (S.extract 0 m).size = m := by rw [ByteArray.size_extract]; omega
  cases hx : rd5 (S.extract 0 m) first N with
  | error x => exact ⟨x, rfl⟩
  | ok y =>
    exfalso
    unfold rd5 at hx
    split at hx
    · cases hx
    · rename_i hb
      rw [Int.toNat_natCast] at hx
      obtain ⟨h1, h2, h3, h4⟩ := (nxt_iff (by omega) (Nat.zero_le _) (by omega)).1 hx
      have hle := h1.1
      have h5 := stands_drop h1
      rw [List.drop_zero, bl_ext, List.drop_zero, Nat.sub_zero] at h5
      have h6 : bl S = (bl S).take m ++ (bl S).drop m := (List.take_append_drop m _).symm
      rw [h5, hS] at h6
      generalize List.drop (0 + (fm (y.1.t - first) N y.1).length) (List.take m (fm (r.t - first) N r)) = T1 at h6
      generalize List.drop m (fm (r.t - first) N r) = T2 at h6
      generalize hT : List.drop _ _ = T3 at h6
      have hL := h4
      have e0 : (fm (y.1.t - first) N y.1).length = (M.form (own (y.1.t - first) N y.1).length).length + (own (y.1.t - first) N y.1).length := by unfold fm; rw [List.length_append]
      have e0' : (fm (r.t - first) N r).length = (M.form (own (r.t - first) N r).length).length + (own (r.t - first) N r).length := by unfold fm; rw [List.length_append]
      unfold fm at h6
      simp only [List.append_assoc] at h6
      obtain ⟨e2, _⟩ := form_inj (by omega) (by omega) h6
      rw [e2] at e0'
      omega
end Go.Proofs.YtihokphamgkkcaaGreat
namespace Go.Proofs.YtihokphamgkkcaaGreat
open Go.RowKit
/-- A record, and where its headers lie. -/
structure RI where
  r : Rec
  a : Option Addr
  cap : Nat
def dri : RI := ⟨⟨0, false, ⟨#[]⟩, false, ⟨#[]⟩, []⟩, none, 0⟩
def rc1 (x : RI) : List Value := [.int .i64 x.r.t, .bool x.r.kh, .string x.r.kd, .bool x.r.vh, .string x.r.vd, .slice x.a x.r.hs.length x.cap]
def rcs (l : List RI) : List Value := l.flatMap rc1
/-- A record's six cells. -/
def Six (w : World) (b o : Nat) (x : RI) : Prop := w.cell? ⟨b, o, none⟩ = some (.int .i64 x.r.t) ∧ w.cell? ⟨b, o + 1, none⟩ = some (.bool x.r.kh) ∧ w.cell? ⟨b, o + 2, none⟩ = some (.string x.r.kd) ∧ w.cell? ⟨b, o + 3, none⟩ = some (.bool x.r.vh) ∧ w.cell? ⟨b, o + 4, none⟩ = some (.string x.r.vd) ∧ w.cell? ⟨b, o + 5, none⟩ = some (.slice x.a x.r.hs.length x.cap)
/-- A slice's records where they lie. -/
def Rcs (w : World) (a : Option Addr) (l : List RI) : Prop := (∀ x ∈ l, Hds w x.a x.r.hs) ∧ (l = [] ∨ ∃ b off, a = some ⟨b, off, none⟩ ∧ b < w.heap.size ∧ ∀ j, j < l.length → Six w b (off + j * 6) (l.getD j dri))
theorem Six.below {w w' : World} {b o : Nat} {x : RI} (h : Six w b o x) (hb : b < w.heap.size) (k : Below w.heap.size w w') : Six w' b o x := by
  obtain ⟨h0, h1, h2, h3, h4, h5⟩ := h
  exact ⟨(k.cell (p := ⟨b, o, none⟩) hb).trans h0, (k.cell (p := ⟨b, o + 1, none⟩) hb).trans h1, (k.cell (p := ⟨b, o + 2, none⟩) hb).trans h2, (k.cell (p := ⟨b, o + 3, none⟩) hb).trans h3, (k.cell (p := ⟨b, o + 4, none⟩) hb).trans h4, (k.cell (p := ⟨b, o + 5, none⟩) hb).trans h5⟩
theorem Rcs.below {w w' : World} {a : Option Addr} {l : List RI} (h : Rcs w a l) (k : Below w.heap.size w w') : Rcs w' a l := by
  refine ⟨fun x hx => (h.1 x hx).below k, ?_⟩
  rcases h.2 with h | ⟨b, off, h1, h2, h3⟩
  · exact Or.inl h
  · exact Or.inr ⟨b, off, h1, Nat.lt_of_lt_of_le h2 k.size, fun j hj => (h3 j hj).below h2 k⟩
theorem riD_mem {l : List RI} {j : Nat} (h : j < l.length) : l.getD j dri ∈ l := by
  rw [List.getD_eq_getElem?_getD, List.getElem?_eq_getElem h, Option.getD_some]
  exact List.getElem_mem h
/-- The forms one behind the other. -/
def bdy (first : Int) : Nat → List Rec → List Nat
  | _, [] => []
  | n, r :: l => fm (r.t - first) n r ++ bdy first (n + 1) l
theorem bdy_app (first : Int) (l m : List Rec) : ∀ n, bdy first n (l ++ m) = bdy first n l ++ bdy first (n + l.length) m := by
  induction l with
  | nil => intro n; simp [bdy]
  | cons r l ih => intro n; rw [List.cons_append, bdy, ih, bdy, List.append_assoc, List.length_cons, show n + 1 + l.length = n + (l.length + 1) by omega]
theorem bdy_snoc (first : Int) (l : List Rec) (r : Rec) : bdy first 0 (l ++ [r]) = bdy first 0 l ++ fm (r.t - first) l.length r := by
  rw [bdy_app]; simp [bdy]
theorem take_getD {l : List RI} {j : Nat} (h : j < l.length) : l.take (j + 1) = l.take j ++ [l.getD j dri] := by
  rw [List.getD_eq_getElem?_getD, List.getElem?_eq_getElem h, Option.getD_some, List.take_succ_eq_append_getElem h]
theorem bdy_take (first : Int) {l : List RI} {j : Nat} (h : j < l.length) : bdy first 0 ((l.take (j + 1)).map RI.r) = bdy first 0 ((l.take j).map RI.r) ++ fm ((l.getD j dri).r.t - first) j (l.getD j dri).r := by
  rw [take_getD h, List.map_append]
  have e : ((l.take j).map RI.r).length = j := by rw [List.length_map, List.length_take]; omega
  rw [show [l.getD j dri].map RI.r = [(l.getD j dri).r] from rfl, bdy_snoc, e]
theorem bdy_take_le (first : Int) (l : List RI) (j : Nat) : (bdy first 0 ((l.take j).map RI.r)).length ≤ (bdy first 0 (l.map RI.r)).length := by
  conv => rhs; rw [← List.take_append_drop j l, List.map_append, bdy_app, List.length_append]
  omega
/-- Why records have no body, or 0. -/
def FitE (l : List RI) (first : Int) (E : Nat) : Prop :=
  (∃ j, j < l.length ∧ (∀ i, i < j → sze (l.getD i dri).r first i = 0) ∧ sze (l.getD j dri).r first j ≠ 0 ∧ E = sze (l.getD j dri).r first j) ∨ ((∀ i, i < l.length → sze (l.getD i dri).r first i = 0) ∧ E = if 16777216 < (bdy first 0 (l.map RI.r)).length then 66 else 0)
theorem fit_zero {l : List RI} {first : Int} {E : Nat} (h : FitE l first E) : E = 0 ↔ (∀ i, i < l.length → sze (l.getD i dri).r first i = 0) ∧ (bdy first 0 (l.map RI.r)).length ≤ 16777216 := by
  rcases h with ⟨j, h1, _, h3, hE⟩ | ⟨h1, hE⟩
  · rw [hE]
    exact ⟨fun h => absurd h h3, fun h => h.1 j h1⟩
  · by_cases hb : 16777216 < (bdy first 0 (l.map RI.r)).length
    · rw [hE, if_pos hb]
      exact ⟨fun h => absurd h (by decide), fun h => absurd h.2 (by omega)⟩
    · rw [hE, if_neg hb]
      exact ⟨fun _ => ⟨h1, Nat.le_of_not_lt hb⟩, fun _ => rfl⟩
theorem bdy_small (first : Int) (l : List RI) : ∀ j, j ≤ l.length → (∀ i, i < j → sze (l.getD i dri).r first i = 0) → (bdy first 0 ((l.take j).map RI.r)).length ≤ j * 16777216
  | 0, _, _ => by simp [bdy]
  | j + 1, h, hz => by
    have ih := bdy_small first l j (by omega) (fun i hi => hz i (by omega))
    have h4 := (sze_ok (hz j (by omega))).2.2.2
    rw [Int.toNat_natCast] at h4
    rw [bdy_take first (by omega), List.length_append]
    omega
/-- What is read of the first j records. -/
def run (s : ByteArray) (first : Int) : Nat → Except Nat (List Rec × Nat)
  | 0 => .ok ([], 0)
  | j + 1 => match run s first j with
    | .error e => .error e
    | .ok (l, k) => match nxt s k first j with
      | .error e => .error e
      | .ok (r, k') => if j = 0 ∧ r.t ≠ first then .error 27 else .ok (l ++ [r], k')
theorem run_err {s : ByteArray} {first : Int} {e j : Nat} (h : run s first j = .error e) : ∀ m, run s first (j + m) = .error e
  | 0 => h
  | m + 1 => by
    have ih := run_err h m
    show (match run s first (j + m) with | .error e => _ | .ok (l, k) => _) = _
    rw [ih]
/-- What is read of a body. -/
def rbd (s : ByteArray) (first count : Int) : Except Nat (List Rec) := if ¬ (1 ≤ count ∧ count ≤ 65536) then .error 28 else if 16777216 < s.size then .error 66 else match run s first count.toNat with
  | .error e => .error e
  | .ok (l, k) => if k < s.size then .error 22 else .ok l
/-- What was read so far. -/
structure Ran (s : ByteArray) (first : Int) (j : Nat) (l : List Rec) (k : Nat) : Prop where
  len : l.length = j
  le : k ≤ s.size
  st : Stands s 0 (bdy first 0 l)
  k : k = (bdy first 0 l).length
  good : ∀ x ∈ l, Good first x
  fit : ∀ i x, l[i]? = some x → (fm (x.t - first) i x).length ≤ 16777216
  one : ∀ x, l[0]? = some x → x.t = first
theorem run_ran {s : ByteArray} {first : Int} (hs : s.size ≤ 9223372036854775807) : ∀ {j l k}, j ≤ 65536 → run s first j = .ok (l, k) → Ran s first j l k
  | 0, l, k, _, h => by
    injection h with h
    injection h with h1 h2
    subst h1 h2
    exact ⟨rfl, Nat.zero_le _, stands_nil (Nat.zero_le _), rfl, fun x hx => by simp at hx, fun i x hx => by simp at hx, fun x hx => by simp at hx⟩
  | j + 1, l, k, hj, h => by
    cases hr : run s first j with
    | error e =>
      have : run s first (j + 1) = .error e := by show (match run s first j with | .error e => _ | .ok (l, k) => _) = _; rw [hr]
      rw [this] at h; cases h
    | ok y =>
      obtain ⟨l0, k0⟩ := y
      have R := run_ran hs (by omega) hr
      have e : run s first (j + 1) = match nxt s k0 first j with
        | .error e => .error e
        | .ok (r, k') => if j = 0 ∧ r.t ≠ first then .error 27 else .ok (l0 ++ [r], k') := by show (match run s first j with | .error e => _ | .ok (l, k) => _) = _; rw [hr]
      rw [e] at h
      cases hn : nxt s k0 first j with
      | error e => rw [hn] at h; cases h
      | ok z =>
        obtain ⟨r, k'⟩ := z
        rw [hn] at h
        dsimp only at h
        split at h
        · cases h
        · rename_i hne
          injection h with h
          injection h with h1 h2
          subst h1 h2
          obtain ⟨a1, a2, a3, a4⟩ := (nxt_iff hs R.le (by omega)).1 hn
          have hl := a1.1
          have eb : bdy first 0 (l0 ++ [r]) = bdy first 0 l0 ++ fm (r.t - first) j r := by rw [bdy_snoc, R.len]
          refine ⟨by rw [List.length_append, R.len]; rfl, by omega, ?_, ?_, ?_, ?_, ?_⟩
          · rw [eb, stands_app]
            refine ⟨R.st, ?_⟩
            rw [Nat.zero_add, ← R.k]
            exact a1
          · rw [eb, List.length_append, ← R.k]; exact a2
          · intro x hx
            rcases List.mem_append.1 hx with hx | hx
            · exact R.good x hx
            · rw [List.mem_singleton] at hx; subst hx; exact a3
          · intro i x hx
            by_cases hi : i < l0.length
            · rw [List.getElem?_append_left hi] at hx; exact R.fit i x hx
            · rw [List.getElem?_append_right (by omega)] at hx
              have h0 : i - l0.length = 0 := by
                by_cases h0 : i - l0.length = 0
                · exact h0
                · rw [List.getElem?_eq_none (by simp; omega)] at hx; cases hx
              rw [h0] at hx
              have : i = j := by have := R.len; omega
              subst this
              injection hx with hx; subst hx; exact a4
          · intro x hx
            by_cases h0 : 0 < l0.length
            · rw [List.getElem?_append_left h0] at hx; exact R.one x hx
            · have hj0 : j = 0 := by have := R.len; omega
              rw [List.getElem?_append_right (by omega), show 0 - l0.length = 0 by omega] at hx
              injection hx with hx; subst hx
              by_cases ht : r.t = first
              · exact ht
              · exact absurd ⟨hj0, ht⟩ hne
end Go.Proofs.YtihokphamgkkcaaGreat
namespace Go.Proofs.YtihokphamgkkcaaGreat
open Go.RowKit
set_option maxHeartbeats 1000000 in
set_option maxRecDepth 20000 in
theorem fitbody_any (l : List RI) (a : Option Addr) (cap : Nat) (first : Int) (w : World) (V : Rcs w a l) (hf : I64 first) (hT : ∀ x ∈ l, I64 x.r.t) (hM : ∀ x ∈ l, Mod x.r) (hL : l.length ≤ 65536) :
    Calls Tryz.prog 85 #[.slice a l.length cap, .int .i64 first] w fun e w' => (∃ E : Nat, e = .returned (.int .i64 E) ∧ FitE l first E) ∧ Below w.heap.size w w' := by
  have HVV := hid V
  have HT := hid hT
  have HM := hid hM
  have HF := hid hf
  clear V hT hM hf
  go_enter Tryz.func85, Tryz.ntmps85
  go_wp2_with fail
  go_loopg [5, 12] l.length (fun k v i wr => ∃ j : Nat, j + k = l.length ∧ v = .int .i64 (bdy first 0 ((l.take j).map RI.r)).length ∧ i = .int .i64 j ∧ Hid (∀ i, i < j → sze (l.getD i dri).r first i = 0) ∧ Hid (Below w.heap.size w wr))
  case atStart => exact ⟨0, by omega, rfl, rfl, fun i hi => by omega, Below.refl _ _⟩
  case round =>
    obtain ⟨j, hk, rfl, rfl, HZ, HB⟩ := hrel
    have hsm := bdy_small first l j (by omega) HZ.out
    by_cases hlt : j < l.length
    · obtain ⟨k, rfl⟩ : ∃ k, gk = k + 1 := ⟨gk - 1, by omega⟩
      have HTK := hid (bdy_take first hlt)
      have hV := HVV.out.below HB.out
      have hH := hV.1 _ (riD_mem hlt)
      rcases hV.2 with h | ⟨b, off, rfl, hbl, hc⟩
      · rw [h] at hlt; simp at hlt
      have c1 := fun x V => size5_any (l.getD j dri).r (l.getD j dri).a (l.getD j dri).cap first j x V (HT.out _ (riD_mem hlt)) HF.out (HM.out _ (riD_mem hlt))
      obtain ⟨q0, q1, q2, q3, q4, q5⟩ := hc j hlt
      have b1 : (0 : Int) ≤ (j : Int) := by omega
      have b2 : (j : Int) < l.length := by omega
      have HH := hid hH
      have HLT := hid hlt
      by_cases hz : sze (l.getD j dri).r first j = 0
      · have hsn : szn (l.getD j dri).r first j = (fm ((l.getD j dri).r.t - first) j (l.getD j dri).r).length := by unfold szn; rw [if_pos hz, Int.toNat_natCast]
        have hf4 := (sze_ok hz).2.2.2
        rw [Int.toNat_natCast] at hf4
        have HZ2 : Hid (∀ i, i < j + 1 → sze (l.getD i dri).r first i = 0) := fun i hi => by
          by_cases h : i < j
          · exact HZ.out i h
          · have : i = j := by omega
            subst this; exact hz
        simp only [hsn, hz] at c1
        have hla : (bdy first 0 ((l.take (j + 1)).map RI.r)).length = (bdy first 0 ((l.take j).map RI.r)).length + (fm ((l.getD j dri).r.t - first) j (l.getD j dri).r).length := by rw [HTK.out, List.length_append]
        have HLA := hid hla
        generalize (fm ((l.getD j dri).r.t - first) j (l.getD j dri).r).length = F at *
        generalize (bdy first 0 ((l.take j).map RI.r)).length = L0 at *
        have hwr : wrap64 ((L0 : Int) + (F : Int)) = ((L0 + F : Nat) : Int) := by unfold wrap64; omega
        have CS := hid c1
        clear c1 hV hH hc hz hsn hla HTK HZ
        generalize l.getD j dri = x at *
        obtain ⟨⟨t, kh, kd, vh, vd, hs⟩, xa, xc⟩ := x
        simp only [recV] at *
        go_wp2_with fail
        refine (CS.out _ (HH.out.below ((Below.refl _ wr).alloc (Nat.le_refl _) _))).mono ?_
        rintro e w1 ⟨rfl, hb1⟩
        have HB1 := hid (bel_next HB.out (Nat.le_refl _) (bel_al hb1))
        clear hb1 q0 q1 q2 q3 q4 q5
        go_wp2_with fail
        go_roundg k
        case measure => omega
        case rel => exact ⟨j + 1, by omega, by rw [HLA.out]; go_num, by go_num, HZ2, HB1⟩
      · have hne : (((sze (l.getD j dri).r first j : Nat) : Int) != 0) = true := by rw [bne_iff_ne]; omega
        have HE : Hid (FitE l first (sze (l.getD j dri).r first j)) := Or.inl ⟨j, hlt, HZ.out, hz, rfl⟩
        generalize sze (l.getD j dri).r first j = E at *
        generalize szn (l.getD j dri).r first j = L at *
        have CS := hid c1
        clear c1 hV hH hc hz HTK HZ
        generalize l.getD j dri = x at *
        obtain ⟨⟨t, kh, kd, vh, vd, hs⟩, xa, xc⟩ := x
        simp only [recV] at *
        go_wp2_with fail
        refine (CS.out _ (HH.out.below ((Below.refl _ wr).alloc (Nat.le_refl _) _))).mono ?_
        rintro e w1 ⟨rfl, hb1⟩
        have HB1 := hid (bel_next HB.out (Nat.le_refl _) (bel_al hb1))
        clear hb1 q0 q1 q2 q3 q4 q5
        go_wp2_with fail
        go_ret
        exact ⟨⟨E, rfl, HE.out⟩, HB1.out⟩
    · have hj : j = l.length := by omega
      subst hj
      rw [List.take_length] at hsm ⊢
      have HZZ := HZ
      by_cases hbig : 16777216 < (bdy first 0 (l.map RI.r)).length
      · have HE : Hid (FitE l first 66) := Or.inr ⟨HZ.out, by rw [if_pos hbig]⟩
        have hd : decide ((16777216 : Int) < ((bdy first 0 (l.map RI.r)).length : Int)) = true := decide_eq_true (by omega)
        clear hbig hsm
        go_wp2_with fail
        go_ret
        exact ⟨⟨66, rfl, HE.out⟩, HB.out⟩
      · have HE : Hid (FitE l first 0) := Or.inr ⟨HZ.out, by rw [if_neg hbig]⟩
        have hd : decide ((16777216 : Int) < ((bdy first 0 (l.map RI.r)).length : Int)) = false := decide_eq_false (by omega)
        clear hbig hsm
        go_wp2_with fail
        go_ret
        exact ⟨⟨0, rfl, HE.out⟩, HB.out⟩
end Go.Proofs.YtihokphamgkkcaaGreat
namespace Go.Proofs.YtihokphamgkkcaaGreat
open Go.RowKit
theorem iscount_any (n : Int) (w : World) : Calls Tryz.prog 74 #[.int .i64 n] w fun e w' => e = .returned (.bool (decide (1 ≤ n ∧ n ≤ 65536))) ∧ w' = w := by
  by_cases h1 : 1 ≤ n
  · by_cases h2 : n ≤ 65536
    · rw [decide_eq_true ⟨h1, h2⟩]
      go_enter Tryz.func74, Tryz.ntmps74
      go_wp2
      go_ret
      exact ⟨rfl, rfl⟩
    · rw [decide_eq_false (fun h => h2 h.2)]
      go_enter Tryz.func74, Tryz.ntmps74
      go_wp2
      go_ret
      exact ⟨rfl, rfl⟩
  · rw [decide_eq_false (fun h => h1 h.1)]
    go_enter Tryz.func74, Tryz.ntmps74
    go_wp2
    go_ret
    exact ⟨rfl, rfl⟩
theorem iscount_yes (n : Int) (w : World) (h : 1 ≤ n ∧ n ≤ 65536) : Calls Tryz.prog 74 #[.int .i64 n] w fun e w' => e = .returned (.bool true) ∧ w' = w := by
  have := iscount_any n w
  rw [decide_eq_true h] at this
  exact this
theorem iscount_no (n : Int) (w : World) (h : ¬ (1 ≤ n ∧ n ≤ 65536)) : Calls Tryz.prog 74 #[.int .i64 n] w fun e w' => e = .returned (.bool false) ∧ w' = w := by
  have := iscount_any n w
  rw [decide_eq_false h] at this
  exact this
/-- Why records have no body, or 0, with the count. -/
def BodyE (l : List RI) (E : Nat) : Prop := (¬ (1 ≤ l.length ∧ l.length ≤ 65536) ∧ E = 28) ∨ ((1 ≤ l.length ∧ l.length ≤ 65536) ∧ FitE l (l.getD 0 dri).r.t E)
def BodyP (l : List RI) (E : Nat) (S : ByteArray) : Prop := BodyE l E ∧ (E ≠ 0 → S = ⟨#[]⟩) ∧ (E = 0 → S = bs (bdy (l.getD 0 dri).r.t 0 (l.map RI.r)))
set_option maxHeartbeats 1000000 in
set_option maxRecDepth 20000 in
theorem body_no (l : List RI) (a : Option Addr) (cap : Nat) (w : World) (hn : ¬ (1 ≤ l.length ∧ l.length ≤ 65536)) :
    Calls Tryz.prog 45 #[.slice a l.length cap] w fun e w' => (∃ (E : Nat) (S : ByteArray), e = .returned (.tuple #[.string S, .int .i64 E]) ∧ BodyP l E S) ∧ Below w.heap.size w w' := by
  have CI := hid (fun w => iscount_no l.length w (by omega))
  have HP : Hid (BodyP l 28 ⟨#[]⟩) := ⟨Or.inl ⟨hn, rfl⟩, fun _ => rfl, fun h => absurd h (by decide)⟩
  clear hn
  go_enter Tryz.func45, Tryz.ntmps45
  go_wp2_with (go_at_call 74; refine (CI.out _).mono ?_; rintro e w' ⟨rfl, rfl⟩)
  go_ret2
  exact ⟨⟨28, _, rfl, HP.out⟩, Below.refl _ _⟩
set_option maxHeartbeats 1000000 in
set_option maxRecDepth 20000 in
theorem body_yes (l : List RI) (a : Option Addr) (cap : Nat) (w : World) (V : Rcs w a l) (hT : ∀ x ∈ l, I64 x.r.t) (hM : ∀ x ∈ l, Mod x.r) (hL : 1 ≤ l.length ∧ l.length ≤ 65536) :
    Calls Tryz.prog 45 #[.slice a l.length cap] w fun e w' => (∃ (E : Nat) (S : ByteArray), e = .returned (.tuple #[.string S, .int .i64 E]) ∧ BodyP l E S) ∧ Below w.heap.size w w' := by
  have CI := hid (fun w => iscount_yes l.length w (by omega))
  have HL := hid hL
  have hl0 : 0 < l.length := by omega
  have CFt := hid (fitbody_any l a cap (l.getD 0 dri).r.t w V (hT _ (riD_mem hl0)) hT hM hL.2)
  have HVV := hid V
  have HT := hid hT
  have HM := hid hM
  rcases V.2 with h | ⟨b, off, rfl, hbl, hc⟩
  · rw [h] at hl0; simp at hl0
  have q0 : w.cell? ⟨b, off, none⟩ = some (.int .i64 (l.getD 0 dri).r.t) := by simpa using (hc 0 hl0).1
  have b1 : (0 : Int) < l.length := by omega
  generalize hfi : (l.getD 0 dri).r.t = first at *
  clear V hT hM hL hc
  go_enter Tryz.func45, Tryz.ntmps45
  go_wp2_with (go_at_call 74; refine (CI.out _).mono ?_; rintro e w' ⟨rfl, rfl⟩)
  refine CFt.out.mono ?_
  rintro e w1 ⟨⟨E, rfl, hE⟩, hb1⟩
  have HB1 := hid hb1
  have HV1 := hid (HVV.out.below hb1)
  clear hb1 q0
  by_cases hz : E = 0
  · subst hz
    obtain ⟨h1, h2⟩ := (fit_zero hE).1 rfl
    have HP : Hid (BodyP l 0 (bs (bdy first 0 (l.map RI.r)))) := ⟨Or.inr ⟨HL.out, by rw [hfi]; exact hE⟩, fun h => absurd rfl h, fun _ => by rw [hfi]⟩
    have H1 := hid h1
    clear hE h1
    go_wp2_with fail
    have hw0 : Wr (w1.alloc (.cells #[.int .i64 0, .slice none 0 0] 132)) w1.heap.size (w1.heap.size + 1) [] := wr_new (heap_new _ _) (Nat.lt_succ_self _) (by simp)
    have hbW : Below w1.heap.size w1 (w1.alloc (.cells #[.int .i64 0, .slice none 0 0] 132)) := (Below.refl _ _).alloc (Nat.le_refl _) _
    generalize w1.alloc (.cells #[.int .i64 0, .slice none 0 0] 132) = W at *
    have HBW := hid hbW
    have HSW := hid hbW.size
    go_loopg [25] l.length (fun k i wr => ∃ j : Nat, j + k = l.length ∧ i = .int .i64 j ∧ Hid (Wr wr w1.heap.size (w1.heap.size + 1) (bdy first 0 ((l.take j).map RI.r))) ∧ Hid (Ch (WU w1.heap.size (w1.heap.size + 1) W) W wr))
    case atStart => exact ⟨0, by omega, rfl, hw0, Ch.refl _ _⟩
    case round =>
      clear hw0 hbW
      obtain ⟨j, hk, rfl, HWR, HCH⟩ := hrel
      have hb1w : Below w1.heap.size w1 wr := HBW.out.trans (HCH.out.below HSW.out (fun i hi hs => by rcases hs with rfl | ⟨h, _⟩ <;> omega))
      by_cases hlt : j < l.length
      · obtain ⟨k, rfl⟩ : ∃ k, gk = k + 1 := ⟨gk - 1, by omega⟩
        have HTK := hid (bdy_take first hlt)
        have htl2 := bdy_take_le first l (j + 1)
        rw [HTK.out, List.length_append] at htl2
        obtain ⟨_, hi, _, _⟩ := sze_ok (H1.out j hlt)
        have hm := HM.out _ (riD_mem hlt)
        have hH := HV1.out.1 _ (riD_mem hlt)
        have c1 := fun x h0 h => wrec_any w1.heap.size (w1.heap.size + 1) (bdy first 0 ((l.take j).map RI.r)) (l.getD j dri).r (l.getD j dri).a (l.getD j dri).cap first j w1 x hH h0 (Nat.le_refl _) h hi (by omega) hm (by omega)
        rcases (HV1.out.below hb1w).2 with h | ⟨b', off', e', hbl', hc⟩
        · rw [h] at hlt; simp at hlt
        injection e' with e'
        injection e' with e1 e2
        subst e1 e2
        obtain ⟨q0, q1, q2, q3, q4, q5⟩ := hc j hlt
        have i1 : (0 : Int) ≤ (j : Int) := by omega
        have i2 : (j : Int) < l.length := by omega
        have CW := hid c1
        have HB2 := hid hb1w
        rw [← HTK.out] at CW
        clear c1 hc hm hH HTK htl2 hi hb1w
        generalize l.getD j dri = x at *
        obtain ⟨⟨t, kh, kd, vh, vd, hs⟩, xa, xc⟩ := x
        simp only [recV] at *
        go_wp2_with fail
        refine (CW.out _ (HB2.out.alloc HB2.out.size _) (HWR.out.alloc _)).mono ?_
        rintro e w2 ⟨rfl, hw2, hc2⟩
        have HW2 := hid hw2
        have HC2 : Hid (Ch (WU w1.heap.size (w1.heap.size + 1) W) W w2) := (HCH.out.alloc _).tu hc2
        clear hw2 hc2 q0 q1 q2 q3 q4 q5 CW
        go_wp2_with fail
        go_roundg k
        case measure => omega
        case rel => exact ⟨j + 1, by omega, by go_num, HW2, HC2⟩
      · have hj : j = l.length := by omega
        subst hj
        have hwr := HWR.out
        rw [List.take_length] at hwr
        have CY := hid (wbytes_any _ _ _ _ hwr)
        have HBF := hid (HB1.out.trans (hb1w.mono HB1.out.size))
        clear hwr hb1w
        go_wp2_with (go_at_call 87; refine CY.out.mono ?_; rintro e y6 ⟨rfl, rfl⟩)
        go_ret2
        exact ⟨⟨0, _, rfl, HP.out⟩, HBF.out⟩
  · have hne : ((E : Int) != 0) = true := by rw [bne_iff_ne]; omega
    have HP : Hid (BodyP l E ⟨#[]⟩) := ⟨Or.inr ⟨HL.out, by rw [hfi]; exact hE⟩, fun _ => rfl, fun h => absurd h hz⟩
    clear hz hE
    go_wp2_with fail
    go_ret2
    exact ⟨⟨E, _, rfl, HP.out⟩, HB1.out⟩
theorem body_any (l : List RI) (a : Option Addr) (cap : Nat) (w : World) (V : Rcs w a l) (hT : ∀ x ∈ l, I64 x.r.t) (hM : ∀ x ∈ l, Mod x.r) :
    Calls Tryz.prog 45 #[.slice a l.length cap] w fun e w' => (∃ (E : Nat) (S : ByteArray), e = .returned (.tuple #[.string S, .int .i64 E]) ∧ BodyP l E S) ∧ Below w.heap.size w w' := by
  by_cases h : 1 ≤ l.length ∧ l.length ≤ 65536
  · exact body_yes l a cap w V hT hM h
  · exact body_no l a cap w h
end Go.Proofs.YtihokphamgkkcaaGreat
namespace Go.Proofs.YtihokphamgkkcaaGreat
open Go.RowKit
def RI.hv (x : RI) : Value := .slice x.a x.r.hs.length x.cap
theorem rcs_len (rs : List RI) : (rcs rs).length = rs.length * 6 := by
  induction rs with
  | nil => rfl
  | cons r rs ih => simp only [rcs, List.flatMap_cons, List.length_append] at *; rw [ih]; simp [rc1]; omega
theorem rcs_app (a b : List RI) : rcs (a ++ b) = rcs a ++ rcs b := by simp [rcs]
theorem rc1_one (r : RI) : ∀ u ∈ rc1 r, u.oneCell' = true := by
  intro u h
  simp only [rc1, List.mem_cons, List.not_mem_nil, or_false] at h
  rcases h with rfl | rfl | rfl | rfl | rfl | rfl <;> rfl
theorem rcs_at (rs : List RI) : ∀ j i v, j < rs.length → i < 6 → (rc1 (rs.getD j dri))[i]? = some v → (rcs rs)[j * 6 + i]? = some v := by
  induction rs with
  | nil => intro j _ _ hj; simp at hj
  | cons r rs ih =>
    intro j i v hj hi hv
    have e : rcs (r :: rs) = rc1 r ++ rcs rs := rfl
    have e6 : (rc1 r).length = 6 := rfl
    cases j with
    | zero => rw [e, List.getElem?_append_left (by omega), Nat.zero_mul, Nat.zero_add]; exact hv
    | succ j =>
      have h := ih j i v (by simpa using hj) hi hv
      rw [e, List.getElem?_append_right (by omega), e6, show (j + 1) * 6 + i - 6 = j * 6 + i from by omega]
      exact h
/-- Records of the call's own, from B on, each with headers of its own. -/
structure Held (w : World) (B : Nat) (v : Value) (l : List RI) : Prop where
  row : w.ownsRow B 49 6 v l.length (rcs l)
  hds : ∀ x ∈ l, OwnH w B x.hv x.r.hs
  ap : l.Pairwise (fun x y => ∀ g, x.hv.ownBlock = some g → y.hv.ownBlock ≠ some g)
theorem ownH_hds {w : World} {B : Nat} {x : RI} (h : OwnH w B x.hv x.r.hs) : Hds w x.a x.r.hs := by
  obtain ⟨a, cap, e, _, h2⟩ := h.slice
  unfold RI.hv at e
  injection e with e1 e2 e3
  rw [e1]; exact h2
theorem Held.slice {w : World} {B : Nat} {v : Value} {l : List RI} (h : Held w B v l) : ∃ a cap, v = .slice a l.length cap ∧ Rcs w a l := by
  have hlt := World.ownsRow.lt h.row
  have hcell := fun (g : Nat) (hg : v.ownBlock = some g) => World.ownsRow.cells h.row hg
  obtain ⟨hl, hr⟩ := h.row
  rcases hr with ⟨rfl, h1⟩ | ⟨g, cap, cur, rfl, _⟩
  · exact ⟨none, 0, by rw [h1], fun x hx => ownH_hds (h.hds x hx), Or.inl (List.eq_nil_of_length_eq_zero h1)⟩
  · refine ⟨some ⟨g, 0, none⟩, cap, rfl, fun x hx => ownH_hds (h.hds x hx), Or.inr ⟨g, 0, rfl, (hlt g rfl).2, fun j hj => ?_⟩⟩
    have e : ∀ i, (⟨g, 0, none⟩ : Addr).add i = ⟨g, 0 + i, none⟩ := fun i => Go.WideShapes.add_plain _ _ _
    have k : ∀ i v, i < 6 → (rc1 (l.getD j dri))[i]? = some v → w.cell? ⟨g, 0 + (j * 6 + i), none⟩ = some v := fun i v hi hv => by
      have := hcell g rfl _ _ (rcs_at l j i v hj hi hv); rw [e] at this; exact this
    exact ⟨by have := k 0 _ (by omega) rfl; simpa [Nat.add_assoc] using this, by have := k 1 _ (by omega) rfl; simpa [Nat.add_assoc] using this, by have := k 2 _ (by omega) rfl; simpa [Nat.add_assoc] using this, by have := k 3 _ (by omega) rfl; simpa [Nat.add_assoc] using this, by have := k 4 _ (by omega) rfl; simpa [Nat.add_assoc] using this, by have := k 5 _ (by omega) rfl; simpa [Nat.add_assoc] using this⟩
theorem Held.kept {w w' : World} {B : Nat} {v : Value} {l : List RI} (h : Held w B v l) (hc : ∀ g, g < w.heap.size → (v.ownBlock = some g ∨ ∃ x ∈ l, x.hv.ownBlock = some g) → w'.heap[g]? = w.heap[g]?) : Held w' B v l :=
  ⟨own_apart h.row (fun g hg => hc g (World.ownsRow.lt h.row g hg).2 (Or.inl hg)), fun x hx => own_apart (h.hds x hx) (fun g hg => hc g (World.ownsRow.lt (h.hds x hx) g hg).2 (Or.inr ⟨x, hx, hg⟩)), h.ap⟩
/-- A block of another type is none of theirs. -/
theorem Held.ne {w : World} {B : Nat} {v : Value} {l : List RI} {k : Nat} {c : Array Value} {T : TypeId} {fz : Nat × Nat} (h : Held w B v l) (hk : w.heap[k]? = some (.cells c T fz)) (h1 : T ≠ 49) (h2 : T ≠ 51) : ¬ (v.ownBlock = some k ∨ ∃ x ∈ l, x.hv.ownBlock = some k) := by
  rintro (h3 | ⟨x, hx, h3⟩)
  · exact own_ne h.row hk h1 h3
  · exact own_ne (h.hds x hx) hk h2 h3
theorem ownH_blk {w : World} {B : Nat} {v : Value} {rs : List Hdr} {g : Nat} (h : OwnH w B v rs) (hg : v.ownBlock = some g) : ∃ c, w.heap[g]? = some (.cells c 51 (0, 0)) := by
  obtain ⟨_, h2⟩ := h
  rcases h2 with ⟨rfl, _⟩ | ⟨g', cap, cur, rfl, _, hh, _⟩
  · cases hg
  · have e1 : g' = g := by simpa [Value.ownBlock] using hg
    subst e1
    exact ⟨cur, hh⟩
/-- One more. -/
theorem Held.snoc {w w' : World} {B : Nat} {v v' : Value} {l : List RI} {x : RI} (h : Held w B v l) (hx : OwnH w B x.hv x.r.hs) (hap : ∀ y ∈ l, ∀ g, y.hv.ownBlock = some g → x.hv.ownBlock ≠ some g) (hr : w'.ownsRow B 49 6 v' (l.length + 1) (rcs l ++ rc1 x)) (hg : w.grownBy w' v.ownBlock) : Held w' B v' (l ++ [x]) := by
  have hk : ∀ y : RI, OwnH w B y.hv y.r.hs → OwnH w' B y.hv y.r.hs := fun y hy => own_apart hy (fun g hgb => by
    obtain ⟨c, hc⟩ := ownH_blk hy hgb
    exact hg.block g (lt_of_heap hc) (fun e => own_ne h.row hc (by decide) e.symm))
  refine ⟨?_, ?_, ?_⟩
  · rw [List.length_append, rcs_app]
    have : rcs [x] = rc1 x := by simp [rcs]
    rw [this]
    exact hr
  · intro y hy
    rcases List.mem_append.1 hy with hy | hy
    · exact hk y (h.hds y hy)
    · rw [List.mem_singleton] at hy; subst hy; exact hk _ hx
  · rw [List.pairwise_append]
    exact ⟨h.ap, List.pairwise_singleton _ _, fun y hy z hz => by rw [List.mem_singleton] at hz; subst hz; exact hap y hy⟩
theorem Tryz.infoRec : (Tryz.prog.info? 49).map (fun i => (i.zero, i.size, i.bytes)) = some (some (.agg #[.int .i64 0, .bool false, .string ⟨#[]⟩, .bool false, .string ⟨#[]⟩, .slice none 0 0]), 6, 80) := by kernel_rfl
theorem Tryz.underRecs : Tryz.prog.underlying 22 = some (.slice 49) := by kernel_rfl
/-- What ReadBody leaves. -/
def RbPost (R : Except Nat (List Rec)) (w : World) (r : Ending) (w' : World) : Prop :=
  Below w.heap.size w w' ∧ match R with
    | .error x => r = .returned (.tuple #[.slice none 0 0, .int .i64 x]) ∧ x ≠ 0
    | .ok y => ∃ v l, r = .returned (.tuple #[v, .int .i64 0]) ∧ Held w' w.heap.size v l ∧ l.map RI.r = y
set_option maxHeartbeats 1000000 in
set_option maxRecDepth 20000 in
theorem rbody_no (s : ByteArray) (first count : Int) (w : World) (hn : ¬ (1 ≤ count ∧ count ≤ 65536)) :
    Calls Tryz.prog 39 #[.string s, .int .i64 first, .int .i64 count] w (RbPost (rbd s first count) w) := by
  have e : rbd s first count = .error 28 := by unfold rbd; rw [if_pos hn]
  rw [e]
  have CI := hid (fun w => iscount_no count w hn)
  clear hn e
  go_enter Tryz.func39, Tryz.ntmps39
  go_wp2_with (go_at_call 74; refine (CI.out _).mono ?_; rintro e w' ⟨rfl, rfl⟩)
  go_ret2
  exact ⟨Below.refl _ _, rfl, by decide⟩
set_option maxHeartbeats 1000000 in
set_option maxRecDepth 20000 in
theorem rbody_big (s : ByteArray) (first count : Int) (w : World) (hn : 1 ≤ count ∧ count ≤ 65536) (hb : 16777216 < s.size) :
    Calls Tryz.prog 39 #[.string s, .int .i64 first, .int .i64 count] w (RbPost (rbd s first count) w) := by
  have e : rbd s first count = .error 66 := by unfold rbd; rw [if_neg (by omega), if_pos hb]
  rw [e]
  have CI := hid (fun w => iscount_yes count w hn)
  have hd : decide ((16777216 : Int) < (s.size : Int)) = true := decide_eq_true (by omega)
  clear hn e hb
  go_enter Tryz.func39, Tryz.ntmps39
  go_wp2_with (go_at_call 74; refine (CI.out _).mono ?_; rintro e w' ⟨rfl, rfl⟩)
  go_ret2
  exact ⟨Below.refl _ _, rfl, by decide⟩
end Go.Proofs.YtihokphamgkkcaaGreat
namespace Go.Proofs.YtihokphamgkkcaaGreat
open Go.RowKit
theorem nxt_good {s : ByteArray} {k : Nat} {first : Int} {n : Nat} {y : Rec × Nat} (hs : s.size ≤ 9223372036854775807) (hk : k ≤ s.size) (hn : n < 65536) (h : nxt s k first n = .ok y) : y.2 ≤ s.size := by
  obtain ⟨r, k'⟩ := y
  obtain ⟨h1, h2, _, _⟩ := (nxt_iff hs hk (by omega)).1 h
  have := h1.1
  dsimp only
  omega
theorem run_next {s : ByteArray} {first : Int} {j k : Nat} {l : List Rec} (h : run s first j = .ok (l, k)) : run s first (j + 1) = match nxt s k first j with
    | .error e => .error e
    | .ok (r, k') => if j = 0 ∧ r.t ≠ first then .error 27 else .ok (l ++ [r], k') := by
  show (match run s first j with | .error e => _ | .ok (l, k) => _) = _
  rw [h]
  all_goals (dsimp only; cases nxt s k first j <;> rfl)
theorem rbd_err {s : ByteArray} {first : Int} {C j e : Nat} (hC : 1 ≤ C ∧ C ≤ 65536) (hz : s.size ≤ 16777216) (hj : j ≤ C) (h : run s first j = .error e) : rbd s first C = .error e := by
  unfold rbd
  rw [if_neg (by omega), if_neg (by omega), Int.toNat_natCast]
  have := run_err h (C - j)
  rw [show j + (C - j) = C by omega] at this
  rw [this]
set_option maxHeartbeats 1000000 in
set_option maxRecDepth 20000 in
theorem rbody_yes (s : ByteArray) (first : Int) (C : Nat) (w : World) (hf : I64 first) (hC : 1 ≤ C ∧ C ≤ 65536) (hz : s.size ≤ 16777216) :
    Calls Tryz.prog 39 #[.string s, .int .i64 first, .int .i64 C] w (RbPost (rbd s first C) w) := by
  have CI := hid (fun w => iscount_yes C w (by omega))
  have hs : s.size ≤ 9223372036854775807 := by omega
  have CN := hid (fun q pb j k x h hr hq hk hn => next_any q pb s k first j x h hr hq hk hs hf hn)
  have CD := hid (fun b k x h hk => rdone_any b s k 0 x h hk hs)
  have HC := hid hC
  have HZ := hid hz
  have HS := hid hs
  obtain ⟨i0, hi, hz0, hz1, hz2⟩ := info_parts Tryz.infoRec
  have hd : decide ((16777216 : Int) < (s.size : Int)) = false := decide_eq_false (by omega)
  obtain ⟨CAP, hCAP, hle⟩ : ∃ CAP : Nat, min (C : Int) (wrap64 ((s.size : Int) / 7)) = (CAP : Int) ∧ CAP ≤ 65536 := ⟨(min (C : Int) (wrap64 ((s.size : Int) / 7))).toNat, by unfold wrap64; omega, by unfold wrap64; omega⟩
  clear hf hC hz hs
  go_enter Tryz.func39, Tryz.ntmps39
  go_wp2_with (go_at_call 74; refine (CI.out _).mono ?_; rintro e w' ⟨rfl, rfl⟩)
  refine (newrd_any s _).mono ?_
  rintro r w1 ⟨rfl, rfl⟩
  have hb : Below w'.heap.size w' ((w'.alloc (.cells #[.int .i64 0, .string s, .int .i64 0] 172)).alloc (.cells #[.pointer (some ⟨w'.heap.size, 0, none⟩), .int .i64 0] 119)) := ((Below.refl _ w').alloc (Nat.le_refl _) _).alloc (by simp) _
  have hrd : Rd ((w'.alloc (.cells #[.int .i64 0, .string s, .int .i64 0] 172)).alloc (.cells #[.pointer (some ⟨w'.heap.size, 0, none⟩), .int .i64 0] 119)) w'.heap.size s 0 0 := heap_alloc_at (heap_new _ _)
  have hrr : RR ((w'.alloc (.cells #[.int .i64 0, .string s, .int .i64 0] 172)).alloc (.cells #[.pointer (some ⟨w'.heap.size, 0, none⟩), .int .i64 0] 119)) (w'.heap.size + 1) w'.heap.size 0 := heap_new' _ _ _ (by simp)
  generalize (w'.alloc (.cells #[.int .i64 0, .string s, .int .i64 0] 172)).alloc (.cells #[.pointer (some ⟨w'.heap.size, 0, none⟩), .int .i64 0] 119) = w1 at *
  obtain ⟨w4, hmk, hown, hgrow⟩ := run_make_own (P := Tryz.prog) w1 w'.heap.size 22 49 i0 (.agg #[.int .i64 0, .bool false, .string ⟨#[]⟩, .bool false, .string ⟨#[]⟩, .slice none 0 0]) 6 Tryz.underRecs hi hz0 hz1 .i64 .i64 CAP (by rw [hz2]; omega) (by unfold maxLen; omega) hb.size
  have hb4 : Below w1.heap.size w1 w4 := (Below.refl _ _).grown hgrow (Nat.le_refl _) (fun k hk => by cases hk)
  have HB4 : Hid (Below w'.heap.size w' w4) := bel_next hb (Nat.le_refl _) hb4
  have H4 : Hid (RR w4 (w'.heap.size + 1) w'.heap.size 0) := (hb4.block _ hrr.lt).trans hrr
  have HR4 : Hid (Rd w4 w'.heap.size s 0 0) := hrd.below hb4 hrd.lt
  have HO4 : Hid (Held w4 w'.heap.size (.slice (some ⟨w1.heap.size, 0, none⟩) 0 CAP) []) := ⟨hown, fun x hx => by simp at hx, List.Pairwise.nil⟩
  clear hown hgrow hb4 hb hrd hrr
  go_wp2_with fail
  clear hmk hCAP
  go_loopg [9, 29] C (fun g o i wr => ∃ (j k : Nat) (acc : List RI), j + g = C ∧ i = .int .i64 j ∧ Hid (run s first j = .ok (acc.map RI.r, k)) ∧ Hid (k ≤ s.size) ∧ Hid (Held wr w'.heap.size o acc) ∧ Hid (RR wr (w'.heap.size + 1) w'.heap.size 0) ∧ Hid (Rd wr w'.heap.size s k 0) ∧ Hid (Below w'.heap.size w' wr))
  case atStart => exact ⟨0, 0, [], by omega, rfl, rfl, Nat.zero_le _, HO4, H4, HR4, HB4⟩
  case round =>
    clear HO4 H4 HR4 HB4
    obtain ⟨j, k, acc, hk, rfl, HRN, HK, HO, HRR, HRD, HB⟩ := hrel
    by_cases hlt : j < C
    · obtain ⟨g, rfl⟩ : ∃ g, gk = g + 1 := ⟨gk - 1, by omega⟩
      have cn := CN.out (w'.heap.size + 1) w'.heap.size j k wr HRR.out HRD.out (by omega) HK.out (by have := HC.out; omega)
      have hn := run_next HRN.out
      have hlt' : (j : Int) < C := by omega
      cases hx : nxt s k first j with
      | error x =>
        rw [hx] at cn hn
        have HE := hid (rbd_err HC.out HZ.out (show j + 1 ≤ C by omega) hn)
        have CNN := hid cn
        clear cn hn hx
        go_wp2_with fail
        refine CNN.out.mono ?_
        rintro r w5 ⟨hc5, rfl, hx0⟩
        have HB5 := hid (HB.out.trans (hc5.below HB.out.size (fun i hi h => by omega)))
        have hne : ((x : Int) != 0) = true := by rw [bne_iff_ne]; omega
        have HX := hid hx0
        clear hx0 hc5
        unfold noRec
        go_wp2_with fail
        go_ret2
        show RbPost _ _ _ _
        rw [HE.out]
        exact ⟨HB5.out.alloc HB5.out.size _, rfl, HX.out⟩
      | ok y =>
        obtain ⟨R, k'⟩ := y
        rw [hx] at cn hn
        have HK' := hid (nxt_good HS.out HK.out (by have := HC.out; omega) hx)
        have HN := hid hn
        have CNN := hid cn
        clear cn hn hx
        go_wp2_with fail
        refine CNN.out.mono ?_
        rintro r w5 ⟨hc5, a5, cap5, rfl, ho5, hrr5, hrd5, hk5⟩
        have HB5 := hid (HB.out.trans (hc5.below HB.out.size (fun i hi h => by omega)))
        have HO5 : Hid (Held w5 w'.heap.size u9 acc) := HO.out.kept (fun g hg hh => hc5.block g hg (fun e => by subst e; exact HO.out.ne HRD.out (by decide) (by decide) hh))
        have HOX : Hid (OwnH w5 w'.heap.size (RI.hv ⟨R, a5, cap5⟩) R.hs) := own_base HB.out.size ho5
        have HAP : Hid (∀ y ∈ acc, ∀ g, y.hv.ownBlock = some g → (RI.hv ⟨R, a5, cap5⟩).ownBlock ≠ some g) := fun y hy g hg he => by
          have h1 := (World.ownsRow.lt (HO.out.hds y hy) g hg).2
          have h2 := (World.ownsRow.lt ho5 g he).1
          omega
        have HR5 := hid hrd5
        have H5 := hid hrr5
        have hsz5 := HB5.out.size
        clear hc5 ho5 hrr5 hrd5
        obtain ⟨t, kh, kd, vh, vd, hs⟩ := R
        simp only [recV]
        have HLEN : Hid (acc.length = j) := by
          have := (run_ran HS.out (show j ≤ 65536 by have := HC.out; omega) HRN.out).len
          rw [List.length_map] at this
          exact this
        by_cases hj0 : j = 0
        · have ej : ((j : Int) == 0) = true := by rw [beq_iff_eq]; omega
          by_cases ht : t = first
          · have et : (t != first) = false := by rw [ht]; simp
            have HNN : Hid (run s first (j + 1) = .ok (acc.map RI.r ++ [⟨t, kh, kd, vh, vd, hs⟩], k')) := by
              show _ = _
              rw [HN.out]; dsimp only; rw [if_neg (fun h => h.2 ht)]
            clear hj0 ht HN
            have hrow := HO5.out.row
            go_wp2_with (at_builtin; refine wpList_append_own _ rfl _ _ 22 rfl w'.heap.size 49 i0 (.agg #[.int .i64 0, .bool false, .string ⟨#[]⟩, .bool false, .string ⟨#[]⟩, .slice none 0 0]) 6 80 Tryz.underRecs hi hz0 hz1 hz2 rfl (by decide) _ _ _ rfl ((hrow.alloc _).alloc _) ⟨w5.heap.size + 1, 0, none⟩ 1 1 (rc1 ⟨⟨t, kh, kd, vh, vd, hs⟩, a5, cap5⟩) rfl rfl ?c1 ?c2 ?c3 ?c4 ?c5 ?_)
            case c1 => exact fun j u h => h
            case c2 => exact rc1_one _
            case c3 => have := HLEN.out; have := HC.out; unfold maxLen; omega
            case c4 => have := HLEN.out; have := HC.out; omega
            case c5 => omega
            intro v' w7 hown7 hgrow7 _
            have hba : Below w5.heap.size w5 ((w5.alloc (.cells #[.int .i64 t, .bool kh, .string kd, .bool vh, .string vd, .slice a5 hs.length cap5] 49)).alloc (.cells (rc1 ⟨⟨t, kh, kd, vh, vd, hs⟩, a5, cap5⟩).toArray 49)) := ((Below.refl _ _).alloc (Nat.le_refl _) _).alloc (by simp) _
            have hH6 := HO5.out.kept (fun g hg _ => hba.block g hg)
            have hX6 := own_apart HOX.out (fun g hg => hba.block g (World.ownsRow.lt HOX.out g hg).2)
            have HO7 := hid (hH6.snoc hX6 HAP.out hown7 hgrow7)
            have hrd6 := HR5.out.below hba HR5.out.lt
            have hrr6 : RR _ _ _ _ := (hba.block _ H5.out.lt).trans H5.out
            have HR7 : Hid (Rd w7 w'.heap.size s k' 0) := (hgrow7.block _ (lt_of_heap hrd6) (fun e => own_ne hH6.row hrd6 (by decide) e.symm)).trans hrd6
            have H7 : Hid (RR w7 (w'.heap.size + 1) w'.heap.size 0) := (hgrow7.block _ (lt_of_heap hrr6) (fun e => own_ne hH6.row hrr6 (by decide) e.symm)).trans hrr6
            have HB7 : Hid (Below w'.heap.size w' w7) := (bel_next HB5.out (Nat.le_refl _) hba).grown hgrow7 (Nat.le_trans hsz5 hba.size) (fun k hk => (World.ownsRow.lt hH6.row k hk).1)
            clear hown7 hgrow7 hba hH6 hX6 hrd6 hrr6 hrow
            go_wp2_with fail
            go_roundg g
            case measure => omega
            case rel => have hCC := HC.out; have ew : wrap64 ((j : Int) + 1) = ((j + 1 : Nat) : Int) := by { unfold wrap64; omega }; exact ⟨j + 1, k', acc ++ [⟨⟨t, kh, kd, vh, vd, hs⟩, a5, cap5⟩], by omega, congrArg (Value.int .i64) ew, by show run _ _ _ = _; rw [List.map_append]; exact HNN.out, HK', HO7, H7, HR7, HB7⟩
          · have et : (t != first) = true := by rw [bne_iff_ne]; exact ht
            have HNN : Hid (rbd s first C = .error 27) := by
              refine rbd_err HC.out HZ.out (show j + 1 ≤ C by omega) ?_
              rw [HN.out]; dsimp only; rw [if_pos ⟨hj0, ht⟩]
            clear hj0 ht HN
            go_wp2_with fail
            go_ret2
            show RbPost _ _ _ _
            rw [HNN.out]
            exact ⟨HB5.out.alloc HB5.out.size _, rfl, by decide⟩
        · have ej : ((j : Int) == 0) = false := by rw [beq_eq_false_iff_ne]; omega
          have HNN : Hid (run s first (j + 1) = .ok (acc.map RI.r ++ [⟨t, kh, kd, vh, vd, hs⟩], k')) := by
            show _ = _
            rw [HN.out]; dsimp only; rw [if_neg (fun h => hj0 h.1)]
          clear hj0 HN
          have hrow := HO5.out.row
          go_wp2_with (at_builtin; refine wpList_append_own _ rfl _ _ 22 rfl w'.heap.size 49 i0 (.agg #[.int .i64 0, .bool false, .string ⟨#[]⟩, .bool false, .string ⟨#[]⟩, .slice none 0 0]) 6 80 Tryz.underRecs hi hz0 hz1 hz2 rfl (by decide) _ _ _ rfl ((hrow.alloc _).alloc _) ⟨w5.heap.size + 1, 0, none⟩ 1 1 (rc1 ⟨⟨t, kh, kd, vh, vd, hs⟩, a5, cap5⟩) rfl rfl ?c1 ?c2 ?c3 ?c4 ?c5 ?_)
          case c1 => exact fun j u h => h
          case c2 => exact rc1_one _
          case c3 => have := HLEN.out; have := HC.out; unfold maxLen; omega
          case c4 => have := HLEN.out; have := HC.out; omega
          case c5 => omega
          intro v' w7 hown7 hgrow7 _
          have hba : Below w5.heap.size w5 ((w5.alloc (.cells #[.int .i64 t, .bool kh, .string kd, .bool vh, .string vd, .slice a5 hs.length cap5] 49)).alloc (.cells (rc1 ⟨⟨t, kh, kd, vh, vd, hs⟩, a5, cap5⟩).toArray 49)) := ((Below.refl _ _).alloc (Nat.le_refl _) _).alloc (by simp) _
          have hH6 := HO5.out.kept (fun g hg _ => hba.block g hg)
          have hX6 := own_apart HOX.out (fun g hg => hba.block g (World.ownsRow.lt HOX.out g hg).2)
          have HO7 := hid (hH6.snoc hX6 HAP.out hown7 hgrow7)
          have hrd6 := HR5.out.below hba HR5.out.lt
          have hrr6 : RR _ _ _ _ := (hba.block _ H5.out.lt).trans H5.out
          have HR7 : Hid (Rd w7 w'.heap.size s k' 0) := (hgrow7.block _ (lt_of_heap hrd6) (fun e => own_ne hH6.row hrd6 (by decide) e.symm)).trans hrd6
          have H7 : Hid (RR w7 (w'.heap.size + 1) w'.heap.size 0) := (hgrow7.block _ (lt_of_heap hrr6) (fun e => own_ne hH6.row hrr6 (by decide) e.symm)).trans hrr6
          have HB7 : Hid (Below w'.heap.size w' w7) := (bel_next HB5.out (Nat.le_refl _) hba).grown hgrow7 (Nat.le_trans hsz5 hba.size) (fun k hk => (World.ownsRow.lt hH6.row k hk).1)
          clear hown7 hgrow7 hba hH6 hX6 hrd6 hrr6 hrow
          go_wp2_with fail
          go_roundg g
          case measure => omega
          case rel => have hCC := HC.out; have ew : wrap64 ((j : Int) + 1) = ((j + 1 : Nat) : Int) := by { unfold wrap64; omega }; exact ⟨j + 1, k', acc ++ [⟨⟨t, kh, kd, vh, vd, hs⟩, a5, cap5⟩], by omega, congrArg (Value.int .i64) ew, by show run _ _ _ = _; rw [List.map_append]; exact HNN.out, HK', HO7, H7, HR7, HB7⟩
    · have hj : j = C := by omega
      subst hj
      have hR : ∀ x, dq s k 0 = x → (x ≠ 0 → rbd s first j = .error x) ∧ (x = 0 → rbd s first j = .ok (acc.map RI.r)) := by
        intro x hx
        unfold dq at hx
        unfold rbd
        have h1 := HC.out
        have h2 := HZ.out
        rw [if_neg (by omega), if_neg (by omega), Int.toNat_natCast, HRN.out]
        dsimp only
        by_cases h3 : k < s.size
        · rw [if_pos ⟨rfl, h3⟩] at hx
          rw [if_pos h3]
          exact ⟨fun _ => by rw [hx], fun h => absurd (hx.trans h) (by decide)⟩
        · rw [if_neg (fun h => h3 h.2)] at hx
          rw [if_neg h3]
          exact ⟨fun h => absurd hx.symm h, fun _ => rfl⟩
      have cd := CD.out w'.heap.size k wr HRD.out HK.out
      have c0 := HRR.out.c0
      generalize hdq' : dq s k 0 = D at *
      obtain ⟨hR1, hR2⟩ := hR D rfl
      have CDD := hid cd
      clear cd hR hdq'
      by_cases hD : D = 0
      · subst hD
        have HE := hid (hR2 rfl)
        clear hR1 hR2
        go_wp2_with fail
        refine CDD.out.mono ?_
        rintro r w5 ⟨rfl, n, rfl⟩
        go_wp2_with fail
        go_ret2
        show RbPost _ _ _ _
        rw [HE.out]
        exact ⟨drewN_bel HB.out n, _, acc, rfl, HO.out.kept (fun g _ _ => rfl), rfl⟩
      · have HE := hid (hR1 hD)
        have hne : ((D : Int) != 0) = true := by rw [bne_iff_ne]; omega
        have HD := hid hD
        clear hR1 hR2 hD
        go_wp2_with fail
        refine CDD.out.mono ?_
        rintro r w5 ⟨rfl, n, rfl⟩
        go_wp2_with fail
        go_ret2
        show RbPost _ _ _ _
        rw [HE.out]
        exact ⟨drewN_bel HB.out n, rfl, HD.out⟩
theorem rbody_any (s : ByteArray) (first count : Int) (w : World) (hf : I64 first) :
    Calls Tryz.prog 39 #[.string s, .int .i64 first, .int .i64 count] w (RbPost (rbd s first count) w) := by
  by_cases h : 1 ≤ count ∧ count ≤ 65536
  · obtain ⟨C, rfl⟩ : ∃ C : Nat, count = (C : Int) := ⟨count.toNat, by omega⟩
    by_cases hb : 16777216 < s.size
    · exact rbody_big s first C w h hb
    · exact rbody_yes s first C w hf (by omega) (by omega)
  · exact rbody_no s first count w h
end Go.Proofs.YtihokphamgkkcaaGreat
namespace Go.Proofs.YtihokphamgkkcaaGreat
open Go.RowKit
theorem fm_byte (d : Int) (n : Nat) (r : Rec) (hd : I64 d) (hn : n < 65536) (hh : r.hs.length ≤ 1024) (hm : Mod r) : ∀ b ∈ fm d n r, b < 256 := by
  intro b hb
  have ho := own_le d n r hm
  unfold fm at hb
  rcases List.mem_append.1 hb with hb | hb
  · exact M.form_byte (by omega) b hb
  · exact own_byte d n r hd (by omega) (by omega) hm b hb
theorem bdy_byte (first : Int) : ∀ (l : List Rec) (n : Nat), n + l.length ≤ 65536 → (∀ i x, l[i]? = some x → sze x first ((n + i : Nat) : Int) = 0 ∧ Mod x) → ∀ b ∈ bdy first n l, b < 256
  | [], n, _, _ => fun b hb => by simp [bdy] at hb
  | r :: l, n, hl, h => fun b hb => by
    rw [bdy] at hb
    rw [List.length_cons] at hl
    rcases List.mem_append.1 hb with hb | hb
    · obtain ⟨h1, h2⟩ := h 0 r rfl
      obtain ⟨_, h3, h4, _⟩ := sze_ok h1
      exact fm_byte _ n r h3 (by omega) h4 h2 b hb
    · refine bdy_byte first l (n + 1) (by omega) (fun i x hx => ?_) b hb
      have := h (i + 1) x (by simpa using hx)
      rw [show n + 1 + i = n + (i + 1) by omega]
      exact this
theorem cln_good {r : Rec} {first : Int} {N : Nat} (ht : I64 r.t) (hz : sze r first N = 0) : Good first (cln r) := by
  obtain ⟨_, hi, hh, _⟩ := sze_ok hz
  refine ⟨ht, hi, cl_bd _ _, cl_bd _ _, by show (List.map _ _).length ≤ 1024; rw [List.length_map]; exact hh, ?_⟩
  intro x hx
  simp only [cln, List.mem_map] at hx
  obtain ⟨y, _, rfl⟩ := hx
  exact cl_bd _ _
theorem run_back {S : ByteArray} {l : List RI} (hT : ∀ x ∈ l, I64 x.r.t) (hL : l.length ≤ 65536) (hS : bl S = bdy (l.getD 0 dri).r.t 0 (l.map RI.r)) (hz : ∀ i, i < l.length → sze (l.getD i dri).r (l.getD 0 dri).r.t i = 0) (hs : S.size ≤ 9223372036854775807) : ∀ j, j ≤ l.length → run S (l.getD 0 dri).r.t j = .ok (((l.take j).map RI.r).map cln, (bdy (l.getD 0 dri).r.t 0 ((l.take j).map RI.r)).length)
  | 0, _ => rfl
  | j + 1, hj => by
    have ih := run_back hT hL hS hz hs j (by omega)
    have h0 := hz j (by omega)
    have hle := (sze_ok h0).2.2.2
    rw [Int.toNat_natCast] at hle
    have hst : Stands S 0 (bdy (l.getD 0 dri).r.t 0 (l.map RI.r)) := (stands_whole.2 hS).1
    rw [← List.take_append_drop (j + 1) l, List.map_append, bdy_app, stands_app] at hst
    have hst := hst.1
    rw [List.take_append_drop, bdy_take _ (by omega), stands_app, Nat.zero_add] at hst
    have hk : (bdy (l.getD 0 dri).r.t 0 ((l.take j).map RI.r)).length ≤ S.size := by have := hst.1.1; omega
    have hn : nxt S (bdy (l.getD 0 dri).r.t 0 ((l.take j).map RI.r)).length (l.getD 0 dri).r.t j = .ok (cln (l.getD j dri).r, (bdy (l.getD 0 dri).r.t 0 ((l.take j).map RI.r)).length + (fm ((l.getD j dri).r.t - (l.getD 0 dri).r.t) j (l.getD j dri).r).length) := by
      refine (nxt_iff hs hk (by omega)).2 ?_
      have ec : (cln (l.getD j dri).r).t = (l.getD j dri).r.t := rfl
      rw [ec, fm_cln]
      exact ⟨hst.2, rfl, cln_good (hT _ (riD_mem (by omega))) h0, hle⟩
    rw [run_next ih, hn]
    dsimp only
    have ht : ¬ (j = 0 ∧ (cln (l.getD j dri).r).t ≠ (l.getD 0 dri).r.t) := by
      rintro ⟨rfl, h⟩
      exact h rfl
    rw [if_neg ht, take_getD (by omega), List.map_append, List.map_append, show List.map RI.r [l.getD j dri] = [(l.getD j dri).r] from rfl, bdy_snoc, List.length_append, List.length_map, List.length_take, Nat.min_eq_left (by omega)]
    rfl
theorem body_back {l : List RI} {S : ByteArray} (hT : ∀ x ∈ l, I64 x.r.t) (hM : ∀ x ∈ l, Mod x.r) (h : BodyP l 0 S) : (1 ≤ l.length ∧ l.length ≤ 65536) ∧ S.size ≤ 16777216 ∧ (∀ i, i < l.length → sze (l.getD i dri).r (l.getD 0 dri).r.t i = 0) ∧ bl S = bdy (l.getD 0 dri).r.t 0 (l.map RI.r) ∧ rbd S (l.getD 0 dri).r.t l.length = .ok ((l.map RI.r).map cln) ∧ ∃ x, rbd S (l.getD 0 dri).r.t (l.length + 1 : Nat) = .error x := by
  obtain ⟨hE, _, hS⟩ := h
  have hS := hS rfl
  rcases hE with ⟨_, h⟩ | ⟨hL, hF⟩
  · cases h
  obtain ⟨hz, hlen⟩ := (fit_zero hF).1 rfl
  have hby : ∀ b ∈ bdy (l.getD 0 dri).r.t 0 (l.map RI.r), b < 256 := by
    refine bdy_byte _ _ 0 (by rw [List.length_map]; omega) (fun i x hx => ?_)
    rw [List.getElem?_map] at hx
    cases hi : l[i]? with
    | none => rw [hi] at hx; cases hx
    | some y =>
      rw [hi] at hx
      injection hx with hx
      subst hx
      have hil : i < l.length := (List.getElem?_eq_some_iff.1 hi).1
      have ey : l.getD i dri = y := by rw [List.getD_eq_getElem?_getD, hi]; rfl
      have := hz i hil
      rw [ey] at this
      rw [Nat.zero_add]
      exact ⟨this, hM y (List.mem_of_getElem? hi)⟩
  have hbl : bl S = bdy (l.getD 0 dri).r.t 0 (l.map RI.r) := by rw [hS, bl_bs _ hby]
  have hsz : S.size = (bdy (l.getD 0 dri).r.t 0 (l.map RI.r)).length := by rw [← hbl, bl_len]
  have hr := run_back hT hL.2 hbl hz (by omega) l.length (Nat.le_refl _)
  rw [List.take_length, ← hsz] at hr
  refine ⟨hL, by omega, hz, hbl, ?_, ?_⟩
  · unfold rbd
    rw [if_neg (by omega), if_neg (by omega), Int.toNat_natCast, hr]
    dsimp only
    rw [if_neg (by omega)]
  · by_cases h65 : l.length + 1 ≤ 65536
    · cases hn : nxt S S.size (l.getD 0 dri).r.t l.length with
      | error x =>
        refine ⟨x, rbd_err (by omega) (by omega) (Nat.le_refl _) ?_⟩
        rw [run_next hr, hn]
      | ok y =>
        obtain ⟨r, k'⟩ := y
        obtain ⟨h1, _⟩ := (nxt_iff (by omega) (Nat.le_refl _) (by omega)).1 hn
        have h2 := h1.1
        have h3 := (fm_len (r.t - (l.getD 0 dri).r.t) l.length r).2
        omega
    · exact ⟨28, by unfold rbd; rw [if_pos (by omega)]⟩
theorem body_again {s : ByteArray} {first count : Int} {l : List RI} (h : rbd s first count = .ok (l.map RI.r)) : (∀ x ∈ l, I64 x.r.t ∧ Mod x.r) ∧ (l.length : Int) = count ∧ 0 < l.length ∧ (l.getD 0 dri).r.t = first ∧ s.size ≤ 16777216 ∧ ∀ E S, BodyP l E S → E = 0 ∧ S = s := by
  unfold rbd at h
  by_cases hc : ¬ (1 ≤ count ∧ count ≤ 65536)
  · rw [if_pos hc] at h; cases h
  rw [if_neg hc] at h
  by_cases hs : 16777216 < s.size
  · rw [if_pos hs] at h; cases h
  rw [if_neg hs] at h
  cases hr : run s first count.toNat with
  | error e => rw [hr] at h; cases h
  | ok y =>
    obtain ⟨m, k⟩ := y
    rw [hr] at h
    dsimp only at h
    by_cases hk : k < s.size
    · rw [if_pos hk] at h; cases h
    rw [if_neg hk] at h
    injection h with h
    subst h
    have R := run_ran (by omega) (by omega) hr
    have hlen : l.length = count.toNat := by have := R.len; rw [List.length_map] at this; exact this
    have hget : ∀ i, i < l.length → (l.map RI.r)[i]? = some (l.getD i dri).r := fun i hi => by
      rw [List.getElem?_map, List.getD_eq_getElem?_getD, List.getElem?_eq_getElem hi]; rfl
    have hgood : ∀ i, i < l.length → Good first (l.getD i dri).r ∧ (fm ((l.getD i dri).r.t - first) i (l.getD i dri).r).length ≤ 16777216 := fun i hi => ⟨R.good _ (List.mem_of_getElem? (hget i hi)), R.fit i _ (hget i hi)⟩
    have hone := R.one _ (hget 0 (by omega))
    have hbl : bl s = bdy first 0 (l.map RI.r) := stands_whole.1 ⟨R.st, by have := R.k; omega⟩
    refine ⟨fun x hx => ?_, by omega, by omega, hone, by omega, fun E S hP => ?_⟩
    · obtain ⟨i, hi⟩ := List.getElem?_of_mem hx
      have hil : i < l.length := (List.getElem?_eq_some_iff.1 hi).1
      have ey : l.getD i dri = x := by rw [List.getD_eq_getElem?_getD, hi]; rfl
      have := hgood i hil
      rw [ey] at this
      exact ⟨this.1.1, good_mod this.1 this.2⟩
    · obtain ⟨hE, _, hS⟩ := hP
      unfold BodyE at hE
      rw [hone] at hE hS
      have hE0 : E = 0 := by
        rcases hE with ⟨h, _⟩ | ⟨_, hF⟩
        · exact absurd (show 1 ≤ l.length ∧ l.length ≤ 65536 by omega) h
        · refine (fit_zero hF).2 ⟨fun i hi => ?_, by rw [← hbl, bl_len]; omega⟩
          obtain ⟨⟨g1, g2, _, _, g5, _⟩, g7⟩ := hgood i hi
          unfold sze
          rw [if_neg (by omega), if_neg (by simpa using g2), if_neg (by omega), Int.toNat_natCast, if_neg (by omega)]
      exact ⟨hE0, by rw [hS hE0, ← hbl, bs_bl]⟩
theorem bs_cat (l m : List Nat) : bs (l ++ m) = bs l ++ bs m := by
  unfold bs
  apply ByteArray.ext
  rw [ByteArray.data_append]
  simp
theorem same_cln (r : Rec) (a a2 : Option Addr) (cap cap2 : Nat) (w : World) (V1 : Hds w a2 (cln r).hs) (V2 : Hds w a r.hs) (hz : r.hs.length ≤ 9223372036854775807) :
    Calls Tryz.prog 43 #[recV (cln r) a2 cap2, recV r a cap] w fun e w' => e = .returned (.bool true) ∧ Below w.heap.size w w' := by
  have e : (cln r).hs.length = r.hs.length := List.length_map _
  have h := same_yes r.t r.kh r.vh (bd r.kh r.kd) r.kd (bd r.vh r.vd) r.vd (cln r).hs r.hs a2 a cap2 cap w V1 V2 (by omega) (bd_bd _ _).symm (bd_bd _ _).symm e.symm (fun j hj => by
    have hj' : j < r.hs.length := by omega
    have e1 : (cln r).hs.getD j df = ((r.hs.getD j df).1, (r.hs.getD j df).2.1, bd (r.hs.getD j df).2.1 (r.hs.getD j df).2.2) := by
      show (List.map _ _).getD j df = _
      rw [List.getD_eq_getElem?_getD, List.getElem?_map, List.getElem?_eq_getElem hj', List.getD_eq_getElem?_getD, List.getElem?_eq_getElem hj']
      rfl
    rw [e1]
    exact ⟨rfl, rfl, (bd_bd _ _).symm⟩)
  unfold recV
  rw [e] at h ⊢
  exact h
end Go.Proofs.YtihokphamgkkcaaGreat
namespace Go.Proofs.YtihokphamgkkcaaGreat
open Go.RowKit
/-- The greatest of the first j times. -/
def gm (l : List RI) : Nat → Int
  | 0 => (l.getD 0 dri).r.t
  | j + 1 => if gm l j < (l.getD j dri).r.t then (l.getD j dri).r.t else gm l j
def grt (l : List RI) : Int := if l.length = 0 then 0 else gm l l.length
set_option maxHeartbeats 1000000 in
set_option maxRecDepth 20000 in
theorem greatest_any (l : List RI) (a : Option Addr) (cap : Nat) (w : World) (V : Rcs w a l) (hL : l.length ≤ 9223372036854775806) :
    Calls Tryz.prog 48 #[.slice a l.length cap] w fun e w' => e = .returned (.int .i64 (grt l)) ∧ Below w.heap.size w w' := by
  have HVV := hid V
  clear V
  by_cases h0 : l.length = 0
  · have e0 : grt l = 0 := by unfold grt; rw [if_pos h0]
    rw [e0, h0]
    go_enter Tryz.func48, Tryz.ntmps48
    go_wp2_with fail
    go_ret
    exact ⟨rfl, Below.refl _ _⟩
  · have HE : Hid (grt l = gm l l.length) := by show _ = _; unfold grt; rw [if_neg h0]
    have hl0 : 0 < l.length := by omega
    rcases HVV.out.2 with h | ⟨b, off, rfl, hbl, hc⟩
    · rw [h] at hl0; simp at hl0
    have q0 : w.cell? ⟨b, off, none⟩ = some (.int .i64 (l.getD 0 dri).r.t) := by simpa using (hc 0 hl0).1
    have i0 : (0 : Int) < l.length := by omega
    have n0 : ((l.length : Int) == 0) = false := by rw [beq_eq_false_iff_ne]; omega
    have G0 : (l.getD 0 dri).r.t = gm l 0 := rfl
    rw [G0] at q0
    go_enter Tryz.func48, Tryz.ntmps48
    go_wp2_with fail
    clear q0
    go_loopg [3, 15] l.length (fun k v i wr => ∃ j : Nat, j + k = l.length ∧ v = .int .i64 (gm l j) ∧ i = .int .i64 j ∧ Hid (Below w.heap.size w wr))
    case atStart => exact ⟨0, by omega, rfl, rfl, Below.refl _ _⟩
    case round =>
      obtain ⟨j, hk, rfl, rfl, HB⟩ := hrel
      by_cases hlt : j < l.length
      · obtain ⟨k, rfl⟩ : ∃ k, gk = k + 1 := ⟨gk - 1, by omega⟩
        obtain ⟨q0, q1, q2, q3, q4, q5⟩ := hc j hlt
        have hcw : ∀ o, wr.cell? ⟨b, o, none⟩ = w.cell? ⟨b, o, none⟩ := fun o => HB.out.cell (p := ⟨b, o, none⟩) hbl
        have l0 := (hcw (off + j * 6)).trans q0
        have l1 := (hcw (off + j * 6 + 1)).trans q1
        have l2 := (hcw (off + j * 6 + 2)).trans q2
        have l3 := (hcw (off + j * 6 + 3)).trans q3
        have l4 := (hcw (off + j * 6 + 4)).trans q4
        have l5 := (hcw (off + j * 6 + 5)).trans q5
        have hst : gm l (j + 1) = if gm l j < (l.getD j dri).r.t then (l.getD j dri).r.t else gm l j := rfl
        have i1 : (0 : Int) ≤ (j : Int) := by omega
        have i2 : (j : Int) < l.length := by omega
        have hj63 : j < 9223372036854775806 := by omega
        clear hcw q0 q1 q2 q3 q4 q5
        generalize l.getD j dri = x at *
        obtain ⟨⟨t, kh, kd, vh, vd, hs⟩, xa, xc⟩ := x
        simp only at l0 l1 l2 l3 l4 l5 hst
        by_cases hm : gm l j < t
        · rw [if_pos hm] at hst
          have HST := hid hst
          have hm1 : max (gm l j) t = t := by omega
          clear hst
          generalize gm l j = G at *
          go_wp2_with fail
          go_roundg k
          case measure => omega
          case rel => exact ⟨j + 1, by omega, by rw [HST.out], by go_num, HB.out.alloc HB.out.size _⟩
        · rw [if_neg hm] at hst
          have HST := hid hst
          have hm1 : max (gm l j) t = gm l j := by omega
          clear hst
          generalize gm l j = G at *
          go_wp2_with fail
          go_roundg k
          case measure => omega
          case rel => exact ⟨j + 1, by omega, by rw [HST.out], by go_num, HB.out.alloc HB.out.size _⟩
      · have hj : j = l.length := by omega
        subst hj
        go_wp2_with fail
        go_ret
        exact ⟨by rw [HE.out]; rfl, HB.out⟩
end Go.Proofs.YtihokphamgkkcaaGreat
namespace Go.Proofs.YtihokphamgkkcaaGreat
open Go.RowKit
set_option maxHeartbeats 1000000 in
set_option maxRecDepth 20000 in
theorem xgreatest_any (l : List RI) (a : Option Addr) (cap : Nat) (w : World) (V : Rcs w a l) (hL : l.length ≤ 9223372036854775806) :
    Calls Tryz.prog 32 #[.slice a l.length cap] w fun e w' => e = .returned (.int .i64 (grt l)) ∧ Below w.heap.size w w' := by
  have HVV := hid V
  clear V
  by_cases h0 : l.length = 0
  · have e0 : grt l = 0 := by unfold grt; rw [if_pos h0]
    rw [e0, h0]
    go_enter Tryz.func32, Tryz.ntmps32
    go_wp2_with fail
    go_ret
    exact ⟨rfl, Below.refl _ _⟩
  · have HE : Hid (grt l = gm l l.length) := by show _ = _; unfold grt; rw [if_neg h0]
    have hl0 : 0 < l.length := by omega
    rcases HVV.out.2 with h | ⟨b, off, rfl, hbl, hc⟩
    · rw [h] at hl0; simp at hl0
    have q0 : w.cell? ⟨b, off, none⟩ = some (.int .i64 (l.getD 0 dri).r.t) := by simpa using (hc 0 hl0).1
    have i0 : (0 : Int) < l.length := by omega
    have n0 : ((l.length : Int) == 0) = false := by rw [beq_eq_false_iff_ne]; omega
    have G0 : (l.getD 0 dri).r.t = gm l 0 := rfl
    rw [G0] at q0
    go_enter Tryz.func32, Tryz.ntmps32
    go_wp2_with fail
    clear q0
    go_loopg [3, 4] l.length (fun k v i wr => ∃ j : Nat, j + k = l.length ∧ v = .int .i64 (gm l j) ∧ i = .int .i64 j ∧ Hid (Below w.heap.size w wr))
    case atStart => exact ⟨0, by omega, rfl, rfl, Below.refl _ _⟩
    case round =>
      obtain ⟨j, hk, rfl, rfl, HB⟩ := hrel
      by_cases hlt : j < l.length
      · obtain ⟨k, rfl⟩ : ∃ k, gk = k + 1 := ⟨gk - 1, by omega⟩
        obtain ⟨q0, q1, q2, q3, q4, q5⟩ := hc j hlt
        have hcw : ∀ o, wr.cell? ⟨b, o, none⟩ = w.cell? ⟨b, o, none⟩ := fun o => HB.out.cell (p := ⟨b, o, none⟩) hbl
        have l0 := (hcw (off + j * 6)).trans q0
        have l1 := (hcw (off + j * 6 + 1)).trans q1
        have l2 := (hcw (off + j * 6 + 2)).trans q2
        have l3 := (hcw (off + j * 6 + 3)).trans q3
        have l4 := (hcw (off + j * 6 + 4)).trans q4
        have l5 := (hcw (off + j * 6 + 5)).trans q5
        have hst : gm l (j + 1) = if gm l j < (l.getD j dri).r.t then (l.getD j dri).r.t else gm l j := rfl
        have i1 : (0 : Int) ≤ (j : Int) := by omega
        have i2 : (j : Int) < l.length := by omega
        have hj63 : j < 9223372036854775806 := by omega
        clear hcw q0 q1 q2 q3 q4 q5
        generalize l.getD j dri = x at *
        obtain ⟨⟨t, kh, kd, vh, vd, hs⟩, xa, xc⟩ := x
        simp only at l0 l1 l2 l3 l4 l5 hst
        by_cases hm : gm l j < t
        · rw [if_pos hm] at hst
          have HST := hid hst
          have hm1 : max (gm l j) t = t := by omega
          clear hst
          generalize gm l j = G at *
          go_wp2_with fail
          go_roundg k
          case measure => omega
          case rel => exact ⟨j + 1, by omega, by rw [HST.out], by go_num, HB⟩
        · rw [if_neg hm] at hst
          have HST := hid hst
          have hm1 : max (gm l j) t = gm l j := by omega
          clear hst
          generalize gm l j = G at *
          go_wp2_with fail
          go_roundg k
          case measure => omega
          case rel => exact ⟨j + 1, by omega, by rw [HST.out], by go_num, HB⟩
      · have hj : j = l.length := by omega
        subst hj
        go_wp2_with fail
        go_ret
        exact ⟨by rw [HE.out]; rfl, HB.out⟩
end Go.Proofs.YtihokphamgkkcaaGreat
