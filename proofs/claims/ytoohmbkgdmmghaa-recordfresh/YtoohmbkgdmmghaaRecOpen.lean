/- What a record that came in is: its cells, where its headers lie; what the bound on what comes in gives. -/
import Derived.Test.YtoohmbkgdmmghaaCan5
import Derived.ProofKit
import Derived.OpenShut
import Derived.ShutString
import Derived.ChangeOld
import Derived.JoinedCond
import Derived.ChangeSame
import Derived.Deep.Slices
import Derived.Deep.Strs
namespace Go.Proofs.Ytoohmbkgdmmghaa
open Go.ChangeShapes Go.WideShapes Go.ChangeAt Go.RowKit Go.Deep
theorem Try.cOpt : Try.prog.cellsOf 23 = 2 := by kernel_rfl
theorem Try.cHdr : Try.prog.cellsOf 33 = 3 := by kernel_rfl
theorem Try.cRec : Try.prog.cellsOf 26 = 6 := by kernel_rfl
theorem Try.cStr : Try.prog.cellsOf 9 = 1 := by kernel_rfl
theorem Try.cBool : Try.prog.cellsOf 4 = 1 := by kernel_rfl
theorem Try.cI64 : Try.prog.cellsOf 2 = 1 := by kernel_rfl
theorem Try.cHds : Try.prog.cellsOf 24 = 1 := by kernel_rfl
variable {H : Type} {enc : TypeId × Value → H} {W : World}
theorem take1 {cs : List Value} {v : Value} {k : Nat} (h : (cs.drop k).take 1 = [v]) : cs[k]? = some v := by
  have := congrArg (fun l => l[0]?) h
  simpa using this
theorem open_opt {fuel : Nat} {cs : List Value} {x : DataW H × List MemPlace} (h : DataW.trod enc Try.prog W 0 (fun _ => true) true fuel 23 cs = some x) : ∃ (b : Bool) (d : ByteArray), cs = [.bool b, .string d] ∧ d.size + 1 ≤ Rows.uptoBulk x.1 ∧ d.size ≤ maxLen := by
  obtain ⟨y0, y1, n, rfl, hlen, k0, k1⟩ := trod_struct2 Try.underlying23 h
  rw [Try.cOpt] at hlen
  simp only [Try.cBool, Try.cStr] at k0 k1
  obtain ⟨b, q0, r0⟩ := DataW.trod_bool Try.underlying4 k0
  obtain ⟨d, q1, r1, w1⟩ := DataW.trod_string Try.underlying9 k1
  match cs, hlen with
  | [u, v], _ =>
    simp at q0 q1
    subst q0 q1
    refine ⟨b, d, rfl, ?_, w1⟩
    rw [r0, r1]
    simp [Rows.uptoBulk, Rows.uptoBulkAll]
    try omega
theorem open_hdr {fuel : Nat} {cs : List Value} {x : DataW H × List MemPlace} (h : DataW.trod enc Try.prog W 0 (fun _ => true) true fuel 33 cs = some x) : ∃ y : Hdr, cs = hc1 y ∧ y.1.size + 1 + (y.2.2.size + 1) ≤ Rows.uptoBulk x.1 := by
  obtain ⟨y0, y1, n, rfl, hlen, k0, k1⟩ := trod_struct2 Try.underlying33 h
  rw [Try.cHdr] at hlen
  simp only [Try.cOpt, Try.cStr] at k0 k1
  obtain ⟨d, q0, r0, _⟩ := DataW.trod_string Try.underlying9 k0
  obtain ⟨b, e, q1, r1, _⟩ := open_opt k1
  match cs, hlen with
  | [u, v, z], _ =>
    simp at q0 q1
    obtain ⟨q1, q2⟩ := q1
    subst q0 q1 q2
    refine ⟨(d, b, e), rfl, ?_⟩
    rw [r0]
    simp [Rows.uptoBulk, Rows.uptoBulkAll]
    omega
/-- All bytes of the headers, and one for each text. -/
def hbk (hs : List Hdr) : Nat := (hs.map fun r => r.1.size + 1 + (r.2.2.size + 1)).sum
theorem hbk_mem {hs : List Hdr} {r : Hdr} (h : r ∈ hs) : r.1.size + 1 + (r.2.2.size + 1) ≤ hbk hs := by
  induction hs with
  | nil => simp at h
  | cons x l ih =>
    rcases List.mem_cons.1 h with e | e
    · subst e; simp [hbk]
    · have := ih e
      simp only [hbk, List.map_cons, List.sum_cons] at *
      omega
theorem hbk_len (hs : List Hdr) : hs.length ≤ hbk hs := by
  induction hs with
  | nil => simp [hbk]
  | cons x l ih => simp only [hbk, List.map_cons, List.sum_cons, List.length_cons] at *; omega
theorem ol_le (h : Bool) (d : ByteArray) : (ol h d).length ≤ 10 + d.size := by
  unfold ol
  split
  · rw [List.length_append, bl_len]; have := M.form_le (2 * d.size); omega
  · simp; omega
theorem hbk_hl (hs : List Hdr) : (hl hs).length ≤ 20 * hbk hs := by
  induction hs with
  | nil => simp [hl]
  | cons x l ih =>
    rw [hl_cons, List.length_append, List.length_append]
    have h1 := ol_le x.2.1 x.2.2
    have h2 : (tx x.1).length ≤ 10 + x.1.size := by unfold tx; rw [List.length_append, bl_len]; have := M.form_le x.1.size; omega
    simp only [hbk, List.map_cons, List.sum_cons] at *
    omega
theorem sum_leh {H : Type} (f : Nat → Hdr) (D : Nat → DataW H) : ∀ (l : List Nat), (∀ i ∈ l, (f i).1.size + 1 + ((f i).2.2.size + 1) ≤ Rows.uptoBulk (D i)) → hbk (l.map f) ≤ Rows.uptoBulkAll (l.map D)
  | [], _ => by simp [hbk, Rows.uptoBulkAll]
  | i :: l, h => by
    have ih := sum_leh f D l (fun j hj => h j (List.mem_cons_of_mem _ hj))
    have h0 := h i (List.mem_cons_self ..)
    simp only [hbk, List.map_cons, List.sum_cons, Rows.uptoBulkAll] at ih ⊢
    omega
theorem open_hds {fuel : Nat} {cs : List Value} {x : DataW H × List MemPlace} (h : DataW.trod enc Try.prog W 0 (fun _ => true) true fuel 24 cs = some x) : ∃ (a : Option Addr) (cap : Nat) (hs : List Hdr), cs = [.slice a hs.length cap] ∧ Hds W a hs ∧ hbk hs ≤ Rows.uptoBulk x.1 ∧ hs.length ≤ 9223372036854775807 ∧ (a = none → cap = 0) := by
  rcases open_slice Try.underlying24 h with ⟨hcs', hx⟩ | ⟨x', l, c, m, n, D, Pl, hcs', _, hl', hm, hmm, hx, hel⟩
  · exact ⟨none, 0, [], by simpa using hcs', Or.inl rfl, Nat.zero_le _, by simp, fun _ => rfl⟩
  · simp only [if_true] at hmm
    subst hx
    have each : ∀ i, i < l → ∃ o : Hdr, W.cell? ((x'.add (i * 3)).add 0) = some (.string o.1) ∧ W.cell? ((x'.add (i * 3)).add 1) = some (.bool o.2.1) ∧ W.cell? ((x'.add (i * 3)).add 2) = some (.string o.2.2) ∧ o.1.size + 1 + (o.2.2.size + 1) ≤ Rows.uptoBulk (D i) := by
      intro i hi
      obtain ⟨cs', e1, e2⟩ := hel i (by omega)
      rw [Try.cHdr] at e1
      obtain ⟨y, hy, hb⟩ := open_hdr e2
      have g := (World.cells?_some e1)
      refine ⟨y, ?_, ?_, ?_, hb⟩
      · rw [g.2.2 0 (by omega), hy]; rfl
      · rw [g.2.2 1 (by omega), hy]; rfl
      · rw [g.2.2 2 (by omega), hy]; rfl
    obtain ⟨f, hf⟩ := choose_lt each
    refine ⟨some x', c, (List.range l).map f, by simpa using hcs', ?_, ?_, ?_, fun h => by cases h⟩
    · by_cases h0 : l = 0
      · left; subst h0; rfl
      · right
        obtain ⟨b, off, spot⟩ := x'
        have h00 := (hf 0 (by omega)).1
        have hspot : spot = none := by simpa [Addr.add] using World.cell?_spot h00
        subst hspot
        have hlt := World.block_lt_of_cell? _ _ h00
        refine ⟨b, off, rfl, by simpa [Addr.add] using hlt, fun j hj => ?_⟩
        have hj' : j < l := by simpa using hj
        obtain ⟨k0, k1, k2, _⟩ := hf j hj'
        rw [Go.WideShapes.add_plain, Go.WideShapes.add_plain] at k0 k1 k2
        have eg : ((List.range l).map f).getD j df = f j := by
          rw [List.getD_eq_getElem?_getD, List.getElem?_map, List.getElem?_range hj']
          rfl
        rw [eg]
        exact ⟨by simpa using k0, k1, k2⟩
    · have := sum_leh f D (List.range l) (fun i hi => (hf i (by simpa using hi)).2.2.2)
      simp only [Rows.uptoBulk]
      have hle : l = m ∨ l ≤ m := by omega
      have := this
      subst hmm
      omega
    · simp
      unfold maxLen at hm
      omega
set_option maxRecDepth 20000 in
theorem open_rec {fuel : Nat} {cs : List Value} {x : DataW H × List MemPlace} (h : DataW.trod enc Try.prog W 0 (fun _ => true) true fuel 26 cs = some x) : ∃ (r : Rec) (a : Option Addr) (cap : Nat), cs = [.int .i64 r.t, .bool r.kh, .string r.kd, .bool r.vh, .string r.vd, .slice a r.hs.length cap] ∧ Hds W a r.hs ∧ r.kd.size + r.vd.size + hbk r.hs + 1 ≤ Rows.uptoBulk x.1 ∧ r.hs.length ≤ 9223372036854775807 ∧ (Lit.int .i64 r.t).wf = true ∧ (a = none → cap = 0) := by
  obtain ⟨xs, n, _, rfl, hlen, hxs, hf⟩ := DataW.trod_struct Try.underlying26 h
  rw [Try.cRec] at hlen
  match xs, hxs with
  | [y0, y1, y2, y3], _ =>
    have k0 : DataW.trod enc Try.prog W 0 (fun _ => true) true n 2 ((cs.drop 0).take (Try.prog.cellsOf 2)) = some y0 := hf 0 _ rfl
    have k1 : DataW.trod enc Try.prog W 0 (fun _ => true) true n 23 ((cs.drop 1).take (Try.prog.cellsOf 23)) = some y1 := hf 1 _ rfl
    have k2 : DataW.trod enc Try.prog W 0 (fun _ => true) true n 23 ((cs.drop 3).take (Try.prog.cellsOf 23)) = some y2 := hf 2 _ rfl
    have k3 : DataW.trod enc Try.prog W 0 (fun _ => true) true n 24 ((cs.drop 5).take (Try.prog.cellsOf 24)) = some y3 := hf 3 _ rfl
    rw [Try.cI64] at k0
    rw [Try.cOpt] at k1 k2
    rw [Try.cHds] at k3
    obtain ⟨t, q0, r0, w0⟩ := DataW.trod_int Try.underlying2 k0
    obtain ⟨kh, kd, q1, r1, _⟩ := open_opt k1
    obtain ⟨vh, vd, q2, r2, _⟩ := open_opt k2
    obtain ⟨a, cap, hs, q3, V, r3, hl3, hn3⟩ := open_hds k3
    match cs, hlen with
    | [c0, c1, c2, c3, c4, c5], _ =>
      simp at q0 q1 q2 q3
      obtain ⟨q1, q1'⟩ := q1
      obtain ⟨q2, q2'⟩ := q2
      subst q0 q1 q1' q2 q2' q3
      refine ⟨⟨t, kh, kd, vh, vd, hs⟩, a, cap, rfl, V, ?_, hl3, w0, hn3⟩
      simp [Rows.uptoBulk, Rows.uptoBulkAll]
      omega
theorem mod_of {r : Rec} (h : r.kd.size + r.vd.size + hbk r.hs ≤ 1048576) : Mod r := by
  have h1 := ol_le r.kh r.kd
  have h2 := ol_le r.vh r.vd
  have h3 := hbk_hl r.hs
  have h4 := hbk_len r.hs
  exact ⟨by omega, by omega, fun x hx => by have := hbk_mem hx; omega, by omega, by omega⟩
end Go.Proofs.Ytoohmbkgdmmghaa
