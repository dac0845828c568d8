/- RecordFresh's walk: what is read shares no memory with what is read again. -/
import Derived.Test.YtoohmbkgdmmghaaRfb
import Derived.Test.YtoohmbkgdmmghaaFm5
import Derived.Test.YtoohmbkgdmmghaaSam6
import Derived.Deep.RegionHeld3
namespace Go.Proofs.Ytoohmbkgdmmghaa
open Go.RowKit
def ovw : ByteArray := ⟨#[119, 114, 105, 116, 116, 101, 110, 32, 111, 118, 101, 114]⟩
def hov : Hdr := (ovw, false, ⟨#[]⟩)
/-- A record whose headers are written over, as far as k. -/
def Ovd (x : RI) (k : Nat) : Prop := ∀ j, j < k → j < x.r.hs.length → (x.r.hs.getD j df).1 = ovw
theorem map_ri {l l' : List RI} (h : l'.map RI.r = l.map RI.r) (i : Nat) : (l'.getD i dri).r = (l.getD i dri).r := by
  have := congrArg (fun z => z[i]?) h
  simp only [List.getElem?_map] at this
  rw [List.getD_eq_getElem?_getD, List.getD_eq_getElem?_getD]
  cases h1 : l'[i]? with
  | none =>
    cases h2 : l[i]? with
    | none => rfl
    | some y => rw [h1, h2] at this; cases this
  | some x =>
    cases h2 : l[i]? with
    | none => rw [h1, h2] at this; cases this
    | some y => rw [h1, h2] at this; injection this
theorem Held.nils {w : World} {B : Nat} {v : Value} {l : List RI} (h : Held w B v l) : ∀ x ∈ l, x.a = none → x.cap = 0 := by
  intro x hx ha
  obtain ⟨a, cap, e, hn, _⟩ := OwnH.slice (h.hds x hx)
  have e2 : x.hv = .slice x.a x.r.hs.length x.cap := rfl
  rw [e2, ha] at e
  injection e with e1 _ e3
  have := (hn e1.symm).1
  rw [e2] at this
  injection this
theorem hs_small {l : List RI} {y : List Rec} (h : l.map RI.r = y) (hy : ∀ r ∈ y, r.hs.length ≤ 1024) : ∀ x ∈ l, x.r.hs.length ≤ 1024 := fun x hx => hy _ (by rw [← h]; exact List.mem_map_of_mem hx)
theorem St.start {w1 w2 w3 w4 : World} {va : Value} {la : List RI} (hH : Held w2 w1.heap.size va la) (b2 : Below w1.heap.size w1 w2) (b3 : Below w2.heap.size w2 w3) (b4 : Below w3.heap.size w3 w4) : St w1 w4 w1.heap.size w2.heap.size va w4 la where
  held := (hH.kept (fun g hg _ => b3.block g hg)).kept (fun g hg _ => b4.block g hg)
  low := fun g hg => by
    rcases hg with hg | ⟨x, hx, hg⟩
    · exact (World.ownsRow.lt hH.row g hg).2
    · exact (World.ownsRow.lt (hH.hds x hx) g hg).2
  kept := fun _ _ _ => rfl
  size := Nat.le_refl _
  lo4 := Nat.le_trans b3.size b4.size
  blo := b2.size
  bel := bel_next (bel_next b2 (Nat.le_refl _) b3) (Nat.le_refl _) b4
/-- What a record of the row shows. -/
theorem St.row {w0 w4 w : World} {B lo j g cap N : Nat} {l : List RI} (h : St w0 w4 B lo (.slice (some ⟨g, 0, none⟩) N cap) w l) (hj : j < l.length) : Six w g (j * 6) (l.getD j dri) ∧ ∀ o, w.frozen? ⟨g, o, none⟩ = false := by
  obtain ⟨a, c, e, hR⟩ := h.held.slice
  injection e with e1 e2 e3
  have hr := h.held.row
  rw [e2] at hr
  refine ⟨?_, fun o => hr.frozenAt o⟩
  rcases hR.2 with h0 | ⟨b, off, e2, _, hc⟩
  · rw [h0] at hj; simp at hj
  · rw [← e1] at e2
    cases e2
    have := hc j hj
    rw [Nat.zero_add] at this
    exact this
theorem St.has {w0 w4 w : World} {B lo cap N : Nat} {a : Option Addr} {l : List RI} (h : St w0 w4 B lo (.slice a N cap) w l) (hN : l.length = N) (hj : 0 < N) : ∃ g, a = some ⟨g, 0, none⟩ := by
  obtain ⟨_, h2⟩ := h.held.row
  rcases h2 with ⟨h2, h3⟩ | ⟨g, c, cur, e, _⟩
  · omega
  · injection e with e1 _ _
    exact ⟨g, e1⟩
theorem St.hdr {w0 w4 w : World} {B lo j k : Nat} {va : Value} {l : List RI} (h : St w0 w4 B lo va w l) (hj : j < l.length) (hk : k < (l.getD j dri).r.hs.length) : ∃ g, (l.getD j dri).a = some ⟨g, 0, none⟩ ∧ (w.cell? ⟨g, k * 3, none⟩ = some (.string ((l.getD j dri).r.hs.getD k df).1) ∧ w.cell? ⟨g, k * 3 + 1, none⟩ = some (.bool ((l.getD j dri).r.hs.getD k df).2.1) ∧ w.cell? ⟨g, k * 3 + 2, none⟩ = some (.string ((l.getD j dri).r.hs.getD k df).2.2)) ∧ ∀ o, w.frozen? ⟨g, o, none⟩ = false := by
  have hh := h.held.hds _ (riD_mem hj)
  unfold OwnH at hh
  have hh2 := hh
  obtain ⟨_, h2⟩ := hh
  rcases h2 with ⟨_, h3⟩ | ⟨g, c, cur, e, _⟩
  · omega
  · rw [e] at hh2
    unfold RI.hv at e
    injection e with e1 _ _
    have hc := hcs_at _ k hk
    refine ⟨g, e1, ⟨?_, ?_, ?_⟩, fun o => hh2.frozenAt o⟩
    · rw [hh2.cellAt _ (by omega)]; exact hc.1
    · rw [hh2.cellAt _ (by omega)]; exact hc.2.1
    · rw [hh2.cellAt _ (by omega)]; exact hc.2.2
theorem getD_set_ne {l : List RI} {i j : Nat} {x : RI} (h : i ≠ j) : (l.set i x).getD j dri = l.getD j dri := by
  rw [List.getD_eq_getElem?_getD, List.getD_eq_getElem?_getD, List.getElem?_set, if_neg h]
theorem getD_set_eq {l : List RI} {i : Nat} {x : RI} (h : i < l.length) : (l.set i x).getD i dri = x := by
  rw [List.getD_eq_getElem?_getD, List.getElem?_set, if_pos rfl, if_pos h]
  rfl
/-- One header more is written over. -/
theorem over_step {l : List RI} {N j p n : Nat} {xa : Option Addr} {xc : Nat} (hj : j < N) (h1 : l.length = N) (h2 : ∀ x ∈ l, x.r.hs.length ≤ 1024) (h3 : ∀ t, t < j → Ovd (l.getD t dri) 1024) (h4 : Ovd (l.getD j dri) p) (h5 : (l.getD j dri).a = xa ∧ (l.getD j dri).r.hs.length = n ∧ (l.getD j dri).cap = xc) :
    (l.set j (hset (l.getD j dri) p hov)).length = N ∧ (∀ x ∈ l.set j (hset (l.getD j dri) p hov), x.r.hs.length ≤ 1024) ∧ (∀ t, t < j → Ovd ((l.set j (hset (l.getD j dri) p hov)).getD t dri) 1024) ∧ Ovd ((l.set j (hset (l.getD j dri) p hov)).getD j dri) (p + 1) ∧ (((l.set j (hset (l.getD j dri) p hov)).getD j dri).a = xa ∧ ((l.set j (hset (l.getD j dri) p hov)).getD j dri).r.hs.length = n ∧ ((l.set j (hset (l.getD j dri) p hov)).getD j dri).cap = xc) := by
  have hjl : j < l.length := by omega
  refine ⟨by rw [List.length_set]; exact h1, ?_, ?_, ?_, ?_⟩
  · intro x hx
    rcases List.mem_or_eq_of_mem_set hx with hx | rfl
    · exact h2 x hx
    · show ((l.getD j dri).r.hs.set p hov).length ≤ 1024
      rw [List.length_set]
      exact h2 _ (riD_mem hjl)
  · intro t ht
    rw [getD_set_ne (by omega)]
    exact h3 t ht
  · rw [getD_set_eq hjl]
    intro i hi hl
    show (((l.getD j dri).r.hs.set p hov).getD i df).1 = ovw
    have hl2 : i < (l.getD j dri).r.hs.length := by
      have : i < ((l.getD j dri).r.hs.set p hov).length := hl
      rw [List.length_set] at this
      exact this
    rw [List.getD_eq_getElem?_getD, List.getElem?_set]
    by_cases e : p = i
    · rw [if_pos e, if_pos (by omega)]
      rfl
    · rw [if_neg e, ← List.getD_eq_getElem?_getD]
      exact h4 i (by omega) hl2
  · rw [getD_set_eq hjl]
    refine ⟨h5.1, ?_, h5.2.2⟩
    show ((l.getD j dri).r.hs.set p hov).length = n
    rw [List.length_set]
    exact h5.2.1
set_option maxHeartbeats 2000000 in
set_option maxRecDepth 20000 in
theorem fresh_walk (s : ByteArray) (first count : Int) (w : World) (hf : I64 first) :
    Calls Try.prog 4 #[.string s, .int .i64 first, .int .i64 count] w fun e w' => e = .returned (.bool true) ∧ Below w.heap.size w w' := by
  have CFm := hid (fun x => forms_any x)
  obtain ⟨E, y, hy1, hy2, cr⟩ := rbody_u s first count hf
  have CR := hid cr
  have HY1 := hid hy1
  have HY2 := hid hy2
  clear hf cr hy1 hy2
  go_enter Try.func4, Try.ntmps4
  go_wp2_with fail
  refine (CFm.out _).mono ?_
  rintro e w1 ⟨rfl, hb1⟩
  have HB1 := hid hb1
  clear hb1
  go_wp2_with fail
  refine (CR.out _).mono ?_
  rintro e w2 ⟨hb2, va, la, rfl, hHa, hma⟩
  obtain ⟨aa, capa, rfl, _⟩ := hHa.slice
  have hla : la.length = y.length := by have := congrArg List.length hma; simpa using this
  have HHa := hid hHa
  have HMa := hid hma
  have HB2 := hid hb2
  rw [hla] at HHa ⊢
  have HLa := hid hla
  clear hHa hma hb2 hla
  go_wp2_with fail
  refine (CR.out _).mono ?_
  rintro e w3 ⟨hb3, vb, lb, rfl, hHb, hmb⟩
  obtain ⟨ab, capb, rfl, hRb⟩ := hHb.slice
  have hlb : lb.length = y.length := by have := congrArg List.length hmb; simpa using this
  have cc := copied_any lb ab capb w3 hRb hHb.nils (fun x hx => by have := hs_small hmb HY2.out x hx; omega) (by have := HY1.out; omega)
  rw [hlb] at cc
  have CC := hid cc
  have HHb := hid hHb
  have HMb := hid hmb
  have HB3 := hid hb3
  rw [hlb] at HHb ⊢
  have HLb := hid hlb
  clear hHb hmb hb3 hRb cc hlb CR
  go_wp2_with fail
  refine CC.out.mono ?_
  rintro e w4 ⟨⟨vk, lk, rfl, hHk, hmk⟩, hb4⟩
  obtain ⟨ak, capk, rfl, _⟩ := hHk.slice
  have hlk : lk.length = y.length := by have := congrArg List.length hmk; have := HLb.out; simp at *; omega
  have HHk := hid hHk
  have HMk := hid hmk
  have HST := hid (St.start HHa.out HB2.out HB3.out hb4)
  have HB4 := hid hb4
  rw [hlk] at HHk ⊢
  have HLk := hid hlk
  have HSM := hid (hs_small HMa.out HY2.out)
  clear hHk hmk hb4 hlk CC HHa HB2
  generalize y.length = N at *
  go_wp2_with fail
  have HN : Hid (N ≤ 65536) := HY1.out
  go_loopg [48] N (fun k i wr => ∃ (j : Nat) (l : List RI), j + k = N ∧ i = .int .i64 j ∧ Hid (l.length = N) ∧ Hid (∀ x ∈ l, x.r.hs.length ≤ 1024) ∧ Hid (∀ t, t < j → Ovd (l.getD t dri) 1024) ∧ Hid (St w1 w4 w1.heap.size w2.heap.size (.slice aa N capa) wr l))
  case atStart => exact ⟨0, la, by omega, rfl, HLa, HSM, fun t ht => by omega, HST⟩
  case round =>
    clear HST HSM HLa
    obtain ⟨j, l, hk, rfl, HL, HS, HO, HT⟩ := hrel
    by_cases hlt : j < N
    · obtain ⟨k, rfl⟩ : ∃ k, gk = k + 1 := ⟨gk - 1, by omega⟩
      obtain ⟨ga, rfl⟩ := HT.out.has HL.out (by omega)
      have hjl : j < l.length := by have := HL.out; omega
      obtain ⟨⟨_, _, _, _, _, q5⟩, _⟩ := HT.out.row hjl
      obtain ⟨xa, n0, xc, hxa, hn0, hxc⟩ : ∃ xa n0 xc, (l.getD j dri).a = xa ∧ (l.getD j dri).r.hs.length = n0 ∧ (l.getD j dri).cap = xc := ⟨_, _, _, rfl, rfl, rfl⟩
      have HN0 : Hid (n0 ≤ 1024) := by have := HS.out _ (riD_mem hjl); show _ ≤ _; omega
      rw [hxa, hn0, hxc] at q5
      have HX : Hid ((l.getD j dri).a = xa ∧ (l.getD j dri).r.hs.length = n0 ∧ (l.getD j dri).cap = xc) := ⟨hxa, hn0, hxc⟩
      have HKk := hid hk
      have i1 : (0 : Int) ≤ (j : Int) := by omega
      have i2 : (j : Int) < (N : Nat) := by omega
      clear hxa hn0 hxc hjl hk
      go_wp2_with fail
      go_loopg [57] n0 (fun k i wr => ∃ (p : Nat) (l : List RI), p + k = n0 ∧ i = .int .i64 p ∧ Hid (l.length = N) ∧ Hid (∀ x ∈ l, x.r.hs.length ≤ 1024) ∧ Hid (∀ t, t < j → Ovd (l.getD t dri) 1024) ∧ Hid (Ovd (l.getD j dri) p) ∧ Hid ((l.getD j dri).a = xa ∧ (l.getD j dri).r.hs.length = n0 ∧ (l.getD j dri).cap = xc) ∧ Hid (St w1 w4 w1.heap.size w2.heap.size (.slice (some ⟨ga, 0, none⟩) N capa) wr l))
      case atStart => exact ⟨0, l, by omega, rfl, HL, HS, HO, fun t ht => by omega, HX, HT⟩
      case round =>
        clear HL HS HO HX HT q5
        obtain ⟨p, l, hkp, rfl, HL, HS, HO, HOj, HX, HT⟩ := hrel
        have hjl : j < l.length := by have := HL.out; omega
        obtain ⟨⟨_, _, _, _, _, q5⟩, _⟩ := HT.out.row hjl
        rw [HX.out.1, HX.out.2.1, HX.out.2.2] at q5
        by_cases hlp : p < n0
        · obtain ⟨k2, rfl⟩ : ∃ k2, gk = k2 + 1 := ⟨gk - 1, by omega⟩
          obtain ⟨g, e1, ⟨c0, c1, c2⟩, fz⟩ := HT.out.hdr hjl (show p < (l.getD j dri).r.hs.length by have := HX.out.2.1; omega)
          obtain rfl : xa = some ⟨g, 0, none⟩ := HX.out.1.symm.trans e1
          have HSet : Hid (St w1 w4 w1.heap.size w2.heap.size (.slice (some ⟨ga, 0, none⟩) N capa) (((wr.setCell ⟨g, p * 3, none⟩ (.string ⟨#[119, 114, 105, 116, 116, 101, 110, 32, 111, 118, 101, 114]⟩)).setCell ⟨g, p * 3 + 1, none⟩ (.bool false)).setCell ⟨g, p * 3 + 2, none⟩ (.string ⟨#[]⟩)) (l.set j (hset (l.getD j dri) p hov))) := HT.out.seth hjl e1 hov
          have HOS := hid (over_step hlt HL.out HS.out HO.out HOj.out HX.out)
          generalize (l.getD j dri).r.hs.getD p df = z at *
          obtain ⟨z0, z1, z2⟩ := z
          dsimp only at c0 c1 c2
          have b3 : (0 : Int) ≤ (p : Int) := by omega
          have b4 : (p : Int) < (n0 : Nat) := by omega
          have HKp := hid hkp
          clear hkp e1 hjl HL HS HO HOj HX HT
          go_wp2_with fail
          go_roundg k2
          case measure => omega
          case rel => have hnn := HN0.out; have ew : wrap64 ((p : Int) + 1) = ((p + 1 : Nat) : Int) := by { unfold wrap64; omega }; exact ⟨p + 1, _, by have := HKp.out; omega, congrArg (Value.int .i64) ew, HOS.out.1, HOS.out.2.1, HOS.out.2.2.1, HOS.out.2.2.2.1, HOS.out.2.2.2.2, HSet⟩
        · have hlp' : ¬ (p : Int) < (n0 : Nat) := by omega
          have hpn : p = n0 := by omega
          have HOJ : Hid (Ovd (l.getD j dri) 1024) := fun t _ ht => HOj.out t (by have := HX.out.2.1; omega) ht
          have hg := Gr.start (w4 := w4) (HT.out.held.hds _ (riD_mem hjl))
          unfold RI.hv at hg
          rw [HX.out.1, HX.out.2.1, HX.out.2.2] at hg
          have HG0 := hid hg
          clear hg hkp hpn HOj
          go_wp2_with fail
          go_loopg [14, 74] 9 (fun k vg i wx => ∃ (q m : Nat) (ys : List Value), q + k = 9 ∧ i = .int .i64 q ∧ Hid (m = n0 + q) ∧ Hid (Gr w4 wx w1.heap.size (l.getD j dri) vg m ys) ∧ Hid (St w1 w4 w1.heap.size w2.heap.size (.slice (some ⟨ga, 0, none⟩) N capa) wx l))
          case atStart => exact ⟨0, n0, _, by omega, rfl, rfl, HG0, HT⟩
          case round =>
            clear HT HG0 q5
            obtain ⟨q, m, ys, hkq, rfl, HMQ, HG, HT⟩ := hrel
            by_cases hlq : q < 9
            · obtain ⟨k3, rfl⟩ : ∃ k3, gk = k3 + 1 := ⟨gk - 1, by omega⟩
              obtain ⟨i0, hi, hz0, hz1, hz2⟩ := info_parts Try.infoHdr
              have hba : Below wr.heap.size wr (wr.alloc (.cells #[.string ⟨#[103, 114, 111, 119, 110]⟩, .bool false, .string ⟨#[]⟩] 33)) := (Below.refl _ _).alloc (Nat.le_refl _) _
              have HTA := hid (HT.out.fresh hba)
              have HGA := hid (HG.out.below hba)
              have HSZ : Hid (w1.heap.size ≤ wr.heap.size) := HT.out.bel.size
              have hlqI : (q : Int) < 9 := by omega
              clear HT HG hba
              go_wp2_with (at_builtin; refine wpList_append_two _ rfl _ _ 24 rfl w1.heap.size 33 i0 (.agg #[.string ⟨#[]⟩, .bool false, .string ⟨#[]⟩]) 3 40 Try.underHdrs hi hz0 hz1 hz2 rfl (by decide) _ m ys rfl HGA.out.1 ⟨wr.heap.size, 0, none⟩ 1 1 [.string ⟨#[103, 114, 111, 119, 110]⟩, .bool false, .string ⟨#[]⟩] rfl rfl ?d1 ?d2 ?d3 ?d4 ?d5 ?d6 ?_)
              try (case d1 => exact cells_new wr [.string ⟨#[103, 114, 111, 119, 110]⟩, .bool false, .string ⟨#[]⟩] 33)
              try (case d2 => exact hcs_one [(⟨#[103, 114, 111, 119, 110]⟩, false, ⟨#[]⟩)])
              try (case d3 => omega)
              try (case d4 => unfold maxLen; have := HMQ.out; have := HN0.out; omega)
              try (case d5 => have := HMQ.out; have := HN0.out; omega)
              try (case d6 => have := HSZ.out; first | omega | (simp; omega))
              intro g3 cap3 w10 hown hor
              have hst := Gr.step HTA.out hjl HGA.out hown (by have e : (wr.alloc (.cells #[.string ⟨#[103, 114, 111, 119, 110]⟩, .bool false, .string ⟨#[]⟩] 33)).heap.size = wr.heap.size + 1 := by { simp }; rw [e]; exact hor)
              have HST := hid hst
              clear hown hor hst HTA HGA hi hz0 hz1 hz2
              go_wp2_with fail
              go_roundg k3
              case measure => omega
              case rel => exact ⟨q + 1, m + 1, _, by omega, by go_num, by show _ = _; have := HMQ.out; omega, HST.out.2, HST.out.1⟩
            · have hlqI : ¬ (q : Int) < 9 := by omega
              obtain ⟨⟨_, _, _, _, _, q5⟩, _⟩ := HT.out.row hjl
              rw [HX.out.1, HX.out.2.1, HX.out.2.2] at q5
              obtain ⟨v20, w20, hap, hst⟩ := HT.out.zeros hjl (by have := HX.out.2.1; have := HN0.out; omega)
              rw [HX.out.1, HX.out.2.1, HX.out.2.2] at hap
              have HAP := hid hap
              have HT2 := hid hst
              have HOA : Hid (∀ t, t < j + 1 → Ovd (l.getD t dri) 1024) := fun t ht => by
                by_cases e : t = j
                · subst e; exact HOJ.out
                · exact HO.out t (by omega)
              clear hap hst HT hkq HG
              go_wp2_with (at_builtin; refine Lib.wpList_append_run _ rfl _ _ _ _ rfl _ _ rfl rfl _ _ HAP.out ?_)
              go_roundg k
              case measure => omega
              case rel => have hnn := HN.out; have ew : wrap64 ((j : Int) + 1) = ((j + 1 : Nat) : Int) := by { unfold wrap64; omega }; exact ⟨j + 1, l, by have := HKk.out; omega, congrArg (Value.int .i64) ew, HL, HS, HOA, HT2⟩
    · have hlt' : ¬ (j : Int) < (N : Nat) := by omega
      go_wp2_with fail
      have HLO := hid HT.out.lo4
      clear hk
      go_loopg [90] N (fun k i wr => ∃ (j : Nat) (l : List RI), j + k = N ∧ i = .int .i64 j ∧ Hid (l.length = N) ∧ Hid (∀ x ∈ l, x.r.hs.length ≤ 1024) ∧ Hid (∀ t, j ≤ t → t < N → Ovd (l.getD t dri) 1024) ∧ Hid (St w1 w4 w1.heap.size w2.heap.size (.slice aa N capa) wr l))
      case atStart => exact ⟨0, l, by omega, rfl, HL, HS, fun t _ ht => HO.out t (by omega), HT⟩
      case round =>
        clear HL HS HO HT hlt hlt'
        obtain ⟨j, l, hk, rfl, HL, HS, HO, HT⟩ := hrel
        by_cases hlt : j < N
        · obtain ⟨k, rfl⟩ : ∃ k, gk = k + 1 := ⟨gk - 1, by omega⟩
          obtain ⟨ga, rfl⟩ := HT.out.has HL.out (by omega)
          have hjl : j < l.length := by have := HL.out; omega
          obtain ⟨⟨_, _, _, _, _, q5⟩, _⟩ := HT.out.row hjl
          obtain ⟨xa, n0, xc, hxa, hn0, hxc⟩ : ∃ xa n0 xc, (l.getD j dri).a = xa ∧ (l.getD j dri).r.hs.length = n0 ∧ (l.getD j dri).cap = xc := ⟨_, _, _, rfl, rfl, rfl⟩
          have HN0 : Hid (n0 ≤ 1024) := by have := HS.out _ (riD_mem hjl); show _ ≤ _; omega
          rw [hxa, hn0, hxc] at q5
          have HX : Hid ((l.getD j dri).a = xa ∧ (l.getD j dri).r.hs.length = n0 ∧ (l.getD j dri).cap = xc) := ⟨hxa, hn0, hxc⟩
          have HKk := hid hk
          have i1 : (0 : Int) ≤ (j : Int) := by omega
          have i2 : (j : Int) < (N : Nat) := by omega
          clear hxa hn0 hxc hk
          go_wp2_with fail
          go_loopg [99] n0 (fun k i wr => ∃ p : Nat, p + k = n0 ∧ i = .int .i64 p ∧ Hid (St w1 w4 w1.heap.size w2.heap.size (.slice (some ⟨ga, 0, none⟩) N capa) wr l))
          case atStart => exact ⟨0, by omega, rfl, HT⟩
          case round =>
            clear HT q5
            obtain ⟨p, hkp, rfl, HT⟩ := hrel
            obtain ⟨⟨q0, q1, q2, q3, q4, q5⟩, fz⟩ := HT.out.row hjl
            rw [HX.out.1, HX.out.2.1, HX.out.2.2] at q5
            by_cases hlp : p < n0
            · obtain ⟨k2, rfl⟩ : ∃ k2, gk = k2 + 1 := ⟨gk - 1, by omega⟩
              obtain ⟨g, e1, ⟨c0, _, _⟩, _⟩ := HT.out.hdr hjl (show p < (l.getD j dri).r.hs.length by have := HX.out.2.1; omega)
              obtain rfl : xa = some ⟨g, 0, none⟩ := HX.out.1.symm.trans e1
              rw [HO.out j (Nat.le_refl _) hlt p (by have := HN0.out; omega) (by have := HX.out.2.1; omega)] at c0
              unfold ovw at c0
              have b3 : (0 : Int) ≤ (p : Int) := by omega
              have b4 : (p : Int) < (n0 : Nat) := by omega
              have HKp := hid hkp
              clear hkp e1 q0 q1 q2 q3 q4 fz
              go_wp2_with fail
              go_roundg k2
              case measure => omega
              case rel => have hnn := HN0.out; have ew : wrap64 ((p : Int) + 1) = ((p + 1 : Nat) : Int) := by { unfold wrap64; omega }; exact ⟨p + 1, by have := HKp.out; omega, congrArg (Value.int .i64) ew, HT⟩
            · have hlp' : ¬ (p : Int) < (n0 : Nat) := by omega
              have hs6 := HT.out
              rw [← HL.out] at hs6
              have hs7 := hs6.six (i := j)
              rw [HL.out] at hs7
              have HT2 := hid hs7
              have HL2 : Hid ((l.set j ri7).length = N) := by show _ = _; rw [List.length_set]; exact HL.out
              have HS2 : Hid (∀ x ∈ l.set j ri7, x.r.hs.length ≤ 1024) := fun x hx => by
                rcases List.mem_or_eq_of_mem_set hx with hx | rfl
                · exact HS.out x hx
                · exact Nat.zero_le _
              have HO2 : Hid (∀ t, j + 1 ≤ t → t < N → Ovd ((l.set j ri7).getD t dri) 1024) := fun t h1 h2 => by
                rw [getD_set_ne (by omega)]
                exact HO.out t (by omega) h2
              generalize l.getD j dri = x at *
              obtain ⟨⟨t, kh, kd, vh, vd, hs⟩, x1, k1⟩ := x
              dsimp only at q0 q1 q2 q3 q4
              clear hkp HT hs6 hs7 HX
              go_wp2_with fail
              go_roundg k
              case measure => omega
              case rel => have hnn := HN.out; have ew : wrap64 ((j : Int) + 1) = ((j + 1 : Nat) : Int) := by { unfold wrap64; omega }; exact ⟨j + 1, _, by have := HKk.out; omega, congrArg (Value.int .i64) ew, HL2, HS2, HO2, HT2⟩
        · have hlt' : ¬ (j : Int) < (N : Nat) := by omega
          obtain ⟨v9, w5, hap, hkept, hbel, hsz⟩ := HT.out.zerosR (by have := HL.out; have := HN.out; omega)
          have HAP := hid hap
          have hb5 : Held w5 w2.heap.size (.slice ab N capb) lb := (HHb.out.kept (fun g hg _ => HB4.out.block g hg)).kept (fun g hg hg2 => by
            have h4 : w2.heap.size ≤ g ∧ g < w4.heap.size := by
              refine ⟨?_, hg⟩
              rcases hg2 with h | ⟨x, hx, h⟩
              · exact (World.ownsRow.lt HHb.out.row g h).1
              · exact (World.ownsRow.lt (HHb.out.hds x hx) g h).1
            exact hkept g h4.1 h4.2)
          have hk5 : Held w5 w3.heap.size (.slice ak N capk) lk := HHk.out.kept (fun g hg hg2 => by
            have h4 : w3.heap.size ≤ g := by
              rcases hg2 with h | ⟨x, hx, h⟩
              · exact (World.ownsRow.lt HHk.out.row g h).1
              · exact (World.ownsRow.lt (HHk.out.hds x hx) g h).1
            exact hkept g (Nat.le_trans HB3.out.size h4) hg)
          obtain ⟨_, _, e1, hR1⟩ := hb5.slice
          injection e1 with e1 _ e2
          subst e1 e2
          obtain ⟨_, _, e1, hR2⟩ := hk5.slice
          injection e1 with e1 _ e2
          subst e1 e2
          have HR1 := hid hR1
          have HR2 := hid hR2
          have HB5 := hid (HB1.out.trans (hbel.mono HB1.out.size))
          have HEQ : Hid (∀ j, j < N → (lk.getD j dri).r = (lb.getD j dri).r) := fun j _ => map_ri HMk.out j
          have HHS : Hid (∀ x ∈ lb, x.r.hs.length ≤ 9223372036854775807) := fun x hx => by have := hs_small HMb.out HY2.out x hx; omega
          clear hap hkept hbel hsz hb5 hk5 hR1 hR2 hk HL HS HO HT HHb HHk HB3 HB4 HMa
          go_wp2_with (at_builtin; refine Lib.wpList_append_run _ rfl _ _ _ _ rfl _ _ rfl rfl _ _ HAP.out ?_)
          go_loopg [122] N (fun k i wr => ∃ j : Nat, j + k = N ∧ i = .int .i64 j ∧ Hid (Below w5.heap.size w5 wr))
          case atStart => exact ⟨0, by omega, rfl, Below.refl _ _⟩
          case round =>
            clear hlt hlt'
            obtain ⟨j, hk, rfl, HB⟩ := hrel
            by_cases hlt : j < N
            · obtain ⟨k, rfl⟩ : ∃ k, gk = k + 1 := ⟨gk - 1, by omega⟩
              have hl1 : j < lb.length := by have := HLb.out; omega
              have hl2 : j < lk.length := by have := HLk.out; omega
              have hR1 := HR1.out.below HB.out
              have hR2 := HR2.out.below HB.out
              have hH1 := hR1.1 _ (riD_mem hl1)
              have hH2 := hR2.1 _ (riD_mem hl2)
              rcases hR1.2 with h | ⟨b1, off1, e1, hb1, hc1⟩
              · rw [h] at hl1; simp at hl1
              rcases hR2.2 with h | ⟨b2, off2, e2, hb2, hc2⟩
              · rw [h] at hl2; simp at hl2
              subst e1 e2
              obtain ⟨q0, q1, q2, q3, q4, q5⟩ := hc1 j hl1
              obtain ⟨p0, p1, p2, p3, p4, p5⟩ := hc2 j hl2
              have heq := HEQ.out j hlt
              have hg := HHS.out _ (riD_mem hl1)
              generalize lb.getD j dri = x at *
              generalize lk.getD j dri = y at *
              obtain ⟨⟨t, kh, kd, vh, vd, hs⟩, x1, k1⟩ := x
              obtain ⟨yr, x2, k2⟩ := y
              dsimp only at heq
              subst heq
              dsimp only at q0 q1 q2 q3 q4 q5 p0 p1 p2 p3 p4 p5 hH1 hH2
              have c1 := fun z (hx : Below wr.heap.size wr z) => (lsame_yes t kh vh kd vd hs x1 x2 k1 k2 z (hH1.below hx) (hH2.below hx) hg).mono (fun _ _ h => And.intro h.1 (bel_next hx (Nat.le_refl _) h.2))
              have CC := hid c1
              have HS : Hid (∀ z, Below wr.heap.size wr z → (fun z => ((z.cell? ⟨b1, off1 + j * 6, none⟩ = some (.int .i64 t) ∧ z.cell? ⟨b1, off1 + j * 6 + 1, none⟩ = some (.bool kh) ∧ z.cell? ⟨b1, off1 + j * 6 + 2, none⟩ = some (.string kd) ∧ z.cell? ⟨b1, off1 + j * 6 + 3, none⟩ = some (.bool vh) ∧ z.cell? ⟨b1, off1 + j * 6 + 4, none⟩ = some (.string vd) ∧ z.cell? ⟨b1, off1 + j * 6 + 5, none⟩ = some (.slice x1 hs.length k1)) ∧ (z.cell? ⟨b2, off2 + j * 6, none⟩ = some (.int .i64 t) ∧ z.cell? ⟨b2, off2 + j * 6 + 1, none⟩ = some (.bool kh) ∧ z.cell? ⟨b2, off2 + j * 6 + 2, none⟩ = some (.string kd) ∧ z.cell? ⟨b2, off2 + j * 6 + 3, none⟩ = some (.bool vh) ∧ z.cell? ⟨b2, off2 + j * 6 + 4, none⟩ = some (.string vd) ∧ z.cell? ⟨b2, off2 + j * 6 + 5, none⟩ = some (.slice x2 hs.length k2))) ∧ Below wr.heap.size wr z) z) := fun z hx => ⟨⟨⟨(hx.cell (p := ⟨b1, off1 + j * 6, none⟩) hb1).trans q0, (hx.cell (p := ⟨b1, off1 + j * 6 + 1, none⟩) hb1).trans q1, (hx.cell (p := ⟨b1, off1 + j * 6 + 2, none⟩) hb1).trans q2, (hx.cell (p := ⟨b1, off1 + j * 6 + 3, none⟩) hb1).trans q3, (hx.cell (p := ⟨b1, off1 + j * 6 + 4, none⟩) hb1).trans q4, (hx.cell (p := ⟨b1, off1 + j * 6 + 5, none⟩) hb1).trans q5⟩, ⟨(hx.cell (p := ⟨b2, off2 + j * 6, none⟩) hb2).trans p0, (hx.cell (p := ⟨b2, off2 + j * 6 + 1, none⟩) hb2).trans p1, (hx.cell (p := ⟨b2, off2 + j * 6 + 2, none⟩) hb2).trans p2, (hx.cell (p := ⟨b2, off2 + j * 6 + 3, none⟩) hb2).trans p3, (hx.cell (p := ⟨b2, off2 + j * 6 + 4, none⟩) hb2).trans p4, (hx.cell (p := ⟨b2, off2 + j * 6 + 5, none⟩) hb2).trans p5⟩⟩, hx⟩
              have i1 : (0 : Int) ≤ (j : Int) := by omega
              have i2 : (j : Int) < (N : Nat) := by omega
              have h0 : Below wr.heap.size wr wr := Below.refl _ _
              clear c1 hR1 hR2 hH1 hH2 hc1 hc2 q0 q1 q2 q3 q4 q5 p0 p1 p2 p3 p4 p5 hb1 hb2
              go_wp2_with fail
              go_region_held3 (fun z => ((z.cell? ⟨b1, off1 + j * 6, none⟩ = some (.int .i64 t) ∧ z.cell? ⟨b1, off1 + j * 6 + 1, none⟩ = some (.bool kh) ∧ z.cell? ⟨b1, off1 + j * 6 + 2, none⟩ = some (.string kd) ∧ z.cell? ⟨b1, off1 + j * 6 + 3, none⟩ = some (.bool vh) ∧ z.cell? ⟨b1, off1 + j * 6 + 4, none⟩ = some (.string vd) ∧ z.cell? ⟨b1, off1 + j * 6 + 5, none⟩ = some (.slice x1 hs.length k1)) ∧ (z.cell? ⟨b2, off2 + j * 6, none⟩ = some (.int .i64 t) ∧ z.cell? ⟨b2, off2 + j * 6 + 1, none⟩ = some (.bool kh) ∧ z.cell? ⟨b2, off2 + j * 6 + 2, none⟩ = some (.string kd) ∧ z.cell? ⟨b2, off2 + j * 6 + 3, none⟩ = some (.bool vh) ∧ z.cell? ⟨b2, off2 + j * 6 + 4, none⟩ = some (.string vd) ∧ z.cell? ⟨b2, off2 + j * 6 + 5, none⟩ = some (.slice x2 hs.length k2))) ∧ Below wr.heap.size wr z) (first | with_reducible exact HS.out _ (by assumption) | with_reducible exact HS.out _ (Below.drew (by assumption))) (first | (go_at_call 11; refine (CC.out _ ?_).mono ?_; (first | assumption | exact Below.drew (by assumption)); rintro e w' ⟨rfl, hbel⟩))
              all_goals
                rename_i hH9
                have HB9 := hid (bel_next HB.out (Nat.le_refl _) hH9.2)
                clear hH9
                go_wp2_with fail
                go_roundg k
                case measure => omega
                case rel => have hCC := HN.out; have ew : wrap64 ((j : Int) + 1) = ((j + 1 : Nat) : Int) := by { unfold wrap64; omega }; exact ⟨j + 1, by omega, congrArg (Value.int .i64) ew, HB9⟩
            · have i2 : ¬ (j : Int) < (N : Nat) := by omega
              have HBF := hid (HB5.out.trans (HB.out.mono HB5.out.size))
              go_wp2_with fail
              go_ret
              exact ⟨rfl, HBF.out⟩
theorem fresh_walk2 (s : ByteArray) (first count : Int) (w : World) (_ : s.size ≤ 9223372036854775807) (h1 : -9223372036854775808 ≤ first) (h2 : first ≤ 9223372036854775807) (_ : -9223372036854775808 ≤ count) (_ : count ≤ 9223372036854775807) :
    Calls Try.prog 4 #[.string s, .int .i64 first, .int .i64 count] w fun e w' => e = .returned (.bool true) ∧ Below w.heap.size w w' := fresh_walk s first count w ⟨h1, h2⟩
end Go.Proofs.Ytoohmbkgdmmghaa
