/- The document's reader of a record. -/
import Derived.Test.YtafogjilheniiaaGreatXHd
import Derived.Deep.RegionHeld
import Derived.Deep.RegionHeld3
namespace Go.Proofs.YtafogjilheniiaaGreat
open Go.RowKit
/-- Where the document's Read stands: its reader, the room for its answer. -/
structure XJ (w : World) (b : Nat) (s : ByteArray) (K : Nat) (x : World) : Prop where
  r : RX x b s K 0
  rr : x.heap[w.heap.size]? = some (.cells #[.int .i64 0, .bool false, .string ⟨#[]⟩, .bool false, .string ⟨#[]⟩, .slice none 0 0] 27 (0, 0))
  bel : Below w.heap.size w x
/-- The same, with the part and the record that it makes. -/
structure XI (w : World) (q b O : Nat) (P s : ByteArray) (k K : Nat) (c : Array Value) (x : World) : Prop where
  p : RX x q P k 0
  o : x.heap[O]? = some (.cells c 27 (0, 0))
  j : XJ w b s K x
theorem rx_ne {x : World} {q O : Nat} {P : ByteArray} {k e : Nat} {c : Array Value} (h : RX x q P k e) (ho : x.heap[O]? = some (.cells c 27 (0, 0))) : O ≠ q := fun e => by
  have h2 : x.heap[q]? = _ := h
  rw [e, h2] at ho
  injection ho with h1
  injection h1 with h3 h4 h5
  exact absurd h4 (by decide)
theorem XJ.drewN {w x : World} {b : Nat} {s : ByteArray} {K : Nat} (h : XJ w b s K x) (n : Nat) : XJ w b s K (x.drewN n) := ⟨h.r, h.rr, drewN_bel h.bel n⟩
theorem XJ.drew {w x : World} {b : Nat} {s : ByteArray} {K : Nat} (h : XJ w b s K x) : XJ w b s K x.drew := ⟨h.r, h.rr, h.bel.drew⟩
theorem XJ.alloc {w x : World} {b : Nat} {s : ByteArray} {K : Nat} (h : XJ w b s K x) (o : Obj) : XJ w b s K (x.alloc o) := ⟨h.r.alloc o, heap_alloc_at h.rr, h.bel.alloc h.bel.size o⟩
theorem XJ.ch {w x x' : World} {b q : Nat} {s P : ByteArray} {K k : Nat} (h : XJ w b s K x) (hp : RX x q P k 0) (hq : w.heap.size ≤ q) (hqb : b ≠ q) (hc : Ch (fun i => i = q) x x') : XJ w b s K x' :=
  ⟨h.r.ch hc hqb, (hc.block _ (lt_of_heap h.rr) (rx_ne hp h.rr)).trans h.rr, h.bel.trans (hc.below h.bel.size (fun i hi e => by omega))⟩
theorem XI.drew {w x : World} {q b O : Nat} {P s : ByteArray} {k K : Nat} {c : Array Value} (h : XI w q b O P s k K c x) : XI w q b O P s k K c x.drew := ⟨h.p, h.o, h.j.drew⟩
theorem XI.drewN {w x : World} {q b O : Nat} {P s : ByteArray} {k K : Nat} {c : Array Value} (h : XI w q b O P s k K c x) (n : Nat) : XI w q b O P s k K c (x.drewN n) := ⟨h.p, h.o, h.j.drewN n⟩
theorem XI.ch {w x x' : World} {q b O : Nat} {P s : ByteArray} {k k' K : Nat} {c : Array Value} (h : XI w q b O P s k K c x) (hq : w.heap.size ≤ q) (hqb : b ≠ q) (hc : Ch (fun i => i = q) x x') (hp : RX x' q P k' 0) : XI w q b O P s k' K c x' :=
  ⟨hp, (hc.block O (lt_of_heap h.o) (rx_ne h.p h.o)).trans h.o, h.j.ch h.p hq hqb hc⟩
theorem XJ.set {w x : World} {b : Nat} {s : ByteArray} {K : Nat} (h : XJ w b s K x) {O : Nat} (i : Nat) (v : Value) (h1 : b ≠ O) (h2 : w.heap.size < O) : XJ w b s K (x.setCell ⟨O, i, none⟩ v) := ⟨h.r.far v h1, heap_set_far h.rr (by show w.heap.size ≠ O; omega), h.bel.setCell (by show w.heap.size ≤ O; omega) _⟩
theorem xlI {w : World} {q b O : Nat} {P s : ByteArray} {k K : Nat} {c : Array Value} (x : World) (h : XI w q b O P s k K c x) (hk : k ≤ P.size) (hs : P.size ≤ 9223372036854775807) :
    Calls Tryz.prog 24 #[.pointer (some ⟨q, 0, none⟩)] x fun r w' => r = .returned (.int .i64 ((P.size : Int) - k)) ∧ XI w q b O P s k K c w' :=
  (xleft_any q P k 0 x h.p hk hs).mono fun _ _ hh => by
    obtain ⟨h1, n, rfl⟩ := hh
    exact ⟨h1, h.drewN n⟩
def bnd (f : Int × Nat → Except Nat Rec) : Except Nat (Int × Nat) → Except Nat Rec
  | .error e => .error e
  | .ok y => f y
theorem r1_bnd (p : ByteArray) (first : Int) (n : Nat) : r1 p first n = bnd (fun y => r4 p y.1 y.2) (tm p first n) := by
  rw [r1_tm]
  cases tm p first n <;> rfl
def gg (m : Nat) : Except Nat Rec → Except Nat (Rec × Nat)
  | .error e => .error e
  | .ok r => if 16777216 < m then .error 66 else .ok (r, m)
theorem rd_gg {s : ByteArray} {first : Int} {N L k1 : Nat} (hN : N < 65536) (hu : uq s 0 0 = (L, k1, 0)) (hx : k1 + L ≤ s.size) : rd5 s first N = gg (k1 + L) (r1 (s.extract k1 (k1 + L)) first N) := by
  unfold rd5
  rw [if_neg (by omega), Int.toNat_natCast]
  unfold nxt
  rw [hu]
  dsimp only
  rw [if_neg (by simp)]
  unfold nx2
  rw [if_neg (by omega)]
  cases r1 (s.extract k1 (k1 + L)) first N with
  | error e => rfl
  | ok r => dsimp only [gg]; rw [Nat.sub_zero]
def bndh (f : List Hdr × Nat → Except Nat Rec) : Except Nat (List Hdr × Nat) → Except Nat Rec
  | .error e => .error e
  | .ok y => f y
theorem r6_bnd (p : ByteArray) (t : Int) (kh : Bool) (kd : ByteArray) (vh : Bool) (vd : ByteArray) (k : Nat) : r6 p t kh kd vh vd k = bndh (fun y => if y.2 < p.size then .error 26 else .ok ⟨t, kh, kd, vh, vd, y.1⟩) (hd4 p k) := by
  rw [r6_hd]
  cases hd4 p k <;> rfl
theorem heap_set_eq {x : World} {B : Nat} {v u : Value} {rs : List Hdr} {g O i : Nat} {c : Array Value} (h : OwnH x B v rs) (hg : v.ownBlock = some g) (ho : x.heap[O]? = some (.cells c 27 (0, 0))) : (x.setCell ⟨O, i, none⟩ u).heap[g]? = x.heap[g]? := by
  have hne : g ≠ O := fun e => own_ne h (e ▸ ho) (by decide) hg
  exact Below.heap_setCell x ⟨O, i, none⟩ u g hne
theorem rd_e1 {s : ByteArray} {first : Int} {N L k1 e1 : Nat} (hN : N < 65536) (hu : uq s 0 0 = (L, k1, e1)) (he : e1 ≠ 0) : rd5 s first N = .error e1 := by
  unfold rd5
  rw [if_neg (by omega), Int.toNat_natCast]
  unfold nxt
  rw [hu]
  dsimp only
  rw [if_pos he]
theorem rd_e2 {s : ByteArray} {first : Int} {N L k1 : Nat} (hN : N < 65536) (hu : uq s 0 0 = (L, k1, 0)) (hx : s.size < k1 + L) : rd5 s first N = .error 21 := by
  unfold rd5
  rw [if_neg (by omega), Int.toNat_natCast]
  unfold nxt
  rw [hu]
  dsimp only
  rw [if_neg (by simp)]
  unfold nx2
  rw [if_pos hx]
theorem r4_e {P : ByteArray} {t : Int} {k : Nat} {b : Bool} {d : ByteArray} {k' e : Nat} (h : oq MX P k 0 = (b, d, k', e)) : r4 P t k = if e ≠ 0 then .error e else r5 P t b d k' := by unfold r4; rw [h]
theorem r5_e {P : ByteArray} {t : Int} {kh : Bool} {kd : ByteArray} {k : Nat} {b : Bool} {d : ByteArray} {k' e : Nat} (h : oq MX P k 0 = (b, d, k', e)) : r5 P t kh kd k = if e ≠ 0 then .error e else r6 P t kh kd b d k' := by unfold r5; rw [h]
set_option maxHeartbeats 2000000 in
set_option maxRecDepth 20000 in
theorem xread_yes (s : ByteArray) (first : Int) (N : Nat) (w : World) (hN : N < 65536) (hs : s.size ≤ 9223372036854775807) (hf : I64 first) (R0 : Except Nat (Rec × Nat)) (hR0 : rd5 s first N = R0) :
    Calls Tryz.prog 7 #[.string s, .int .i64 first, .int .i64 N] w (ReadPost R0 w) := by
  obtain ⟨L, k1, e1, hu⟩ : ∃ L k1 e1, uq s 0 0 = (L, k1, e1) := ⟨_, _, _, rfl⟩
  have hk1 := uq_le (e := 0) (Nat.zero_le s.size)
  have hL := uq_bd (s := s) (k := 0) (e := 0)
  have cu := fun x b h => xuvarint_any b s 0 0 x h (Nat.zero_le _) hs
  simp only [hu] at cu
  rw [hu] at hk1 hL
  dsimp only at hk1 hL
  have CU := hid cu
  have HU := hid hu
  have HR0 : Hid (∀ _ : Unit, rd5 s first N = R0) := fun _ => hR0
  clear hR0
  have HK1 := hid hk1
  have HL := hid hL
  have HS := hid hs
  have HFI := hid hf
  have h0 : decide ((N : Int) < 0) = false := decide_eq_false (by omega)
  have h1 : decide ((65536 : Int) ≤ (N : Int)) = false := decide_eq_false (by omega)
  have HN := hid hN
  clear cu hu hk1 hL hs hf hN
  go_enter Tryz.func7, Tryz.ntmps7
  go_wp2_with fail
  clear h0 h1
  have hR : (w.alloc (.cells #[.int .i64 0, .bool false, .string ⟨#[]⟩, .bool false, .string ⟨#[]⟩, .slice none 0 0] 27)).heap[w.heap.size]? = some (.cells #[.int .i64 0, .bool false, .string ⟨#[]⟩, .bool false, .string ⟨#[]⟩, .slice none 0 0] 27 (0, 0)) := heap_new _ _
  have hB : Below w.heap.size w (w.alloc (.cells #[.int .i64 0, .bool false, .string ⟨#[]⟩, .bool false, .string ⟨#[]⟩, .slice none 0 0] 27)) := (Below.refl _ w).alloc (Nat.le_refl _) _
  generalize w.alloc (.cells #[.int .i64 0, .bool false, .string ⟨#[]⟩, .bool false, .string ⟨#[]⟩, .slice none 0 0] 27) = w0 at *
  refine (xnew_any s w0).mono ?_
  rintro r w1 ⟨rfl, rfl⟩
  have J1 : XJ w w0.heap.size s 0 (w0.alloc (.cells #[.string s, .int .i64 0, .int .i64 0] 96)) := ⟨heap_new _ _, heap_alloc_at hR, hB.alloc hB.size _⟩
  have hbw : w.heap.size < w0.heap.size := lt_of_heap hR
  generalize w0.alloc (.cells #[.string s, .int .i64 0, .int .i64 0] 96) = w1 at *
  generalize w0.heap.size = b at *
  clear hR hB
  have HJ1 := hid J1
  clear J1
  go_wp2_with fail
  refine (CU.out _ _ HJ1.out.r).mono ?_
  rintro r w2 ⟨rfl, hr2, hc2⟩
  have hrr2 := (hc2.block _ (lt_of_heap HJ1.out.rr) (rx_ne HJ1.out.r HJ1.out.rr)).trans HJ1.out.rr
  have hbel2 := HJ1.out.bel.trans (hc2.below HJ1.out.bel.size (fun i hi e => by omega))
  have HR2 := hid hr2
  have HRR2 := hid hrr2
  have HB2 := hid hbel2
  clear hr2 hc2 hrr2 hbel2 HJ1
  by_cases he1 : e1 = 0
  · subst he1
    have HJ2 : Hid (XJ w b s k1 w2) := ⟨HR2.out, HRR2.out, HB2.out⟩
    clear HR2 HRR2 HB2
    have CL := hid (xleft_any b s k1 0 w2 HJ2.out.r HK1.out HS.out)
    have hs := HS.out
    have hk1 := HK1.out
    have hwl : IntKind.u64.wrap ((s.size : Int) - k1) = (s.size : Int) - k1 := by rw [IntKind.wrap_u64]; omega
    by_cases hx : k1 + L ≤ s.size
    · have hd1 : decide ((s.size : Int) - k1 < (L : Int)) = false := decide_eq_false (by omega)
      have hcl : IntKind.i64.wrap (L : Int) = L := wrap_in (by omega) (by omega)
      have HG : Hid (R0 = gg (k1 + L) (r1 (s.extract k1 (k1 + L)) first N)) := (HR0.out ()).symm.trans (rd_gg (first := first) HN.out HU.out hx)
      have cp := fun x h => xpart_ok b s k1 L x h hk1 hs (by omega) (by omega) (by rw [rq_ok hx])
      simp only [rq_ok hx] at cp
      have CP := hid cp
      have hPs : (s.extract k1 (k1 + L)).size ≤ 9223372036854775807 := by rw [ByteArray.size_extract]; omega
      have HX := hid hx
      have HPS := hid hPs
      clear cp hx hs hk1
      generalize s.extract k1 (k1 + L) = P at *
      go_wp2_with fail
      refine CL.out.mono ?_
      rintro r w3 ⟨rfl, n3, rfl⟩
      have HJ3 := hid (HJ2.out.drewN n3)
      clear HJ2 CL
      generalize w2.drewN n3 = w3 at *
      go_wp2_with fail
      refine (CP.out _ HJ3.out.r).mono ?_
      rintro r w4 ⟨q, hq, rfl, hp4, hr4, hc4⟩
      have hqw : w.heap.size ≤ q := Nat.le_trans HJ3.out.bel.size hq
      have hqb : b ≠ q := by have := HJ3.out.r.lt; omega
      have HJ4 : Hid (XJ w b s (k1 + L) w4) := ⟨hr4, (hc4.block _ (lt_of_heap HJ3.out.rr) (rx_ne HJ3.out.r HJ3.out.rr)).trans HJ3.out.rr, HJ3.out.bel.trans (hc4.below HJ3.out.bel.size (fun i hi e => by omega))⟩
      have HP4 := hid hp4
      have CT := hid (xtimes_any q P first N w4 hp4 hPs HFI.out HN.out)
      have HG2 : Hid (R0 = gg (k1 + L) (bnd (fun y => r4 P y.1 y.2) (tm P first N))) := by show _ = _; rw [HG.out, r1_bnd]
      clear hp4 hr4 hc4 HJ3 CP hq HG hPs
      go_wp2_with fail
      refine CT.out.mono ?_
      rintro r w5 ⟨hc5, hm5⟩
      have HJ5 := hid (HJ4.out.ch HP4.out hqw hqb hc5)
      clear hc5 CT
      cases ht : tm P first N with
      | error x =>
        rw [ht] at hm5 HG2
        obtain ⟨rfl, hx0⟩ := hm5
        have HF : Hid (R0 = .error x) := HG2.out
        have hne : ((x : Int) != 0) = true := by rw [bne_iff_ne]; omega
        have HX0 := hid hx0
        clear hx0 ht HG2
        have rr := HJ5.out.rr
        obtain ⟨m0, m1, m2, m3, m4, m5⟩ := cells6 rr
        have n0 := froz_of (i := 0) rr
        have n1 := froz_of (i := 1) rr
        have n2 := froz_of (i := 2) rr
        have n3 := froz_of (i := 3) rr
        have n4 := froz_of (i := 4) rr
        have n5 := froz_of (i := 5) rr
        clear rr
        go_wp2_with fail
        have f11 : ((((((w5.setCell ⟨w.heap.size, 0, none⟩ (.int .i64 0)).setCell ⟨w.heap.size, 1, none⟩ (.bool false)).setCell ⟨w.heap.size, 2, none⟩ (.string ⟨#[]⟩)).setCell ⟨w.heap.size, 3, none⟩ (.bool false)).setCell ⟨w.heap.size, 4, none⟩ (.string ⟨#[]⟩)).setCell ⟨w.heap.size, 5, none⟩ (.slice none 0 0)).heap[w.heap.size]? = some (.cells #[.int .i64 0, .bool false, .string ⟨#[]⟩, .bool false, .string ⟨#[]⟩, .slice none 0 0] 27 (0, 0)) := heap_set (heap_set (heap_set (heap_set (heap_set (heap_set HJ5.out.rr)))))
        obtain ⟨j0, j1, j2, j3, j4, j5⟩ := cells6 f11
        clear f11
        refine bodyPost_ret (v := .tuple #[noRec, .int .i64 0, .int .i64 x]) (by simp [results, noRec, Tryz.results7, go_sem, j0, j1, j2, j3, j4, j5]) rfl ?_
        refine ⟨store6_bel HJ5.out.bel, ?_⟩
        rw [HF.out]
        exact ⟨rfl, HX0.out⟩
      | ok y =>
        obtain ⟨t, k⟩ := y
        rw [ht] at hm5 HG2
        obtain ⟨rfl, hp5, hk5, hT5⟩ := hm5
        dsimp only at hp5 hk5 HG2
        have HP5 := hid hp5
        have HK5 := hid hk5
        clear ht hp5 hT5
        go_wp2_with fail
        have hOb : b ≠ w5.heap.size := by have := HJ5.out.r.lt; omega
        have hOw : w.heap.size < w5.heap.size := lt_of_heap HJ5.out.rr
        have HI : Hid (XI w q b w5.heap.size P s k (k1 + L) #[.int .i64 t, .bool false, .string ⟨#[]⟩, .bool false, .string ⟨#[]⟩, .slice none 0 0] (w5.alloc (.cells #[.int .i64 t, .bool false, .string ⟨#[]⟩, .bool false, .string ⟨#[]⟩, .slice none 0 0] 27))) := ⟨HP5.out.alloc _, heap_new _ _, HJ5.out.alloc _⟩
        have HKX := HK5
        clear HJ5 HP5 HK5 hk5
        generalize w5.alloc (.cells #[.int .i64 t, .bool false, .string ⟨#[]⟩, .bool false, .string ⟨#[]⟩, .slice none 0 0] 27) = w6 at *
        generalize w5.heap.size = O at *
        obtain ⟨kh, kd, ka, ea, hoa⟩ : ∃ kh kd ka ea, oq MX P k 0 = (kh, kd, ka, ea) := ⟨_, _, _, _, rfl⟩
        have hPs := HPS.out
        have hkx := HKX.out
        have co := fun x hh => xopt_any q P k 0 ((P.size : Int) - k) x hh hkx hPs (by omega) (by omega)
        have hka := oq_le (m := MX) (e := 0) hkx
        simp only [oq_left hPs, hoa] at co
        rw [hoa] at hka
        dsimp only at hka
        have HKA := hid hka
        have CO := hid co
        have HG3 : Hid (R0 = gg (k1 + L) (if ea ≠ 0 then .error ea else r5 P t kh kd ka)) := by show _ = _; rw [HG2.out]; dsimp only [bnd]; rw [r4_e hoa]
        clear HG2
        clear co hka hPs hkx hoa
        refine (xlI _ HI.out HKX.out HPS.out).mono ?_
        rintro r wl ⟨rfl, hIl⟩
        have HIl := hid hIl
        clear hIl HI HKX
        go_wp2_with fail
        refine (CO.out _ HIl.out.p).mono ?_
        rintro r wo ⟨rfl, hpo, hco⟩
        have ho6 := (hco.block O (lt_of_heap HIl.out.o) (rx_ne HIl.out.p HIl.out.o)).trans HIl.out.o
        have HJo := hid (HIl.out.j.ch HIl.out.p hqw hqb hco)
        have HO6 := hid ho6
        have HPo := hid hpo
        clear hpo hco CO HIl
        obtain ⟨m0, m1, m2, m3, m4, m5⟩ := cells6 ho6
        have n1 := froz_of (i := 1) ho6
        have n2 := froz_of (i := 2) ho6
        clear ho6
        by_cases hee : ea = 0
        · subst hee
          rw [if_neg (by simp)] at HG3
          have HI2 : Hid (XI w q b O P s ka (k1 + L) #[.int .i64 t, .bool kh, .string kd, .bool false, .string ⟨#[]⟩, .slice none 0 0] ((wo.setCell ⟨O, 1, none⟩ (.bool kh)).setCell ⟨O, 2, none⟩ (.string kd))) := ⟨(HPo.out.far _ (by have := rx_ne HPo.out HO6.out; exact fun e => this e.symm)).far _ (by have := rx_ne HPo.out HO6.out; exact fun e => this e.symm), heap_set (heap_set HO6.out), (HJo.out.set 1 _ hOb hOw).set 2 _ hOb hOw⟩
          have HKX := HKA
          clear HJo HO6 HPo HKA
          go_wp2_with fail
          clear m0 m1 m2 m3 m4 m5 n1 n2
          generalize ((wo.setCell ⟨O, 1, none⟩ (.bool kh)).setCell ⟨O, 2, none⟩ (.string kd)) = wv at *
          have HI := HI2
          clear HI2
          obtain ⟨vh, vd, kb, eb, hob⟩ : ∃ vh vd kb eb, oq MX P ka 0 = (vh, vd, kb, eb) := ⟨_, _, _, _, rfl⟩
          have hPs := HPS.out
          have hkx := HKX.out
          have co := fun x hh => xopt_any q P ka 0 ((P.size : Int) - ka) x hh hkx hPs (by omega) (by omega)
          have hka := oq_le (m := MX) (e := 0) hkx
          simp only [oq_left hPs, hob] at co
          rw [hob] at hka
          dsimp only at hka
          have HKA := hid hka
          have CO := hid co
          have HG4 : Hid (R0 = gg (k1 + L) (if eb ≠ 0 then .error eb else r6 P t kh kd vh vd kb)) := by show _ = _; rw [HG3.out, r5_e hob]
          clear HG3
          clear co hka hPs hkx hob
          refine (xlI _ HI.out HKX.out HPS.out).mono ?_
          rintro r wl ⟨rfl, hIl⟩
          have HIl := hid hIl
          clear hIl HI HKX
          go_wp2_with fail
          refine (CO.out _ HIl.out.p).mono ?_
          rintro r wo ⟨rfl, hpo, hco⟩
          have ho6 := (hco.block O (lt_of_heap HIl.out.o) (rx_ne HIl.out.p HIl.out.o)).trans HIl.out.o
          have HJo := hid (HIl.out.j.ch HIl.out.p hqw hqb hco)
          have HO6 := hid ho6
          have HPo := hid hpo
          clear hpo hco CO HIl
          obtain ⟨m0, m1, m2, m3, m4, m5⟩ := cells6 ho6
          have n3 := froz_of (i := 3) ho6
          have n4 := froz_of (i := 4) ho6
          clear ho6
          by_cases hee : eb = 0
          · subst hee
            rw [if_neg (by simp)] at HG4
            have HI2 : Hid (XI w q b O P s kb (k1 + L) #[.int .i64 t, .bool kh, .string kd, .bool vh, .string vd, .slice none 0 0] ((wo.setCell ⟨O, 3, none⟩ (.bool vh)).setCell ⟨O, 4, none⟩ (.string vd))) := ⟨(HPo.out.far _ (by have := rx_ne HPo.out HO6.out; exact fun e => this e.symm)).far _ (by have := rx_ne HPo.out HO6.out; exact fun e => this e.symm), heap_set (heap_set HO6.out), (HJo.out.set 3 _ hOb hOw).set 4 _ hOb hOw⟩
            have HKX := HKA
            clear HJo HO6 HPo HKA
            go_wp2_with fail
            clear m0 m1 m2 m3 m4 m5 n3 n4
            generalize ((wo.setCell ⟨O, 3, none⟩ (.bool vh)).setCell ⟨O, 4, none⟩ (.string vd)) = wv at *
            have HI := HI2
            clear HI2
            have hPs := HPS.out
            have hkx := HKX.out
            have CH := hid (fun x hh => xheaders_any q P kb x hh hkx hPs)
            have HG5 : Hid (R0 = gg (k1 + L) (bndh (fun y => if y.2 < P.size then .error 26 else .ok ⟨t, kh, kd, vh, vd, y.1⟩) (hd4 P kb))) := by show _ = _; rw [HG4.out, r6_bnd]
            clear hPs hkx HG4
            refine (CH.out _ HI.out.p).mono ?_
            rintro r wo ⟨hco, hmo⟩
            have ho6 := (hco.block O (lt_of_heap HI.out.o) (rx_ne HI.out.p HI.out.o)).trans HI.out.o
            have HJo := hid (HI.out.j.ch HI.out.p hqw hqb hco)
            have HO6 := hid ho6
            have hszh := HI.out.j.bel.size
            clear hco CH HKX HI
            obtain ⟨m0, m1, m2, m3, m4, m5⟩ := cells6 ho6
            have n5 := froz_of (i := 5) ho6
            clear ho6
            cases hh : hd4 P kb with
            | error x =>
              rw [hh] at hmo HG5
              obtain ⟨rfl, hx0⟩ := hmo
              have HF : Hid (R0 = .error x) := HG5.out
              have hne : ((x : Int) != 0) = true := by rw [bne_iff_ne]; omega
              have HX0 := hid hx0
              have HJE : Hid (XJ w b s (k1 + L) (wo.setCell ⟨O, 5, none⟩ (.slice none 0 0))) := HJo.out.set 5 _ hOb hOw
              clear hx0 hh HG5 HJo HO6
              have rr := HJE.out.rr
              obtain ⟨o0, o1, o2, o3, o4, o5⟩ := cells6 rr
              have p0 := froz_of (i := 0) rr
              have p1 := froz_of (i := 1) rr
              have p2 := froz_of (i := 2) rr
              have p3 := froz_of (i := 3) rr
              have p4 := froz_of (i := 4) rr
              have p5 := froz_of (i := 5) rr
              clear rr
              go_wp2_with fail
              have f11 : (((((((wo.setCell ⟨O, 5, none⟩ (.slice none 0 0)).setCell ⟨w.heap.size, 0, none⟩ (.int .i64 0)).setCell ⟨w.heap.size, 1, none⟩ (.bool false)).setCell ⟨w.heap.size, 2, none⟩ (.string ⟨#[]⟩)).setCell ⟨w.heap.size, 3, none⟩ (.bool false)).setCell ⟨w.heap.size, 4, none⟩ (.string ⟨#[]⟩)).setCell ⟨w.heap.size, 5, none⟩ (.slice none 0 0)).heap[w.heap.size]? = some (.cells #[.int .i64 0, .bool false, .string ⟨#[]⟩, .bool false, .string ⟨#[]⟩, .slice none 0 0] 27 (0, 0)) := heap_set (heap_set (heap_set (heap_set (heap_set (heap_set HJE.out.rr)))))
              obtain ⟨j0, j1, j2, j3, j4, j5⟩ := cells6 f11
              clear f11
              refine bodyPost_ret (v := .tuple #[noRec, .int .i64 0, .int .i64 x]) (by simp [results, noRec, Tryz.results7, go_sem, j0, j1, j2, j3, j4, j5]) rfl ?_
              refine ⟨store6_bel HJE.out.bel, ?_⟩
              rw [HF.out]
              exact ⟨rfl, HX0.out⟩
            | ok y =>
              obtain ⟨hs, kc⟩ := y
              rw [hh] at hmo HG5
              obtain ⟨v, rfl, hov, hpo, hkc⟩ := hmo
              obtain ⟨a, cap, rfl, _, _⟩ := OwnH.slice hov
              dsimp only [bndh] at HG5 hov hpo hkc
              have HOV := hid hov
              have HI : Hid (XI w q b O P s kc (k1 + L) #[.int .i64 t, .bool kh, .string kd, .bool vh, .string vd, .slice a hs.length cap] (wo.setCell ⟨O, 5, none⟩ (.slice a hs.length cap))) := ⟨hpo.far _ (by have := rx_ne hpo HO6.out; exact fun e => this e.symm), heap_set HO6.out, HJo.out.set 5 _ hOb hOw⟩
              have HOW : Hid (OwnH (wo.setCell ⟨O, 5, none⟩ (.slice a hs.length cap)) w.heap.size (.slice a hs.length cap) hs) := own_base hszh (own_apart hov (fun g hg => (heap_set_eq hov hg HO6.out)))
              have HKX := hid hkc
              clear hov hpo hkc HJo HO6 hh HOV
              go_wp2_with fail
              clear m0 m1 m2 m3 m4 m5 n5
              generalize wo.setCell ⟨O, 5, none⟩ (.slice a hs.length cap) = w9 at *
              have hPs := HPS.out
              have hkc := HKX.out
              have CL9 := hid (xleft_any q P kc 0 w9 HI.out.p hkc hPs)
              generalize hM1 : k1 + L = M1 at *
              by_cases hlast : kc < P.size
              · have hd9 : decide (kc < P.size) = true := decide_eq_true hlast
                rw [if_pos hlast] at HG5
                have HF : Hid (R0 = .error 26) := HG5.out
                clear HG5 hPs hkc
                refine CL9.out.mono ?_
                rintro r wl ⟨rfl, n9, rfl⟩
                have HJE := hid (HI.out.j.drewN n9)
                clear HI CL9 HOW
                generalize w9.drewN n9 = w10 at *
                have rr := HJE.out.rr
                obtain ⟨m0, m1, m2, m3, m4, m5⟩ := cells6 rr
                have n0 := froz_of (i := 0) rr
                have n1 := froz_of (i := 1) rr
                have n2 := froz_of (i := 2) rr
                have n3 := froz_of (i := 3) rr
                have n4 := froz_of (i := 4) rr
                have n5 := froz_of (i := 5) rr
                clear rr
                go_wp2_with fail
                have f11 : ((((((w10.setCell ⟨w.heap.size, 0, none⟩ (.int .i64 0)).setCell ⟨w.heap.size, 1, none⟩ (.bool false)).setCell ⟨w.heap.size, 2, none⟩ (.string ⟨#[]⟩)).setCell ⟨w.heap.size, 3, none⟩ (.bool false)).setCell ⟨w.heap.size, 4, none⟩ (.string ⟨#[]⟩)).setCell ⟨w.heap.size, 5, none⟩ (.slice none 0 0)).heap[w.heap.size]? = some (.cells #[.int .i64 0, .bool false, .string ⟨#[]⟩, .bool false, .string ⟨#[]⟩, .slice none 0 0] 27 (0, 0)) := heap_set (heap_set (heap_set (heap_set (heap_set (heap_set HJE.out.rr)))))
                obtain ⟨j0, j1, j2, j3, j4, j5⟩ := cells6 f11
                clear f11
                refine bodyPost_ret (v := .tuple #[noRec, .int .i64 0, .int .i64 26]) (by simp [results, noRec, Tryz.results7, go_sem, j0, j1, j2, j3, j4, j5]) rfl ?_
                refine ⟨store6_bel HJE.out.bel, ?_⟩
                rw [HF.out]
                exact ⟨rfl, by decide⟩
              · have hd9 : decide (kc < P.size) = false := decide_eq_false hlast
                rw [if_neg hlast] at HG5
                clear hPs hkc
                refine CL9.out.mono ?_
                rintro r wl ⟨rfl, n9, rfl⟩
                have HI9 := hid (HI.out.drewN n9)
                have HOW9 := hid (show OwnH (w9.drewN n9) w.heap.size (.slice a hs.length cap) hs from HOW.out)
                clear HI CL9 HOW
                generalize w9.drewN n9 = w10 at *
                have CA := hid (xat_any b s M1 0 w10 HI9.out.j.r)
                by_cases hbig : 16777216 < M1
                · have hd8 : decide ((16777216 : Int) < (M1 : Int)) = true := decide_eq_true (by omega)
                  have HF : Hid (R0 = .error 66) := by show _ = _; rw [HG5.out]; unfold gg; dsimp only; rw [if_pos hbig]
                  have HJE := hid HI9.out.j
                  clear hbig HG5
                  go_wp2_with fail
                  refine CA.out.mono ?_
                  rintro r w11 ⟨rfl, rfl⟩
                  have rr := HJE.out.rr
                  obtain ⟨m0, m1, m2, m3, m4, m5⟩ := cells6 rr
                  have n0 := froz_of (i := 0) rr
                  have n1 := froz_of (i := 1) rr
                  have n2 := froz_of (i := 2) rr
                  have n3 := froz_of (i := 3) rr
                  have n4 := froz_of (i := 4) rr
                  have n5 := froz_of (i := 5) rr
                  clear rr
                  go_wp2_with fail
                  have f11 : ((((((w11.setCell ⟨w.heap.size, 0, none⟩ (.int .i64 0)).setCell ⟨w.heap.size, 1, none⟩ (.bool false)).setCell ⟨w.heap.size, 2, none⟩ (.string ⟨#[]⟩)).setCell ⟨w.heap.size, 3, none⟩ (.bool false)).setCell ⟨w.heap.size, 4, none⟩ (.string ⟨#[]⟩)).setCell ⟨w.heap.size, 5, none⟩ (.slice none 0 0)).heap[w.heap.size]? = some (.cells #[.int .i64 0, .bool false, .string ⟨#[]⟩, .bool false, .string ⟨#[]⟩, .slice none 0 0] 27 (0, 0)) := heap_set (heap_set (heap_set (heap_set (heap_set (heap_set HJE.out.rr)))))
                  obtain ⟨j0, j1, j2, j3, j4, j5⟩ := cells6 f11
                  clear f11
                  refine bodyPost_ret (v := .tuple #[noRec, .int .i64 0, .int .i64 66]) (by simp [results, noRec, Tryz.results7, go_sem, j0, j1, j2, j3, j4, j5]) rfl ?_
                  refine ⟨store6_bel HJE.out.bel, ?_⟩
                  rw [HF.out]
                  exact ⟨rfl, by decide⟩
                · have hd8 : decide ((16777216 : Int) < (M1 : Int)) = false := decide_eq_false (by omega)
                  have HF : Hid (R0 = .ok (⟨t, kh, kd, vh, vd, hs⟩, M1)) := by show _ = _; rw [HG5.out]; unfold gg; dsimp only; rw [if_neg hbig]
                  clear hbig HG5
                  go_wp2_with fail
                  refine CA.out.mono ?_
                  rintro r w11 ⟨rfl, rfl⟩
                  go_wp2_with fail
                  have CA0 := hid (xat_any b s M1 0 w11.drew HI9.out.j.r.drew)
                  have HG := hid HI9.out.o
                  have HG' : Hid (w11.drew.heap[O]? = some (.cells #[.int .i64 t, .bool kh, .string kd, .bool vh, .string vd, .slice a hs.length cap] 27 (0, 0))) := HI9.out.o
                  have HRR := hid HI9.out.j.rr
                  have HBB := hid HI9.out.j.bel
                  have y1 : O ≠ w.heap.size := by omega
                  have rr := HI9.out.j.rr
                  obtain ⟨m0, m1, m2, m3, m4, m5⟩ := cells6 rr
                  have n0 := froz_of (i := 0) rr
                  have n1 := froz_of (i := 1) rr
                  have n2 := froz_of (i := 2) rr
                  have n3 := froz_of (i := 3) rr
                  have n4 := froz_of (i := 4) rr
                  have n5 := froz_of (i := 5) rr
                  clear rr HI9
                  go_region_held3 (fun x => x.cell? ⟨O, 0, none⟩ = some (.int .i64 t) ∧ x.cell? ⟨O, 1, none⟩ = some (.bool kh) ∧ x.cell? ⟨O, 2, none⟩ = some (.string kd) ∧ x.cell? ⟨O, 3, none⟩ = some (.bool vh) ∧ x.cell? ⟨O, 4, none⟩ = some (.string vd) ∧ x.cell? ⟨O, 5, none⟩ = some (.slice a hs.length cap)) (first | with_reducible exact cells6 HG.out | with_reducible exact cells6 HG'.out | with_reducible exact cells6 (World.drew_heap (store6 HG.out y1))) (first | (go_at_call 29; with_reducible refine CA0.out.mono ?_; rintro r w4 ⟨rfl, rfl⟩))
                  have f11 : ((((((w11.setCell ⟨w.heap.size, 0, none⟩ (.int .i64 t)).setCell ⟨w.heap.size, 1, none⟩ (.bool kh)).setCell ⟨w.heap.size, 2, none⟩ (.string kd)).setCell ⟨w.heap.size, 3, none⟩ (.bool vh)).setCell ⟨w.heap.size, 4, none⟩ (.string vd)).setCell ⟨w.heap.size, 5, none⟩ (.slice a hs.length cap)).drew.heap[w.heap.size]? = some (.cells #[.int .i64 t, .bool kh, .string kd, .bool vh, .string vd, .slice a hs.length cap] 27 (0, 0)) := World.drew_heap (heap_set (heap_set (heap_set (heap_set (heap_set (heap_set HRR.out))))))
                  obtain ⟨j0, j1, j2, j3, j4, j5⟩ := cells6 f11
                  clear f11
                  go_wp2_with fail
                  refine bodyPost_ret (v := .tuple #[.agg #[.int .i64 t, .bool kh, .string kd, .bool vh, .string vd, .slice a hs.length cap], .int .i64 M1, .int .i64 0]) (by simp [results, Tryz.results7, go_sem, j0, j1, j2, j3, j4, j5]) rfl ?_
                  refine ⟨(store6_bel HBB.out).drew, ?_⟩
                  rw [HF.out]
                  have hx : ∀ g, (Value.slice a hs.length cap).ownBlock = some g → g ≠ w.heap.size := fun g hg h => own_ne HOW9.out (h ▸ HRR.out) (by decide) hg
                  exact ⟨a, cap, rfl, own_apart HOW9.out (fun g hg => store6_eqd (hx g hg))⟩
          · have hne : ((eb : Int) != 0) = true := by rw [bne_iff_ne]; omega
            rw [if_pos hee] at HG4
            have HF : Hid (R0 = .error eb) := HG4.out
            have HX0 := hid hee
            have HJE : Hid (XJ w b s (k1 + L) ((wo.setCell ⟨O, 3, none⟩ (.bool vh)).setCell ⟨O, 4, none⟩ (.string vd))) := (HJo.out.set 3 _ hOb hOw).set 4 _ hOb hOw
            clear hee HG4 HJo HO6 HPo HKA
            have rr := HJE.out.rr
            obtain ⟨o0, o1, o2, o3, o4, o5⟩ := cells6 rr
            have p0 := froz_of (i := 0) rr
            have p1 := froz_of (i := 1) rr
            have p2 := froz_of (i := 2) rr
            have p3 := froz_of (i := 3) rr
            have p4 := froz_of (i := 4) rr
            have p5 := froz_of (i := 5) rr
            clear rr
            go_wp2_with fail
            have f11 : ((((((((wo.setCell ⟨O, 3, none⟩ (.bool vh)).setCell ⟨O, 4, none⟩ (.string vd)).setCell ⟨w.heap.size, 0, none⟩ (.int .i64 0)).setCell ⟨w.heap.size, 1, none⟩ (.bool false)).setCell ⟨w.heap.size, 2, none⟩ (.string ⟨#[]⟩)).setCell ⟨w.heap.size, 3, none⟩ (.bool false)).setCell ⟨w.heap.size, 4, none⟩ (.string ⟨#[]⟩)).setCell ⟨w.heap.size, 5, none⟩ (.slice none 0 0)).heap[w.heap.size]? = some (.cells #[.int .i64 0, .bool false, .string ⟨#[]⟩, .bool false, .string ⟨#[]⟩, .slice none 0 0] 27 (0, 0)) := heap_set (heap_set (heap_set (heap_set (heap_set (heap_set HJE.out.rr)))))
            obtain ⟨j0, j1, j2, j3, j4, j5⟩ := cells6 f11
            clear f11
            refine bodyPost_ret (v := .tuple #[noRec, .int .i64 0, .int .i64 eb]) (by simp [results, noRec, Tryz.results7, go_sem, j0, j1, j2, j3, j4, j5]) rfl ?_
            refine ⟨store6_bel HJE.out.bel, ?_⟩
            rw [HF.out]
            exact ⟨rfl, HX0.out⟩
        · have hne : ((ea : Int) != 0) = true := by rw [bne_iff_ne]; omega
          rw [if_pos hee] at HG3
          have HF : Hid (R0 = .error ea) := HG3.out
          have HX0 := hid hee
          have HJE : Hid (XJ w b s (k1 + L) ((wo.setCell ⟨O, 1, none⟩ (.bool kh)).setCell ⟨O, 2, none⟩ (.string kd))) := (HJo.out.set 1 _ hOb hOw).set 2 _ hOb hOw
          clear hee HG3 HJo HO6 HPo HKA
          have rr := HJE.out.rr
          obtain ⟨o0, o1, o2, o3, o4, o5⟩ := cells6 rr
          have p0 := froz_of (i := 0) rr
          have p1 := froz_of (i := 1) rr
          have p2 := froz_of (i := 2) rr
          have p3 := froz_of (i := 3) rr
          have p4 := froz_of (i := 4) rr
          have p5 := froz_of (i := 5) rr
          clear rr
          go_wp2_with fail
          have f11 : ((((((((wo.setCell ⟨O, 1, none⟩ (.bool kh)).setCell ⟨O, 2, none⟩ (.string kd)).setCell ⟨w.heap.size, 0, none⟩ (.int .i64 0)).setCell ⟨w.heap.size, 1, none⟩ (.bool false)).setCell ⟨w.heap.size, 2, none⟩ (.string ⟨#[]⟩)).setCell ⟨w.heap.size, 3, none⟩ (.bool false)).setCell ⟨w.heap.size, 4, none⟩ (.string ⟨#[]⟩)).setCell ⟨w.heap.size, 5, none⟩ (.slice none 0 0)).heap[w.heap.size]? = some (.cells #[.int .i64 0, .bool false, .string ⟨#[]⟩, .bool false, .string ⟨#[]⟩, .slice none 0 0] 27 (0, 0)) := heap_set (heap_set (heap_set (heap_set (heap_set (heap_set HJE.out.rr)))))
          obtain ⟨j0, j1, j2, j3, j4, j5⟩ := cells6 f11
          clear f11
          refine bodyPost_ret (v := .tuple #[noRec, .int .i64 0, .int .i64 ea]) (by simp [results, noRec, Tryz.results7, go_sem, j0, j1, j2, j3, j4, j5]) rfl ?_
          refine ⟨store6_bel HJE.out.bel, ?_⟩
          rw [HF.out]
          exact ⟨rfl, HX0.out⟩
    · have hd1 : decide ((s.size : Int) - k1 < (L : Int)) = true := decide_eq_true (by omega)
      have HF : Hid (R0 = .error 21) := (HR0.out ()).symm.trans (rd_e2 (first := first) HN.out HU.out (by omega))
      clear hx hs hk1
      go_wp2_with fail
      refine CL.out.mono ?_
      rintro r w3 ⟨rfl, n3, rfl⟩
      have HJ3 := hid (HJ2.out.drewN n3)
      clear HJ2 CL
      generalize w2.drewN n3 = w3 at *
      have rr := HJ3.out.rr
      obtain ⟨m0, m1, m2, m3, m4, m5⟩ := cells6 rr
      have n0 := froz_of (i := 0) rr
      have n1 := froz_of (i := 1) rr
      have n2 := froz_of (i := 2) rr
      have n3 := froz_of (i := 3) rr
      have n4 := froz_of (i := 4) rr
      have n5 := froz_of (i := 5) rr
      clear rr
      go_wp2_with fail
      have f11 : ((((((w3.setCell ⟨w.heap.size, 0, none⟩ (.int .i64 0)).setCell ⟨w.heap.size, 1, none⟩ (.bool false)).setCell ⟨w.heap.size, 2, none⟩ (.string ⟨#[]⟩)).setCell ⟨w.heap.size, 3, none⟩ (.bool false)).setCell ⟨w.heap.size, 4, none⟩ (.string ⟨#[]⟩)).setCell ⟨w.heap.size, 5, none⟩ (.slice none 0 0)).heap[w.heap.size]? = some (.cells #[.int .i64 0, .bool false, .string ⟨#[]⟩, .bool false, .string ⟨#[]⟩, .slice none 0 0] 27 (0, 0)) := heap_set (heap_set (heap_set (heap_set (heap_set (heap_set HJ3.out.rr)))))
      obtain ⟨j0, j1, j2, j3, j4, j5⟩ := cells6 f11
      clear f11
      refine bodyPost_ret (v := .tuple #[noRec, .int .i64 0, .int .i64 21]) (by simp [results, noRec, Tryz.results7, go_sem, j0, j1, j2, j3, j4, j5]) rfl ?_
      refine ⟨store6_bel HJ3.out.bel, ?_⟩
      rw [HF.out]
      exact ⟨rfl, by decide⟩
  · have HF : Hid (R0 = .error e1) := (HR0.out ()).symm.trans (rd_e1 (first := first) HN.out HU.out he1)
    have hne : ((e1 : Int) != 0) = true := by rw [bne_iff_ne]; omega
    have HX0 := hid he1
    have HJJ : Hid (∃ e, RX w2 b s k1 e) := ⟨_, HR2.out⟩
    clear he1
    have rr := HRR2.out
    obtain ⟨m0, m1, m2, m3, m4, m5⟩ := cells6 rr
    have n0 := froz_of (i := 0) rr
    have n1 := froz_of (i := 1) rr
    have n2 := froz_of (i := 2) rr
    have n3 := froz_of (i := 3) rr
    have n4 := froz_of (i := 4) rr
    have n5 := froz_of (i := 5) rr
    clear rr
    go_wp2_with fail
    have f11 : ((((((w2.setCell ⟨w.heap.size, 0, none⟩ (.int .i64 0)).setCell ⟨w.heap.size, 1, none⟩ (.bool false)).setCell ⟨w.heap.size, 2, none⟩ (.string ⟨#[]⟩)).setCell ⟨w.heap.size, 3, none⟩ (.bool false)).setCell ⟨w.heap.size, 4, none⟩ (.string ⟨#[]⟩)).setCell ⟨w.heap.size, 5, none⟩ (.slice none 0 0)).heap[w.heap.size]? = some (.cells #[.int .i64 0, .bool false, .string ⟨#[]⟩, .bool false, .string ⟨#[]⟩, .slice none 0 0] 27 (0, 0)) := heap_set (heap_set (heap_set (heap_set (heap_set (heap_set HRR2.out)))))
    obtain ⟨j0, j1, j2, j3, j4, j5⟩ := cells6 f11
    clear f11
    refine bodyPost_ret (v := .tuple #[noRec, .int .i64 0, .int .i64 e1]) (by simp [results, noRec, Tryz.results7, go_sem, j0, j1, j2, j3, j4, j5]) rfl ?_
    refine ⟨store6_bel HB2.out, ?_⟩
    rw [HF.out]
    exact ⟨rfl, HX0.out⟩
theorem xread_any (s : ByteArray) (first n : Int) (w : World) (hs : s.size ≤ 9223372036854775807) (hf : I64 first) :
    Calls Tryz.prog 7 #[.string s, .int .i64 first, .int .i64 n] w (ReadPost (rd5 s first n) w) := by
  by_cases hn : 0 ≤ n ∧ n < 65536
  · obtain ⟨N, rfl⟩ : ∃ N : Nat, n = (N : Int) := ⟨n.toNat, by omega⟩
    exact xread_yes s first N w (by omega) hs hf _ rfl
  · exact xread_no s first n w hn
end Go.Proofs.YtafogjilheniiaaGreat
