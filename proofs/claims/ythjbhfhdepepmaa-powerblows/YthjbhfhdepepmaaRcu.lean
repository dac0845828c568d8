/- The document's disk: Cut. -/
import Derived.Test.YthjbhfhdepepmaaRtu
namespace Go.Proofs.Ythjbhfhdepepmaa
open Go.RowKit
theorem ba_ext (l : List UInt8) (a b : Nat) : (ba l).extract a b = ba ((l.drop a).take (b - a)) := by
  apply ByteArray.ext
  show (ByteArray.extract (ba l) a b).data = ((l.drop a).take (b - a)).toArray
  rw [ByteArray.data_extract]
  apply Array.toList_inj.1
  show (l.toArray.extract a b).toList = _
  simp
theorem ba_ext0 (l : List UInt8) (b : Nat) : (ba l).extract 0 b = ba (l.take b) := by rw [ba_ext]; simp
section
variable {w w1 w2 : World} {ft : Nat → Prop} {d : Nat} {rm : Nat} {cl cb cl1 cb1 cl2 cb2 : Int} {V1 V2 : Vw}
theorem RAft.then (h1 : RAft w ft d rm cl1 cb1 V1 w1) (h2 : ∀ ft', Rs w1 d ft' rm cl1 cb1 V1 → RAft w1 ft' d rm cl2 cb2 V2 w2) : RAft w ft d rm cl2 cb2 V2 w2 := by
  obtain ⟨f1, k1, k2, k3⟩ := h1
  obtain ⟨f2, m1, m2, m3⟩ := h2 f1 k1
  refine ⟨f2, m1, k2.then m2 (fun i hi hf => ?_), fun i hi => ?_⟩
  · rcases k3 i hf with h | h
    · exact h
    · omega
  · rcases m3 i hi with h | h
    · exact k3 i h
    · exact Or.inr (Nat.le_trans k2.size h)
end
set_option maxHeartbeats 2000000 in
set_option maxRecDepth 20000 in
theorem rcut_any (d : Nat) (fl : Value) (rm : Nat) (cl cb : Int) (V : Vw) (nm : ByteArray) (a : Int) (w : World) (h : Rk w d fl rm cl cb V) (hs : SV rm V) :
    Calls Try.prog 57 #[.pointer (some ⟨d, 0, none⟩), .string nm, .int .i64 a] w fun e w' => e = .returned (.int .i64 (cuE (vl nm V) a)) ∧ RAft w (Rt d fl) d rm cl cb (cuV nm a V) w' := by
  have c1 := h.c1
  have HS := hid' (fun n => RAft.same h n)
  unfold cuV
  cases hv : vl nm V with
  | none =>
    obtain ⟨l, r, _, _, _, HA⟩ := h.at_none hs hv
    have HA := hid' HA
    clear h hs hv
    go_enter Try.func57, Try.ntmps57
    go_wp2_with (go_at_call 68; refine HA.out.mono ?_; rintro e w' ⟨rfl, k, rfl⟩)
    go_ret
    exact ⟨rfl, HS.out _⟩
  | some x =>
    obtain ⟨l, r, g, cap, hV, k1, k2, rfl, hlt, q1, q2, fz, _, HA⟩ := h.at_some hs hv
    have HA := hid' HA
    have hc := hs.cnt
    have hltI : (l.length : Int) < V.length := by omega
    have hsz := ba_size x.1
    show Calls _ _ _ _ (fun e w' => e = .returned (.int .i64 (cuE (some x) a)) ∧ RAft w _ d rm cl cb (if has5 x.1.length 0 a then vset nm (x.1.take a.toNat, min x.2 a.toNat) V else V) w')
    unfold cuE
    by_cases hh : 0 ≤ a ∧ a ≤ x.1.length
    · have e5 : has5 x.1.length 0 a = true := by unfold has5; simp; omega
      simp only [e5, if_true]
      obtain ⟨n, rfl⟩ : ∃ n : Nat, a = n := ⟨a.toNat, by omega⟩
      have hx := ba_ext0 x.1 n
      have d1 : decide ((n : Int) < 0) = false := by simp
      have d2 : decide ((x.1.length : Int) < (n : Int)) = false := by simp; omega
      have hnI : (n : Int) ≤ x.1.length := hh.2
      have en : ((n : Int)).toNat = n := by omega
      rw [en]
      have P1 := fun m => Rk.put (y := (x.1.take n, x.2)) h hV 1 (.string (ba (x.1.take n))) (by omega) rfl m
      have A1 := fun m => RAft.put (y := (x.1.take n, x.2)) h hV 1 (.string (ba (x.1.take n))) (by omega) rfl m
      have e0 : ∀ z, vset nm z V = l ++ (nm, z) :: r := fun z => by rw [hV]; exact vset_mid k1 k2
      rw [e0]
      have eN : (l ++ (nm, (x.1.take n, x.2)) :: r).length = V.length := by rw [hV]; simp
      have A2 : ∀ m m', RAft w (Rt d (.slice (some ⟨g, 0, none⟩) V.length cap)) d rm cl cb (l ++ (nm, (x.1.take n, n)) :: r) ((((w.drewN m).setCell ⟨g, l.length * 3 + 1, none⟩ (.string (ba (x.1.take n)))).drewN m').setCell ⟨g, l.length * 3 + 2, none⟩ (.int .i64 n)) := by
        intro m m'
        refine (A1 m).then fun ft' hR => ?_
        obtain ⟨fl', hk, rfl⟩ := hR
        have hk1 := P1 m
        obtain rfl : fl' = .slice (some ⟨g, 0, none⟩) V.length cap := by
          have := hk.c1; rw [hk1.c1] at this; injection this with this; exact this.symm
        rw [← eN] at hk ⊢
        exact RAft.put (y := (x.1.take n, n)) hk rfl 2 (.int .i64 n) (by omega) rfl m'
      have C1 := fun m => (P1 m).c1
      have C2 : ∀ m, ((w.drewN m).setCell ⟨g, l.length * 3 + 1, none⟩ (.string (ba (x.1.take n)))).cell? ⟨g, l.length * 3 + 2, none⟩ = some (.int .i64 x.2) := by
        intro m
        have hk1 := P1 m
        rcases hk1.form with ⟨e, _⟩ | ⟨g', cap', e, hcl, _⟩
        · cases e
        · injection e with e _ _
          injection e with e
          injection e with e
          subst e
          rw [hcl _ (by simp; omega), rfs_at _ _ _ 2 (by omega)]; rfl
      have F2 : ∀ m j, ((w.drewN m).setCell ⟨g, l.length * 3 + 1, none⟩ (.string (ba (x.1.take n)))).frozen? ⟨g, j, none⟩ = false := by
        intro m j
        have hk1 := P1 m
        have hr := hk1.row
        rw [eN] at hr
        exact hr.frozenAt j
      by_cases hy : n < x.2
      · have em : min x.2 n = n := by omega
        rw [em]
        have d3 : decide ((n : Int) < (x.2 : Int)) = true := by simp; omega
        have A2 := hid' A2
        have C1 := hid' C1
        have C2 := hid' C2
        have F2 := hid' F2
        have fz1 := fz (l.length * 3 + 1)
        clear P1 A1 e0 hV h hs hv HS k1 k2 hh e5 fz eN
        generalize ba (x.1.take n) = X' at *
        generalize l ++ (nm, (x.1.take n, n)) :: r = V' at *
        generalize x.1.length = XN at *
        generalize ba x.1 = X at *
        generalize x.2 = XS at *
        generalize l.length = L at *
        generalize V.length = N at *
        go_enter Try.func57, Try.ntmps57
        go_wp2_with (go_at_call 68; refine HA.out.mono ?_; rintro e w' ⟨rfl, k, rfl⟩)
        go_region
        have c1' := C1.out (k + 1)
        have c2' := C2.out (k + 1)
        have f2' := F2.out (k + 1) (L * 3 + 2)
        go_wp2
        go_ret
        exact ⟨rfl, A2.out (k + 1) 0⟩
      · have em : min x.2 n = x.2 := by omega
        rw [em]
        have d3 : decide ((n : Int) < (x.2 : Int)) = false := by simp; omega
        have A2 := hid' A1
        have C1 := hid' C1
        have C2 := hid' C2
        have fz1 := fz (l.length * 3 + 1)
        clear P1 A1 e0 hV h hs hv HS k1 k2 hh e5 fz eN F2
        generalize ba (x.1.take n) = X' at *
        generalize l ++ (nm, (x.1.take n, x.2)) :: r = V' at *
        generalize x.1.length = XN at *
        generalize ba x.1 = X at *
        generalize x.2 = XS at *
        generalize l.length = L at *
        generalize V.length = N at *
        go_enter Try.func57, Try.ntmps57
        go_wp2_with (go_at_call 68; refine HA.out.mono ?_; rintro e w' ⟨rfl, k, rfl⟩)
        go_region
        have c1' := C1.out (k + 1)
        have c2' := C2.out (k + 1)
        go_wp2
        go_ret
        exact ⟨rfl, A2.out _⟩
    · have e5 : has5 x.1.length 0 a = false := by unfold has5; simp; omega
      simp only [e5, Bool.false_eq_true, if_false]
      have HS := hid' HS.out
      generalize x.1.length = XN at *
      generalize ba x.1 = X at *
      generalize l.length = L at *
      clear hV h hs hv k1 k2 e5 fz
      generalize V.length = N at *
      by_cases h0 : a < 0
      · have d1 : decide (a < 0) = true := by simpa using h0
        go_enter Try.func57, Try.ntmps57
        go_wp2_with (go_at_call 68; refine HA.out.mono ?_; rintro e w' ⟨rfl, k, rfl⟩)
        go_ret
        exact ⟨rfl, HS.out _⟩
      · have d1 : decide (a < 0) = false := by simpa using h0
        have d2 : decide ((XN : Int) < a) = true := by simp; omega
        go_enter Try.func57, Try.ntmps57
        go_wp2_with (go_at_call 68; refine HA.out.mono ?_; rintro e w' ⟨rfl, k, rfl⟩)
        go_ret
        exact ⟨rfl, HS.out _⟩
end Go.Proofs.Ythjbhfhdepepmaa
