/- The document's disk: New, Sync, Cut, Overwrite, Append, Read. -/
import Derived.Test.YthjbhfhdepepmaaRlk
import Derived.Test.YthjbhfhdepepmaaDnw
import Derived.BigRegion
namespace Go.Proofs.Ythjbhfhdepepmaa
open Go.RowKit
theorem rnew_any (r : Int) (w : World) : Calls Try.prog 44 #[.int .i64 r] w fun e w' => e = .returned (.pointer (some ⟨w.heap.size, 0, none⟩)) ∧ w' = w.alloc (.cells #[.int .i64 (clamp r), .slice none 0 0, .int .i64 0, .int .i64 0] 77) := by
  unfold clamp
  have e : ((min (max r 0) 1099511627776).toNat : Int) = min (max r 0) 1099511627776 := by omega
  rw [e]
  clear e
  by_cases h1 : r < 0
  · have e1 : min (max r 0) 1099511627776 = 0 := by omega
    rw [e1]
    have h1D : decide (r < 0) = true := by simpa using h1
    go_enter Try.func44, Try.ntmps44
    go_wp2
    go_ret
    exact ⟨rfl, rfl⟩
  · have h1D : decide (r < 0) = false := by simpa using h1
    by_cases h2 : 1099511627776 < r
    · have e1 : min (max r 0) 1099511627776 = 1099511627776 := by omega
      rw [e1]
      have h2D : decide (1099511627776 < r) = true := by simpa using h2
      go_enter Try.func44, Try.ntmps44
      go_wp2
      go_ret
      exact ⟨rfl, rfl⟩
    · have e1 : min (max r 0) 1099511627776 = r := by omega
      rw [e1]
      have h2D : decide (1099511627776 < r) = false := by simpa using h2
      go_enter Try.func44, Try.ntmps44
      go_wp2
      go_ret
      exact ⟨rfl, rfl⟩
theorem Rs.new (w : World) (r : Int) : Rs (w.alloc (.cells #[.int .i64 (clamp r), .slice none 0 0, .int .i64 0, .int .i64 0] 77)) w.heap.size (fun i => i = w.heap.size) (clamp r) 0 0 [] := by
  refine ⟨.slice none 0 0, ⟨heap_new _ _, World.ownsRow_nil _ _ _ _⟩, ?_⟩
  funext i
  apply propext
  constructor
  · intro hi; exact Or.inl hi
  · rintro (hi | hi)
    · exact hi
    · cases hi
section
variable {w w' : World} {d g cap : Nat} {fl : Value} {rm : Nat} {cl cb : Int} {l r : Vw} {nm : ByteArray} {x y : List UInt8 × Nat} {V : Vw}
/-- A cell of a file turned in its place. -/
theorem Rk.put (h : Rk w d (.slice (some ⟨g, 0, none⟩) V.length cap) rm cl cb V) (hV : V = l ++ (nm, x) :: r) (k : Nat) (u : Value) (hk : k < 3) (hs : (rfc (nm, x)).set k u = rfc (nm, y)) (n : Nat) :
    Rk ((w.drewN n).setCell ⟨g, l.length * 3 + k, none⟩ u) d (.slice (some ⟨g, 0, none⟩) V.length cap) rm cl cb (l ++ (nm, y) :: r) := by
  have hg := h.ne (g := g) rfl
  have h' := h.ch ((Ch.refl (fun _ => False) w).drewN n) (fun _ _ e => e)
  refine ⟨?_, ?_⟩
  · exact heap_set_far h'.blk (fun e => hg e.symm)
  · have k1 := (h'.row.stored (l.length * 3 + k) u).1
    have e1 : (l ++ (nm, y) :: r).length = V.length := by rw [hV]; simp
    rw [e1, ← rfs_set l r (nm, x) (nm, y) k u hk hs, ← hV]
    exact k1
theorem RAft.put (h : Rk w d (.slice (some ⟨g, 0, none⟩) V.length cap) rm cl cb V) (hV : V = l ++ (nm, x) :: r) (k : Nat) (u : Value) (hk : k < 3) (hs : (rfc (nm, x)).set k u = rfc (nm, y)) (n : Nat) :
    RAft w (Rt d (.slice (some ⟨g, 0, none⟩) V.length cap)) d rm cl cb (l ++ (nm, y) :: r) ((w.drewN n).setCell ⟨g, l.length * 3 + k, none⟩ u) :=
  ⟨_, ⟨_, h.put hV k u hk hs n, rfl⟩, ((Ch.refl _ w).drewN n).setCell _ _ (fun _ => Or.inr rfl), fun _ hi => Or.inl hi⟩
theorem RAft.same (h : Rk w d fl rm cl cb V) (n : Nat) : RAft w (Rt d fl) d rm cl cb V (w.drewN n) :=
  ⟨_, ⟨_, h.ch ((Ch.refl (fun _ => False) w).drewN n) (fun _ _ e => e), rfl⟩, (Ch.refl _ w).drewN n, fun _ hi => Or.inl hi⟩
end
set_option maxHeartbeats 1000000 in
set_option maxRecDepth 20000 in
theorem rsync_any (d : Nat) (fl : Value) (rm : Nat) (cl cb : Int) (V : Vw) (nm : ByteArray) (w : World) (h : Rk w d fl rm cl cb V) (hs : SV rm V) :
    Calls Try.prog 46 #[.pointer (some ⟨d, 0, none⟩), .string nm] w fun e w' => e = .returned (.int .i64 (noE (vl nm V))) ∧ RAft w (Rt d fl) d rm cl cb (synV nm V) w' := by
  have c1 := h.c1
  unfold synV
  cases hv : vl nm V with
  | none =>
    obtain ⟨l, r, _, _, _, HA⟩ := h.at_none hs hv
    have HA := hid' HA
    have HS := hid' (fun n => RAft.same h n)
    clear h hs hv
    go_enter Try.func46, Try.ntmps46
    go_wp2_with (go_at_call 68; refine HA.out.mono ?_; rintro e w' ⟨rfl, k, rfl⟩)
    go_ret
    exact ⟨rfl, HS.out _⟩
  | some x =>
    obtain ⟨l, r, g, cap, hV, k1, k2, rfl, hlt, q1, q2, fz, _, HA⟩ := h.at_some hs hv
    have HA := hid' HA
    have hc := hs.cnt
    have hltI : (l.length : Int) < V.length := by omega
    have hsz := ba_size x.1
    show Calls _ _ _ _ (fun e w' => e = .returned (.int .i64 0) ∧ RAft w _ d rm cl cb (vset nm (x.1, x.1.length) V) w')
    have HP := hid' (fun n => RAft.put (y := (x.1, x.1.length)) h hV 2 (.int .i64 x.1.length) (by omega) rfl n)
    have e0 : vset nm (x.1, x.1.length) V = l ++ (nm, (x.1, x.1.length)) :: r := by rw [hV]; exact vset_mid k1 k2
    rw [e0]
    generalize l ++ (nm, (x.1, x.1.length)) :: r = V' at *
    generalize x.1.length = XN at *
    generalize ba x.1 = X at *
    generalize l.length = L at *
    generalize V.length = N at *
    clear h hs hv hV e0 k1 k2
    go_enter Try.func46, Try.ntmps46
    go_wp2_with (go_at_call 68; refine HA.out.mono ?_; rintro e w' ⟨rfl, k, rfl⟩)
    have fz2 := fz (L * 3 + 2)
    go_region
    all_goals (try go_wp2)
    all_goals (go_ret; exact ⟨rfl, HP.out _⟩)
end Go.Proofs.Ythjbhfhdepepmaa
