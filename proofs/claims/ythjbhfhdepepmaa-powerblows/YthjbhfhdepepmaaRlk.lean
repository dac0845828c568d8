/- The document's disk: its looks, and Read. -/
import Derived.Test.YthjbhfhdepepmaaRat
namespace Go.Proofs.Ythjbhfhdepepmaa
open Go.RowKit
theorem ba_size (l : List UInt8) : (ba l).size = l.length := by show (List.toArray l).size = _; simp
section
variable {w : World} {d : Nat} {fl : Value} {rm : Nat} {cl cb : Int} {V : Vw} {nm : ByteArray} {x : List UInt8 × Nat}
theorem Rk.at_some (h : Rk w d fl rm cl cb V) (hs : SV rm V) (hv : vl nm V = some x) : ∃ l r g cap, V = l ++ (nm, x) :: r ∧ (∀ y ∈ l, Bf y.1 nm) ∧ (∀ y ∈ r, Bf nm y.1) ∧ fl = .slice (some ⟨g, 0, none⟩) V.length cap ∧ l.length < V.length ∧
    w.cell? ⟨g, l.length * 3 + 1, none⟩ = some (.string (ba x.1)) ∧ w.cell? ⟨g, l.length * 3 + 2, none⟩ = some (.int .i64 x.2) ∧ (∀ j, w.frozen? ⟨g, j, none⟩ = false) ∧ g ≠ d ∧
    Calls Try.prog 68 #[.pointer (some ⟨d, 0, none⟩), .string nm] w fun e w' => e = .returned (.tuple #[.int .i64 l.length, .bool true]) ∧ ∃ k, w' = w.drewN k := by
  obtain ⟨l, r, rfl, h1, h2⟩ := split_some hs.srt hv
  have hc := hs.cnt
  rcases h.form with ⟨_, e⟩ | ⟨g, cap, rfl, hcl, hfz, hg⟩
  · simp at e
  · refine ⟨l, r, g, cap, rfl, h1, h2, rfl, by simp, ?_, ?_, hfz, hg, rat_any d _ rm cl cb l _ nm true w h h1 (Or.inl ⟨rfl, rfl⟩) hc⟩
    · rw [hcl _ (by simp; omega), rfs_at _ _ _ 1 (by omega)]; rfl
    · rw [hcl _ (by simp; omega), rfs_at _ _ _ 2 (by omega)]; rfl
theorem Rk.at_none (h : Rk w d fl rm cl cb V) (hs : SV rm V) (hv : vl nm V = none) : ∃ l r, V = l ++ r ∧ (∀ y ∈ l, Bf y.1 nm) ∧ (∀ y ∈ r, Bf nm y.1) ∧
    Calls Try.prog 68 #[.pointer (some ⟨d, 0, none⟩), .string nm] w fun e w' => e = .returned (.tuple #[.int .i64 l.length, .bool false]) ∧ ∃ k, w' = w.drewN k := by
  obtain ⟨l, r, rfl, h1, h2⟩ := split_none hs.srt (vl_none_ne hv)
  refine ⟨l, r, rfl, h1, h2, rat_any d _ rm cl cb l r nm false w h h1 ?_ hs.cnt⟩
  cases r with
  | nil => exact rfl
  | cons y r => exact Or.inr ⟨h2 y (by simp), rfl⟩
end
theorem rroom_any (d : Nat) (fl : Value) (rm : Nat) (cl cb : Int) (V : Vw) (w : World) (h : Rk w d fl rm cl cb V) :
    Calls Try.prog 61 #[.pointer (some ⟨d, 0, none⟩)] w fun e w' => e = .returned (.int .i64 rm) ∧ ∃ k, w' = w.drewN k := by
  have c := h.c0
  clear h
  go_enter Try.func61, Try.ntmps61
  go_wp2
  go_ret
  exact ⟨rfl, 0, rfl⟩
theorem rreads_any (d : Nat) (fl : Value) (rm : Nat) (cl cb : Int) (V : Vw) (w : World) (h : Rk w d fl rm cl cb V) :
    Calls Try.prog 64 #[.pointer (some ⟨d, 0, none⟩)] w fun e w' => e = .returned (.tuple #[.int .i64 cl, .int .i64 cb]) ∧ ∃ k, w' = w.drewN k := by
  have c := h.c2
  have c' := h.c3
  clear h
  go_enter Try.func64, Try.ntmps64
  go_wp2
  go_quiet (fail)
  go_wp2
  go_ret2
  exact ⟨rfl, _, rfl⟩
set_option maxHeartbeats 1000000 in
set_option maxRecDepth 20000 in
theorem rsize_any (d : Nat) (fl : Value) (rm : Nat) (cl cb : Int) (V : Vw) (nm : ByteArray) (w : World) (h : Rk w d fl rm cl cb V) (hs : SV rm V) :
    Calls Try.prog 51 #[.pointer (some ⟨d, 0, none⟩), .string nm] w fun e w' => e = .returned (.tuple #[.int .i64 (szN (vl nm V)), .int .i64 (noE (vl nm V))]) ∧ ∃ k, w' = w.drewN k := by
  have c1 := h.c1
  cases hv : vl nm V with
  | none =>
    obtain ⟨l, r, _, _, _, HA⟩ := h.at_none hs hv
    have HA := hid' HA
    clear h hs hv
    go_enter Try.func51, Try.ntmps51
    go_wp2_with (go_at_call 68; refine HA.out.mono ?_; rintro e w' ⟨rfl, k, rfl⟩)
    go_ret2
    exact ⟨rfl, _, rfl⟩
  | some x =>
    obtain ⟨l, r, g, cap, hV, _, _, rfl, hlt, q1, _, _, _, HA⟩ := h.at_some hs hv
    have HA := hid' HA
    have hc := hs.cnt
    have hltI : (l.length : Int) < V.length := by omega
    have hsz := ba_size x.1
    show Calls _ _ _ _ (fun e w' => e = .returned (.tuple #[.int .i64 x.1.length, .int .i64 0]) ∧ _)
    generalize x.1.length = XN at *
    generalize ba x.1 = X at *
    generalize l.length = L at *
    generalize V.length = N at *
    clear h hs hv hV
    go_enter Try.func51, Try.ntmps51
    go_wp2_with (go_at_call 68; refine HA.out.mono ?_; rintro e w' ⟨rfl, k, rfl⟩)
    go_ret2
    exact ⟨by rw [← hsz]; rfl, _, rfl⟩
set_option maxHeartbeats 1000000 in
set_option maxRecDepth 20000 in
theorem rsynced_any (d : Nat) (fl : Value) (rm : Nat) (cl cb : Int) (V : Vw) (nm : ByteArray) (w : World) (h : Rk w d fl rm cl cb V) (hs : SV rm V) :
    Calls Try.prog 52 #[.pointer (some ⟨d, 0, none⟩), .string nm] w fun e w' => e = .returned (.tuple #[.int .i64 (syN (vl nm V)), .int .i64 (noE (vl nm V))]) ∧ ∃ k, w' = w.drewN k := by
  have c1 := h.c1
  cases hv : vl nm V with
  | none =>
    obtain ⟨l, r, _, _, _, HA⟩ := h.at_none hs hv
    have HA := hid' HA
    clear h hs hv
    go_enter Try.func52, Try.ntmps52
    go_wp2_with (go_at_call 68; refine HA.out.mono ?_; rintro e w' ⟨rfl, k, rfl⟩)
    go_ret2
    exact ⟨rfl, _, rfl⟩
  | some x =>
    obtain ⟨l, r, g, cap, hV, _, _, rfl, hlt, _, q2, _, _, HA⟩ := h.at_some hs hv
    have HA := hid' HA
    have hc := hs.cnt
    have hltI : (l.length : Int) < V.length := by omega
    show Calls _ _ _ _ (fun e w' => e = .returned (.tuple #[.int .i64 x.2, .int .i64 0]) ∧ _)
    generalize x.2 = XN at *
    generalize l.length = L at *
    generalize V.length = N at *
    clear h hs hv hV
    go_enter Try.func52, Try.ntmps52
    go_wp2_with (go_at_call 68; refine HA.out.mono ?_; rintro e w' ⟨rfl, k, rfl⟩)
    go_ret2
    exact ⟨rfl, _, rfl⟩
theorem vt_take_le (V : Vw) (j : Nat) : vt (V.take j) ≤ vt V := by
  conv => rhs; rw [← List.take_append_drop j V]
  rw [vt_app]
  omega
set_option maxHeartbeats 1000000 in
set_option maxRecDepth 20000 in
theorem rused_any (d : Nat) (fl : Value) (rm : Nat) (cl cb : Int) (V : Vw) (w : World) (h : Rk w d fl rm cl cb V) (hs : SV rm V) :
    Calls Try.prog 62 #[.pointer (some ⟨d, 0, none⟩)] w fun e w' => e = .returned (.int .i64 (vt V)) ∧ ∃ k, w' = w.drewN k := by
  have c1 := h.c1
  have hf := h.form
  have hc := hs.cnt
  have hrm := hs.rom
  clear h hs
  rcases hf with ⟨rfl, rfl⟩ | ⟨g, cap, rfl, hcl, _, _⟩
  · clear hc hrm
    go_enter Try.func62, Try.ntmps62
    go_wp2
    go_loopg [3, 4] 0 (fun k n i wr => ∃ m : Nat, n = .int .i64 0 ∧ i = .int .i64 0 ∧ wr = w.drewN m)
    case atStart => exact ⟨0, rfl, rfl, rfl⟩
    case round =>
      obtain ⟨m, rfl, rfl, rfl⟩ := hrel
      go_wp2
      go_ret
      exact ⟨rfl, _, rfl⟩
  · have HC := hid' hcl
    generalize hN : V.length = N at *
    have HN := hid' hN
    clear hcl hN
    have HR := hid' hrm
    clear hrm
    go_enter Try.func62, Try.ntmps62
    go_wp2
    go_loopg [3, 4] N (fun k n i wr => ∃ j m : Nat, j + k = N ∧ n = .int .i64 (vt (V.take j) : Nat) ∧ i = .int .i64 j ∧ wr = w.drewN m)
    case atStart => exact ⟨0, 0, by omega, rfl, rfl, rfl⟩
    case round =>
      obtain ⟨j, m, hk, rfl, rfl, rfl⟩ := hrel
      by_cases hlt : j < N
      · obtain ⟨k, rfl⟩ : ∃ k, gk = k + 1 := ⟨gk - 1, by omega⟩
        have hltD : decide ((j : Int) < N) = true := by simp; omega
        have hltI : (j : Int) < N := by omega
        obtain ⟨l', x, r', e1, e2, _, q1, _⟩ := name_at HN.out HC.out hlt
        have ew := w64 (n := j) (by omega)
        have hsz := ba_size x.2.1
        have e3 : vt (V.take (j + 1)) = vt (V.take j) + x.2.1.length := by
          have t1 : V.take (j + 1) = l' ++ [x] := by
            rw [e1, show l' ++ x :: r' = (l' ++ [x]) ++ r' from by simp, show j + 1 = (l' ++ [x]).length from by simp [e2]]
            exact List.take_left
          have t0 : V.take j = l' := by rw [e1, ← e2]; exact List.take_left
          rw [t1, t0, vt_app]
          simp [vt]
        have hle := vt_take_le V (j + 1)
        have hr := HR.out
        have ew2 : wrap64 ((vt (V.take j) : Int) + (x.2.1.length : Nat)) = ((vt (V.take (j + 1)) : Nat) : Int) := by rw [e3]; unfold wrap64; omega
        have EW2 := hid' ew2
        clear ew2
        generalize vt (V.take j) = A0 at *
        generalize ba x.2.1 = X at *
        generalize x.2.1.length = XN at *
        clear e1 e2 e3 hle hr
        go_wp2
        go_roundg k
        case measure => omega
        case rel => exact ⟨j + 1, _, by omega, by first | rfl | exact congrArg (Value.int .i64) EW2.out, by first | rfl | exact congrArg (Value.int .i64) ew, rfl⟩
      · have hltD : decide ((j : Int) < N) = false := by simp; omega
        go_wp2
        go_ret
        have e : V.take j = V := List.take_of_length_le (by rw [HN.out]; omega)
        exact ⟨by rw [e]; rfl, _, rfl⟩
end Go.Proofs.Ythjbhfhdepepmaa
