/- LzBest's walk: what Best answers is a match, the longest, the nearest. -/
import Derived.Test.YtdkfenmhfkggdabFix
namespace Go.Proofs.Ytdkfenmhfkggdab
open Go.RowKit
/-- Do n bytes at p match those at the distance d? -/
def mt (l : List UInt8) (p n : Nat) (d : Int) : Bool := decide (1 ≤ d ∧ d ≤ p ∧ d ≤ 8192 ∧ p + n ≤ l.length ∧ M.alk l n (p - d.toNat) p = n)
theorem alk_iff {l : List UInt8} {n m a b : Nat} (h : n ≤ m) : M.alk l n a b = n ↔ n ≤ M.alk l m a b := by
  constructor
  · intro he
    exact M.alk_ge h (fun k hk => M.alk_eq l n a b k (by omega))
  · intro hg
    have h1 := M.alk_ge (l := l) (a := a) (b := b) (Nat.le_refl n) (fun k hk => M.alk_eq l m a b k (by omega))
    have h2 := M.alk_le l n a b
    omega
set_option maxHeartbeats 2000000 in
set_option maxRecDepth 20000 in
theorem matches_any (s : ByteArray) (p n : Nat) (ni d : Int) (w : World) (hs : s.size ≤ 9223372036854775807) (hp : p < s.size) (hn : ni = (n : Int)) (hn2 : n ≤ 200) :
    Calls Try.prog 8 #[.string s, .int .i64 p, .int .i64 ni, .int .i64 d] w fun e w' => e = .returned (.bool (mt s.data.toList p n d)) ∧ Qt w w' := by
  subst hn
  have hlen := len_ s
  have hats := fun (i : Nat) (h : i < s.size) => at_ s i h
  generalize s.data.toList = l at *
  by_cases hin : 1 ≤ d ∧ d ≤ p ∧ d ≤ 8192 ∧ p + n ≤ s.size
  · obtain ⟨h1, h2, h3, h4⟩ := hin
    obtain ⟨D, rfl⟩ := Int.eq_ofNat_of_zero_le (show 0 ≤ d by omega)
    have hmt : mt l p n D = decide (M.alk l n (p - D) p = n) := by
      unfold mt
      rw [decide_eq_decide, Int.toNat_natCast]
      exact ⟨fun h => h.2.2.2.2, fun h => ⟨h1, h2, h3, by omega, h⟩⟩
    rw [hmt]
    have HAT := hid hats
    have hx1 : decide ((D : Int) < 1) = false := by simp; omega
    have hx2 : decide ((p : Int) < D) = false := by simp; omega
    have hx3 : decide ((8192 : Int) < D) = false := by simp; omega
    have hx4 : decide ((s.size : Int) - p < n) = false := by simp; omega
    have hd1 : 1 ≤ D := by omega
    have hd2 : D ≤ p := by omega
    clear hmt hats hlen h1 h2 h3
    go_enter Try.func8, Try.ntmps8
    go_wp2_with fail
    go_loopw [9] (fun i wr => ∃ k : Nat, k ≤ n ∧ i = .int .i64 k ∧ Hid (∀ j, j < k → M.by_ l (p - D + j) = M.by_ l (p + j)) ∧ Qt w wr) (fun i _ => n - (intOf i).toNat)
    case atStart => exact ⟨0, by omega, rfl, fun j hj => by omega, Qt.refl _⟩
    case round =>
      obtain ⟨k, hk, rfl, HK, hq⟩ := hrel
      by_cases hlt : k < n
      · obtain ⟨x, hx⟩ : ∃ x, x = p + k := ⟨_, rfl⟩
        obtain ⟨y0, hy0⟩ : ∃ y, y = p - D := ⟨_, rfl⟩
        obtain ⟨y, hy⟩ : ∃ y, y = p - D + k := ⟨_, rfl⟩
        have g1 : x < s.size := by omega
        have g2 : y < s.size := by omega
        have e1 : IntKind.i64.wrap ((p : Int) + k) = (x : Int) := by rw [hx]; exact wrap_add (by omega)
        have e2 : IntKind.i64.wrap ((p : Int) - D) = (y0 : Int) := by rw [wrap_in (by omega) (by omega)]; omega
        have e3 : IntKind.i64.wrap ((y0 : Int) + k) = (y : Int) := by rw [wrap_in (by omega) (by omega)]; omega
        have f1 : s[x] = M.by_ l (p + k) := by rw [HAT.out x g1, hx]
        have f2 : s[y] = M.by_ l (p - D + k) := by rw [HAT.out y g2, hy]
        by_cases he : s[x] = s[y]
        · have HK' : Hid (∀ j, j < k + 1 → M.by_ l (p - D + j) = M.by_ l (p + j)) := by
            intro j hj
            by_cases hjk : j = k
            · rw [hjk, ← f1, ← f2]; exact he.symm
            · exact HK.out j (by omega)
          have he2 : (((s[x].toNat : Nat) : Int) != ((s[y].toNat : Nat) : Int)) = false := by rw [he]; simp
          clear he f1 f2 hx hy hy0
          go_wp2_with fail
          go_quiet (fail)
          go_wp2_with fail
          go_roundw
          case rel => exact ⟨k + 1, by omega, by go_num, HK', hq.drewN _⟩
          case measure => simp [intOf]; omega
        · have hA : decide (M.alk l n (p - D) p = n) = false := by
            rw [decide_eq_false_iff_not]
            intro h
            have := M.alk_eq l n (p - D) p k (by omega)
            rw [← f1, ← f2] at this
            exact he this.symm
          have he2 : (((s[x].toNat : Nat) : Int) != ((s[y].toNat : Nat) : Int)) = true := by
            rw [bne_iff_ne]
            intro h
            exact he (UInt8.toNat_inj.1 (by omega))
          have HA := hid hA
          clear he f1 f2 hx hy hy0 hA
          go_wp2_with fail
          go_quiet (fail)
          go_wp2_with fail
          go_ret
          exact ⟨by rw [HA.out]; rfl, hq.drewN _⟩
      · have hA : decide (M.alk l n (p - D) p = n) = true := by
          rw [decide_eq_true_iff]
          have h1 := M.alk_ge (l := l) (a := p - D) (b := p) (Nat.le_refl n) (fun j hj => HK.out j (by omega))
          have h2 := M.alk_le l n (p - D) p
          omega
        have HA := hid hA
        clear hA
        go_wp2_with fail
        go_ret
        exact ⟨by rw [HA.out]; rfl, hq⟩
  · have hmt : mt l p n d = false := by
      unfold mt
      rw [decide_eq_false_iff_not]
      intro h
      exact hin ⟨h.1, h.2.1, h.2.2.1, by omega⟩
    rw [hmt]
    clear hmt hats
    by_cases h1 : d < 1
    · clear hin hlen
      go_enter Try.func8, Try.ntmps8
      go_wp2_with fail
      go_ret
      exact ⟨rfl, Qt.refl _⟩
    · by_cases h2 : (p : Int) < d
      · clear hin hlen
        go_enter Try.func8, Try.ntmps8
        go_wp2_with fail
        go_ret
        exact ⟨rfl, Qt.refl _⟩
      · by_cases h3 : (8192 : Int) < d
        · clear hin hlen
          go_enter Try.func8, Try.ntmps8
          go_wp2_with fail
          go_ret
          exact ⟨rfl, Qt.refl _⟩
        · have h4 : (s.size : Int) - p < n := by omega
          clear hin hlen
          go_enter Try.func8, Try.ntmps8
          go_wp2_with fail
          go_ret
          exact ⟨rfl, Qt.refl _⟩
end Go.Proofs.Ytdkfenmhfkggdab
