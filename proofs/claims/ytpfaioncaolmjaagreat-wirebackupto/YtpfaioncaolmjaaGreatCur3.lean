/- What the calls of a cursor answer: texts with a length ahead, and null. -/
import Derived.Test.YtpfaioncaolmjaaGreatCur2
namespace Go.Proofs.YtpfaioncaolmjaaGreat
open Go.RowKit
set_option maxHeartbeats 1000000 in
set_option maxRecDepth 20000 in
theorem sized_ok (b : Nat) (s : ByteArray) (k n : Nat) (most : Int) (w : World) (h : Rd w b s k 0) (hk : k ≤ s.size) (hs : s.size ≤ 9223372036854775807) (hm1 : -9223372036854775808 ≤ most) (hm2 : most ≤ 9223372036854775807) (hn : n < 18446744073709551616) (h1 : (n : Int) ≤ most ∨ n = 0) (h2 : k + n ≤ s.size) :
    Calls Tryz.prog 103 #[.pointer (some ⟨b, 0, none⟩), .int .u64 n, .int .i64 most] w (Gets b s (.string (s.extract k (k + n))) (k + n) w) := by
  by_cases hneg : most < 0
  all_goals
    go_enter Tryz.func103, Tryz.ntmps103
    go_wp2_with (first
      | (go_at_call 127; refine (give_no _ _ _ (by first | with_reducible rfl | exact decide_eq_false (by omega) | assumption)).mono ?_; rintro e w' ⟨rfl, rfl⟩)
      | (go_at_call 59; refine (left_any b s k 0 _ h (by omega) hs).mono ?_; rintro e w' ⟨rfl, n1, rfl⟩)
      | (go_at_call 97; refine (raw_ok b s k n _ (h.drewN _) (by omega) hs).mono ?_; rintro e w' ⟨rfl, hrd, hch⟩))
    go_ret
    exact ⟨rfl, hrd, ((Ch.refl _ _).drewN _).trans hch⟩
set_option maxHeartbeats 1000000 in
set_option maxRecDepth 20000 in
theorem sized_long1 (b : Nat) (s : ByteArray) (k n : Nat) (most : Int) (w : World) (h : Rd w b s k 0) (hm1 : -9223372036854775808 ≤ most) (hm2 : most ≤ 9223372036854775807) (h1 : most < (n : Int)) (h2 : 0 < n) :
    Calls Tryz.prog 103 #[.pointer (some ⟨b, 0, none⟩), .int .u64 n, .int .i64 most] w (Quits b s 21 w) := by
  by_cases hneg : most < 0
  all_goals
    go_enter Tryz.func103, Tryz.ntmps103
    go_wp2_with (first
      | (go_at_call 127; refine (give_up _ 21 _ (by first | with_reducible rfl | exact decide_eq_true (by omega) | assumption)).mono ?_; rintro e w' ⟨rfl, rfl⟩))
    exact ⟨rfl, rfl, ⟨k, h⟩, Ch.refl _ _⟩
set_option maxHeartbeats 1000000 in
set_option maxRecDepth 20000 in
theorem sized_long2 (b : Nat) (s : ByteArray) (k n : Nat) (most : Int) (w : World) (h : Rd w b s k 0) (hk : k ≤ s.size) (hs : s.size ≤ 9223372036854775807) (hm1 : -9223372036854775808 ≤ most) (hm2 : most ≤ 9223372036854775807) (hn : n < 18446744073709551616) (h1 : (n : Int) ≤ most ∨ n = 0) (h2 : s.size < k + n) :
    Calls Tryz.prog 103 #[.pointer (some ⟨b, 0, none⟩), .int .u64 n, .int .i64 most] w (Quits b s 21 w) := by
  have hneg : ¬ most < 0 := by omega
  · skip
    go_enter Tryz.func103, Tryz.ntmps103
    go_wp2_with (first
      | (go_at_call 127; refine (give_no _ _ _ (by first | with_reducible rfl | exact decide_eq_false (by omega) | assumption)).mono ?_; rintro e w' ⟨rfl, rfl⟩)
      | (go_at_call 59; refine (left_any b s k 0 _ h (by omega) hs).mono ?_; rintro e w' ⟨rfl, n1, rfl⟩)
      | (go_at_call 127; refine (give_up _ 21 _ (by first | with_reducible rfl | exact decide_eq_true (by omega) | assumption)).mono ?_; rintro e w' ⟨rfl, rfl⟩))
    exact ⟨rfl, rfl, ⟨k, h.drewN _⟩, (Ch.refl _ _).drewN _⟩
set_option maxHeartbeats 1000000 in
set_option maxRecDepth 20000 in
theorem text_bad (b : Nat) (s : ByteArray) (k : Nat) (most : Int) (w : World) (h : Rd w b s k 0) (hk : k ≤ s.size) (hs : s.size ≤ 9223372036854775807)  (he : ¬ rde (tl s k) = 0) :
    Calls Tryz.prog 66 #[.pointer (some ⟨b, 0, none⟩), .int .i64 most] w (Quits b s (rde (tl s k)) w) := by
  go_enter Tryz.func66, Tryz.ntmps66
  go_wp2_with (go_at_call 94; refine (uv_bad b s k w h hk hs he).mono ?_; rintro e w' ⟨rfl, hrd, hch⟩)
  exact ⟨rfl, rfl, hrd, hch⟩
set_option maxHeartbeats 1000000 in
set_option maxRecDepth 20000 in
theorem text_ok (b : Nat) (s : ByteArray) (k : Nat) (most : Int) (w : World) (h : Rd w b s k 0) (hk : k ≤ s.size) (hs : s.size ≤ 9223372036854775807) (hm1 : -9223372036854775808 ≤ most) (hm2 : most ≤ 9223372036854775807) (he : rde (tl s k) = 0) (h1 : (rdv (tl s k) : Int) ≤ most ∨ rdv (tl s k) = 0) (h2 : k + rdn (tl s k) + rdv (tl s k) ≤ s.size) :
    Calls Tryz.prog 66 #[.pointer (some ⟨b, 0, none⟩), .int .i64 most] w (Gets b s (.string (s.extract (k + rdn (tl s k)) (k + rdn (tl s k) + rdv (tl s k)))) (k + rdn (tl s k) + rdv (tl s k)) w) := by
  have hu := uv_ok b s k w h hk hs he
  have hb := rd_bds (tl s k)
  have hz := tl_size s k
  generalize hK : k + rdn (tl s k) = K at *
  generalize rdv (tl s k) = n at *
  obtain ⟨hb1, hb2, hb3⟩ := hb
  have hKs : K ≤ s.size := by omega
  clear hK he hb2 hb3 hz
  go_enter Tryz.func66, Tryz.ntmps66
  go_wp2_with (first
    | (go_at_call 94; refine hu.mono ?_; rintro e w' ⟨rfl, hrd, hch⟩)
    | (go_at_call 103; refine (sized_ok b s K n most w' hrd hKs hs hm1 hm2 (by omega) h1 h2).mono ?_; rintro e w'' ⟨rfl, hrd2, hch2⟩))
  go_ret
  exact ⟨rfl, hrd2, hch.trans hch2⟩
set_option maxHeartbeats 1000000 in
set_option maxRecDepth 20000 in
theorem text_long1 (b : Nat) (s : ByteArray) (k : Nat) (most : Int) (w : World) (h : Rd w b s k 0) (hk : k ≤ s.size) (hs : s.size ≤ 9223372036854775807) (hm1 : -9223372036854775808 ≤ most) (hm2 : most ≤ 9223372036854775807) (he : rde (tl s k) = 0) (h1 : most < (rdv (tl s k) : Int)) (h2 : 0 < rdv (tl s k)) :
    Calls Tryz.prog 66 #[.pointer (some ⟨b, 0, none⟩), .int .i64 most] w (Quits b s 21 w) := by
  have hu := uv_ok b s k w h hk hs he
  have hb := rd_bds (tl s k)
  have hz := tl_size s k
  generalize hK : k + rdn (tl s k) = K at *
  generalize rdv (tl s k) = n at *
  obtain ⟨hb1, hb2, hb3⟩ := hb
  have hKs : K ≤ s.size := by omega
  clear hK he hb2 hb3 hz
  go_enter Tryz.func66, Tryz.ntmps66
  go_wp2_with (first
    | (go_at_call 94; refine hu.mono ?_; rintro e w' ⟨rfl, hrd, hch⟩)
    | (go_at_call 103; refine (sized_long1 b s K n most w' hrd hm1 hm2 h1 h2).mono ?_; rintro e w'' ⟨rfl, hrd2, hch2⟩))
  exact ⟨rfl, rfl, hrd2, hch.trans hch2⟩
set_option maxHeartbeats 1000000 in
set_option maxRecDepth 20000 in
theorem text_long2 (b : Nat) (s : ByteArray) (k : Nat) (most : Int) (w : World) (h : Rd w b s k 0) (hk : k ≤ s.size) (hs : s.size ≤ 9223372036854775807) (hm1 : -9223372036854775808 ≤ most) (hm2 : most ≤ 9223372036854775807) (he : rde (tl s k) = 0) (h1 : (rdv (tl s k) : Int) ≤ most ∨ rdv (tl s k) = 0) (h2 : s.size < k + rdn (tl s k) + rdv (tl s k)) :
    Calls Tryz.prog 66 #[.pointer (some ⟨b, 0, none⟩), .int .i64 most] w (Quits b s 21 w) := by
  have hu := uv_ok b s k w h hk hs he
  have hb := rd_bds (tl s k)
  have hz := tl_size s k
  generalize hK : k + rdn (tl s k) = K at *
  generalize rdv (tl s k) = n at *
  obtain ⟨hb1, hb2, hb3⟩ := hb
  have hKs : K ≤ s.size := by omega
  clear hK he hb2 hb3 hz
  go_enter Tryz.func66, Tryz.ntmps66
  go_wp2_with (first
    | (go_at_call 94; refine hu.mono ?_; rintro e w' ⟨rfl, hrd, hch⟩)
    | (go_at_call 103; refine (sized_long2 b s K n most w' hrd hKs hs hm1 hm2 (by omega) h1 h2).mono ?_; rintro e w'' ⟨rfl, hrd2, hch2⟩))
  exact ⟨rfl, rfl, hrd2, hch.trans hch2⟩
end Go.Proofs.YtpfaioncaolmjaaGreat
