/- What the calls of a cursor answer: numbers, texts; that each gives up where it must. -/
import Derived.Test.YtpfaioncaolmjaaGreatCur
namespace Go.Proofs.YtpfaioncaolmjaaGreat
open Go.RowKit
set_option maxHeartbeats 1000000 in
set_option maxRecDepth 20000 in
theorem raw_range (b : Nat) (s : ByteArray) (k : Nat) (n : Int) (w : World) (h : Rd w b s k 0) (hn : n < 0) :
    Calls Tryz.prog 97 #[.pointer (some ⟨b, 0, none⟩), .int .i64 n] w (Quits b s 1 w) := by
  go_enter Tryz.func97, Tryz.ntmps97
  go_wp2_with (go_at_call 127; refine (give_up _ 1 _ (by first | with_reducible rfl | exact decide_eq_true (by omega) | assumption)).mono ?_; rintro e w' ⟨rfl, rfl⟩)
  exact ⟨rfl, rfl, ⟨k, h⟩, Ch.refl _ _⟩
set_option maxHeartbeats 1000000 in
set_option maxRecDepth 20000 in
theorem raw_short (b : Nat) (s : ByteArray) (k : Nat) (n : Int) (w : World) (h : Rd w b s k 0) (hk : k ≤ s.size) (hs : s.size ≤ 9223372036854775807) (hn : 0 ≤ n) (hn2 : (s.size : Int) - k < n) :
    Calls Tryz.prog 97 #[.pointer (some ⟨b, 0, none⟩), .int .i64 n] w (Quits b s 20 w) := by
  go_enter Tryz.func97, Tryz.ntmps97
  go_wp2_with (first
    | (go_at_call 127; refine (give_no _ _ _ (by first | with_reducible rfl | exact decide_eq_false (by omega) | assumption)).mono ?_; rintro e w' ⟨rfl, rfl⟩)
    | (go_at_call 59; refine (left_any b s k 0 _ h (by omega) hs).mono ?_; rintro e w' ⟨rfl, n1, rfl⟩)
    | (go_at_call 127; refine (give_up _ 20 _ (by first | with_reducible rfl | exact decide_eq_true (by omega) | assumption)).mono ?_; rintro e w' ⟨rfl, rfl⟩))
  exact ⟨rfl, rfl, ⟨k, h.drewN _⟩, (Ch.refl _ _).drewN _⟩
/-- Bytes as a number, great end first. -/
def be (l : List Nat) : Nat := l.foldl (fun v b => v * 256 + b) 0
theorem be_snoc (l : List Nat) (b : Nat) : be (l ++ [b]) = be l * 256 + b := by simp [be]
theorem be_acc : ∀ (l : List Nat) (v : Nat), (∀ b ∈ l, b < 256) → l.foldl (fun v b => v * 256 + b) v < (v + 1) * 256 ^ l.length
  | [], v, _ => by simp
  | b :: l, v, h => by
    have h1 := be_acc l (v * 256 + b) (fun c hc => h c (by simp [hc]))
    have h2 := h b (by simp)
    rw [List.foldl_cons, List.length_cons, Nat.pow_succ]
    refine Nat.lt_of_lt_of_le h1 ?_
    rw [Nat.mul_comm (256 ^ l.length) 256, ← Nat.mul_assoc]
    exact Nat.mul_le_mul_right _ (by omega)
theorem be_lt (l : List Nat) (h : ∀ b ∈ l, b < 256) : be l < 256 ^ l.length := by
  have := be_acc l 0 h
  simpa [be] using this
theorem be_step (t : ByteArray) (j : Nat) (hj : j < t.size) (h8 : j < 8) :
    bits BinOp.or IntKind.u64 (IntKind.u64.wrap ((be ((bl t).take j) : Int) * 256)) (IntKind.u64.wrap (t[j].toNat : Int)) = ((be ((bl t).take (j + 1)) : Nat) : Int) := by
  have hl : j < (bl t).length := by rw [bl_len]; exact hj
  have e : (bl t).take (j + 1) = (bl t).take j ++ [t[j].toNat] := by
    rw [List.take_succ_eq_append_getElem hl]; congr 2; simp [bl]; rfl
  have hb := be_lt ((bl t).take j) (fun b hb => bl_byte t b (List.mem_of_mem_take hb))
  rw [List.length_take, Nat.min_eq_left (by omega)] at hb
  have hp : (256 : Nat) ^ j ≤ 256 ^ 7 := Nat.pow_le_pow_right (by omega) (by omega)
  have h256 := t[j].toNat_lt
  rw [e, be_snoc]
  generalize be ((bl t).take j) = X at hb ⊢
  generalize t[j].toNat = c at h256 ⊢
  have e4 : IntKind.u64.wrap ((X : Int) * 256) = ((X * 256 : Nat) : Int) := by rw [IntKind.wrap_u64]; omega
  have e5 : IntKind.u64.wrap (c : Int) = (c : Int) := by rw [IntKind.wrap_u64]; omega
  rw [e4, e5, u64_or_nat _ _ (by omega) (by omega)]
  congr 1
  have := nat_join 8 (X * 256) c (by omega) (by omega)
  omega
set_option maxHeartbeats 1000000 in
set_option maxRecDepth 20000 in
theorem number_ok (b : Nat) (s : ByteArray) (k n : Nat) (w : World) (h : Rd w b s k 0) (hk : k + n ≤ s.size) (hs : s.size ≤ 9223372036854775807) (hn : n ≤ 8) :
    Calls Tryz.prog 63 #[.pointer (some ⟨b, 0, none⟩), .int .i64 n] w (Gets b s (.int .u64 (be (bl (s.extract k (k + n))))) (k + n) w) := by
  have hz : (s.extract k (k + n)).size = n := by simp [ByteArray.size_extract]; omega
  have hraw := raw_ok b s k n w h hk hs
  generalize s.extract k (k + n) = t at hz hraw ⊢
  go_enter Tryz.func63, Tryz.ntmps63
  go_wp2_with (go_at_call 97; refine hraw.mono ?_; rintro e w' ⟨rfl, hrd, hch⟩)
  go_loop [6, 13] (fun v i => ∃ j : Nat, j ≤ n ∧ i = .int .i64 j ∧ v = .int .u64 (be ((bl t).take j))) (fun _ i => n - (intOf i).toNat)
  case atStart => exact ⟨0, by omega, rfl, rfl⟩
  case round =>
    obtain ⟨j, hj, rfl, rfl⟩ := hrel
    by_cases hlt : j < n
    · have hlt' : j < t.size := by omega
      have hst := be_step t j hlt' (by omega)
      have HS : Hid (bits BinOp.or IntKind.u64 (IntKind.u64.wrap ((be ((bl t).take j) : Int) * 256)) (IntKind.u64.wrap (t[j].toNat : Int)) = ((be ((bl t).take (j + 1)) : Nat) : Int)) := hst
      clear hst
      go_wp2
      go_round
      case rel => exact ⟨j + 1, by omega, by go_num, by rw [HS.out]⟩
      case measure => simp [intOf]; omega
    · have e : (bl t).take j = bl t := List.take_of_length_le (by rw [bl_len]; omega)
      have HE : Hid ((bl t).take j = bl t) := e
      clear e
      go_wp2
      go_ret
      exact ⟨by rw [HE.out]; rfl, hrd, hch⟩
set_option maxHeartbeats 1000000 in
set_option maxRecDepth 20000 in
theorem number_short (b : Nat) (s : ByteArray) (k n : Nat) (w : World) (h : Rd w b s k 0) (hk : k ≤ s.size) (hs : s.size ≤ 9223372036854775807) (hn : s.size < k + n) :
    Calls Tryz.prog 63 #[.pointer (some ⟨b, 0, none⟩), .int .i64 n] w (Quits b s 20 w) := by
  go_enter Tryz.func63, Tryz.ntmps63
  go_wp2_with (go_at_call 97; refine (raw_short b s k n w h hk hs (by omega) (by omega)).mono ?_; rintro e w' ⟨rfl, hrd, hch⟩)
  exact ⟨rfl, rfl, hrd, hch⟩
theorem read_ok (t : ByteArray) (w : World) (hs : t.size ≤ 9223372036854775807) (h : rde t = 0) :
    Calls Tryz.prog 125 #[.string t] w fun e w' => e = .returned (.tuple #[.int .u64 (rdv t), .int .i64 (rdn t), .int .i64 0]) ∧ w' = w := by
  have := read_any t w hs
  rw [rm_ok h (rd_bds t).1] at this
  exact this
theorem read_bad (t : ByteArray) (w : World) (hs : t.size ≤ 9223372036854775807) (h : ¬ rde t = 0) :
    Calls Tryz.prog 125 #[.string t] w fun e w' => e = .returned (.tuple #[.int .u64 0, .int .i64 0, .int .i64 (rde t)]) ∧ w' = w := by
  have := read_any t w hs
  rw [rm_bad h] at this
  exact this
/-- What is there from k on. -/
def tl (s : ByteArray) (k : Nat) : ByteArray := s.extract k s.size
theorem tl_size (s : ByteArray) (k : Nat) : (tl s k).size = s.size - k := by simp [tl, ByteArray.size_extract]
set_option maxHeartbeats 1000000 in
set_option maxRecDepth 20000 in
theorem uv_ok (b : Nat) (s : ByteArray) (k : Nat) (w : World) (h : Rd w b s k 0) (hk : k ≤ s.size) (hs : s.size ≤ 9223372036854775807) (he : rde (tl s k) = 0) :
    Calls Tryz.prog 94 #[.pointer (some ⟨b, 0, none⟩)] w (Gets b s (.int .u64 (rdv (tl s k))) (k + rdn (tl s k)) w) := by
  have hrest := rest_any b s k 0 w h hk
  have hb := rd_bds (tl s k)
  have hz := tl_size s k
  rw [show s.extract k s.size = tl s k from rfl] at hrest
  generalize tl s k = t at he hrest hb hz ⊢
  obtain ⟨hb1, hb2, hb3⟩ := hb
  go_enter Tryz.func94, Tryz.ntmps94
  go_wp2_with (first
    | (go_at_call 126; refine hrest.mono ?_; rintro e w' ⟨rfl, n1, rfl⟩)
    | (go_at_call 125; refine (read_ok t _ (by omega) he).mono ?_; rintro e w' ⟨rfl, rfl⟩)
    | (go_at_call 127; refine (give_no _ _ _ (by first | with_reducible rfl | exact decide_eq_false (by omega) | assumption)).mono ?_; rintro e w' ⟨rfl, rfl⟩)
    | (go_at_call 115; refine (pass_any b k (rdn t) _ (h.drewN _).c0 ((h.drewN _).fz 0) (by omega) (by omega) (by omega)).mono ?_; rintro e w' ⟨rfl, rfl⟩))
  go_ret
  exact ⟨rfl, (h.drewN _).set0 (k + rdn t), ((Ch.refl _ _).drewN _).setCell _ _ (fun _ => rfl)⟩
set_option maxHeartbeats 1000000 in
set_option maxRecDepth 20000 in
theorem uv_bad (b : Nat) (s : ByteArray) (k : Nat) (w : World) (h : Rd w b s k 0) (hk : k ≤ s.size) (hs : s.size ≤ 9223372036854775807) (he : ¬ rde (tl s k) = 0) :
    Calls Tryz.prog 94 #[.pointer (some ⟨b, 0, none⟩)] w (Quits b s (rde (tl s k)) w) := by
  have hrest := rest_any b s k 0 w h hk
  have hz := tl_size s k
  rw [show s.extract k s.size = tl s k from rfl] at hrest
  generalize tl s k = t at he hrest hz ⊢
  have hne : ((rde t : Int) != 0) = true := by rw [bne_iff_ne]; omega
  have HE : Hid (¬ rde t = 0) := he
  clear he
  go_enter Tryz.func94, Tryz.ntmps94
  go_wp2_with (first
    | (go_at_call 126; refine hrest.mono ?_; rintro e w' ⟨rfl, n1, rfl⟩)
    | (go_at_call 125; refine (read_bad t _ (by omega) HE.out).mono ?_; rintro e w' ⟨rfl, rfl⟩)
    | (go_at_call 127; refine (give_up _ (rde t) _ (by first | with_reducible rfl | exact decide_eq_true (by omega) | assumption)).mono ?_; rintro e w' ⟨rfl, rfl⟩))
  exact ⟨rfl, rfl, ⟨k, h.drewN _⟩, (Ch.refl _ _).drewN _⟩
set_option maxHeartbeats 1000000 in
set_option maxRecDepth 20000 in
theorem vi_ok (b : Nat) (s : ByteArray) (k : Nat) (w : World) (h : Rd w b s k 0) (hk : k ≤ s.size) (hs : s.size ≤ 9223372036854775807) (he : rde (tl s k) = 0) :
    Calls Tryz.prog 95 #[.pointer (some ⟨b, 0, none⟩)] w (Gets b s (.int .i64 (M.uz (rdv (tl s k)))) (k + rdn (tl s k)) w) := by
  have hu := uv_ok b s k w h hk hs he
  have hb := rd_bds (tl s k)
  generalize tl s k = t at he hu hb ⊢
  obtain ⟨hb1, hb2, hb3⟩ := hb
  go_enter Tryz.func95, Tryz.ntmps95
  go_wp2_with (first
    | (go_at_call 94; refine hu.mono ?_; rintro e w' ⟨rfl, hrd, hch⟩)
    | (go_at_call 128; refine (uz_any _ _ (by omega) (by omega)).mono ?_; rintro e w' ⟨rfl, rfl⟩))
  go_ret
  exact ⟨rfl, hrd, hch⟩
set_option maxHeartbeats 1000000 in
set_option maxRecDepth 20000 in
theorem vi_bad (b : Nat) (s : ByteArray) (k : Nat) (w : World) (h : Rd w b s k 0) (hk : k ≤ s.size) (hs : s.size ≤ 9223372036854775807) (he : ¬ rde (tl s k) = 0) :
    Calls Tryz.prog 95 #[.pointer (some ⟨b, 0, none⟩)] w (Quits b s (rde (tl s k)) w) := by
  go_enter Tryz.func95, Tryz.ntmps95
  go_wp2_with (go_at_call 94; refine (uv_bad b s k w h hk hs he).mono ?_; rintro e w' ⟨rfl, hrd, hch⟩)
  exact ⟨rfl, rfl, hrd, hch⟩
end Go.Proofs.YtpfaioncaolmjaaGreat
