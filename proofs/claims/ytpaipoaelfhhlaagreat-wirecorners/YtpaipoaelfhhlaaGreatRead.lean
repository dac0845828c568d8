/- One call of both readers: the same answers; both stand the same behind it. -/
import Derived.Test.YtpaipoaelfhhlaaGreatNum
import Derived.Test.YtpaipoaelfhhlaaGreatRmD
import Derived.Test.YtpaipoaelfhhlaaGreatRmE
import Derived.Test.YtpaipoaelfhhlaaGreatRmF
namespace Go.Proofs.YtpaipoaelfhhlaaGreat
open Go.RowKit
theorem rq_le {n : Int} {s : ByteArray} {k e : Nat} (hk : k ≤ s.size) : (rq n s k e).2.1 ≤ s.size := by
  unfold rq; split
  · exact hk
  · split
    · exact hk
    · split
      · assumption
      · exact hk
theorem tq_le {n : Int} {s : ByteArray} {k e : Nat} (hk : k ≤ s.size) : (tq n s k e).2.1 ≤ s.size := by
  unfold tq; split
  · exact hk
  · split
    · exact hk
    · split
      · rename_i h; exact h.2
      · exact hk
theorem oq_le {n : Int} {s : ByteArray} {k e : Nat} (hk : k ≤ s.size) : (oq n s k e).2.2.1 ≤ s.size := by
  have hz := tl_size s k
  have hb := rd_bds (tl s k)
  unfold oq; split
  · exact hk
  · split
    · exact hk
    · split
      · dsimp only; omega
      · split
        · rename_i h; exact h.2.2
        · exact hk
theorem w64 (N : Nat) : -9223372036854775808 ≤ wrap64 (N : Int) ∧ wrap64 (N : Int) ≤ 9223372036854775807 := by unfold wrap64; omega
set_option maxHeartbeats 2000000 in
set_option maxRecDepth 20000 in
theorem read0_any (b q : Nat) (s : ByteArray) (k e Kd N : Nat) (S : ByteArray) (w : World) (hr : Rd w b s k e) (hx : RX w q s k e) (hbq : b ≠ q) (hk : k ≤ s.size) (hs : s.size ≤ 9223372036854775807) (hKd : Kd < 256) (hm : (Kd : Int) % 14 = 0) :
    Calls Tryz.prog 10 #[.pointer (some ⟨b, 0, none⟩), .pointer (some ⟨q, 0, none⟩), .agg #[.int .u8 Kd, .int .u64 N, .string S]] w (Both b q s w) := by
  go_enter Tryz.func10, Tryz.ntmps10
  go_wp2_with fail
  refine (num0_any b q s k e _ (hr.alloc _) (hx.alloc _) hbq hk hs).mono ?_
  rintro r w1 ⟨rfl, k', e', h1, h2, h3, h4⟩
  go_wp2
  go_ret
  exact ⟨rfl, k', e', h1, h2, h3, ((Ch.refl _ _).alloc _).trans h4⟩
set_option maxHeartbeats 2000000 in
set_option maxRecDepth 20000 in
theorem read1_any (b q : Nat) (s : ByteArray) (k e Kd N : Nat) (S : ByteArray) (w : World) (hr : Rd w b s k e) (hx : RX w q s k e) (hbq : b ≠ q) (hk : k ≤ s.size) (hs : s.size ≤ 9223372036854775807) (hKd : Kd < 256) (hm : (Kd : Int) % 14 = 1) :
    Calls Tryz.prog 10 #[.pointer (some ⟨b, 0, none⟩), .pointer (some ⟨q, 0, none⟩), .agg #[.int .u8 Kd, .int .u64 N, .string S]] w (Both b q s w) := by
  go_enter Tryz.func10, Tryz.ntmps10
  go_wp2_with fail
  refine (num1_any b q s k e _ (hr.alloc _) (hx.alloc _) hbq hk hs).mono ?_
  rintro r w1 ⟨rfl, k', e', h1, h2, h3, h4⟩
  go_wp2
  go_ret
  exact ⟨rfl, k', e', h1, h2, h3, ((Ch.refl _ _).alloc _).trans h4⟩
set_option maxHeartbeats 2000000 in
set_option maxRecDepth 20000 in
theorem read2_any (b q : Nat) (s : ByteArray) (k e Kd N : Nat) (S : ByteArray) (w : World) (hr : Rd w b s k e) (hx : RX w q s k e) (hbq : b ≠ q) (hk : k ≤ s.size) (hs : s.size ≤ 9223372036854775807) (hKd : Kd < 256) (hm : (Kd : Int) % 14 = 2) :
    Calls Tryz.prog 10 #[.pointer (some ⟨b, 0, none⟩), .pointer (some ⟨q, 0, none⟩), .agg #[.int .u8 Kd, .int .u64 N, .string S]] w (Both b q s w) := by
  go_enter Tryz.func10, Tryz.ntmps10
  go_wp2_with fail
  refine (num2_any b q s k e _ (hr.alloc _) (hx.alloc _) hbq hk hs).mono ?_
  rintro r w1 ⟨rfl, k', e', h1, h2, h3, h4⟩
  go_wp2
  go_ret
  exact ⟨rfl, k', e', h1, h2, h3, ((Ch.refl _ _).alloc _).trans h4⟩
set_option maxHeartbeats 2000000 in
set_option maxRecDepth 20000 in
theorem read3_any (b q : Nat) (s : ByteArray) (k e Kd N : Nat) (S : ByteArray) (w : World) (hr : Rd w b s k e) (hx : RX w q s k e) (hbq : b ≠ q) (hk : k ≤ s.size) (hs : s.size ≤ 9223372036854775807) (hKd : Kd < 256) (hm : (Kd : Int) % 14 = 3) :
    Calls Tryz.prog 10 #[.pointer (some ⟨b, 0, none⟩), .pointer (some ⟨q, 0, none⟩), .agg #[.int .u8 Kd, .int .u64 N, .string S]] w (Both b q s w) := by
  go_enter Tryz.func10, Tryz.ntmps10
  go_wp2_with fail
  refine (num3_any b q s k e _ (hr.alloc _) (hx.alloc _) hbq hk hs).mono ?_
  rintro r w1 ⟨rfl, k', e', h1, h2, h3, h4⟩
  go_wp2
  go_ret
  exact ⟨rfl, k', e', h1, h2, h3, ((Ch.refl _ _).alloc _).trans h4⟩
set_option maxHeartbeats 2000000 in
set_option maxRecDepth 20000 in
theorem read4_any (b q : Nat) (s : ByteArray) (k e Kd N : Nat) (S : ByteArray) (w : World) (hr : Rd w b s k e) (hx : RX w q s k e) (hbq : b ≠ q) (hk : k ≤ s.size) (hs : s.size ≤ 9223372036854775807) (hKd : Kd < 256) (hm : (Kd : Int) % 14 = 4) :
    Calls Tryz.prog 10 #[.pointer (some ⟨b, 0, none⟩), .pointer (some ⟨q, 0, none⟩), .agg #[.int .u8 Kd, .int .u64 N, .string S]] w (Both b q s w) := by
  go_enter Tryz.func10, Tryz.ntmps10
  go_wp2_with fail
  refine (num4_any b q s k e _ (hr.alloc _) (hx.alloc _) hbq hk hs).mono ?_
  rintro r w1 ⟨rfl, k', e', h1, h2, h3, h4⟩
  go_wp2
  go_ret
  exact ⟨rfl, k', e', h1, h2, h3, ((Ch.refl _ _).alloc _).trans h4⟩
set_option maxHeartbeats 2000000 in
set_option maxRecDepth 20000 in
theorem read5_any (b q : Nat) (s : ByteArray) (k e Kd N : Nat) (S : ByteArray) (w : World) (hr : Rd w b s k e) (hx : RX w q s k e) (hbq : b ≠ q) (hk : k ≤ s.size) (hs : s.size ≤ 9223372036854775807) (hKd : Kd < 256) (hm : (Kd : Int) % 14 = 5) :
    Calls Tryz.prog 10 #[.pointer (some ⟨b, 0, none⟩), .pointer (some ⟨q, 0, none⟩), .agg #[.int .u8 Kd, .int .u64 N, .string S]] w (Both b q s w) := by
  go_enter Tryz.func10, Tryz.ntmps10
  go_wp2_with fail
  refine (num5_any b q s k e _ (hr.alloc _) (hx.alloc _) hbq hk hs).mono ?_
  rintro r w1 ⟨rfl, k', e', h1, h2, h3, h4⟩
  go_wp2
  go_ret
  exact ⟨rfl, k', e', h1, h2, h3, ((Ch.refl _ _).alloc _).trans h4⟩
set_option maxHeartbeats 2000000 in
set_option maxRecDepth 20000 in
theorem read6_any (b q : Nat) (s : ByteArray) (k e Kd N : Nat) (S : ByteArray) (w : World) (hr : Rd w b s k e) (hx : RX w q s k e) (hbq : b ≠ q) (hk : k ≤ s.size) (hs : s.size ≤ 9223372036854775807) (hKd : Kd < 256) (hm : (Kd : Int) % 14 = 6) :
    Calls Tryz.prog 10 #[.pointer (some ⟨b, 0, none⟩), .pointer (some ⟨q, 0, none⟩), .agg #[.int .u8 Kd, .int .u64 N, .string S]] w (Both b q s w) := by
  go_enter Tryz.func10, Tryz.ntmps10
  go_wp2_with fail
  refine (num6_any b q s k e _ (hr.alloc _) (hx.alloc _) hbq hk hs).mono ?_
  rintro r w1 ⟨rfl, k', e', h1, h2, h3, h4⟩
  go_wp2
  go_ret
  exact ⟨rfl, k', e', h1, h2, h3, ((Ch.refl _ _).alloc _).trans h4⟩
set_option maxHeartbeats 2000000 in
set_option maxRecDepth 20000 in
theorem read7_any (b q : Nat) (s : ByteArray) (k e Kd N : Nat) (S : ByteArray) (w : World) (hr : Rd w b s k e) (hx : RX w q s k e) (hbq : b ≠ q) (hk : k ≤ s.size) (hs : s.size ≤ 9223372036854775807) (hKd : Kd < 256) (hm : (Kd : Int) % 14 = 7) :
    Calls Tryz.prog 10 #[.pointer (some ⟨b, 0, none⟩), .pointer (some ⟨q, 0, none⟩), .agg #[.int .u8 Kd, .int .u64 N, .string S]] w (Both b q s w) := by
  go_enter Tryz.func10, Tryz.ntmps10
  go_wp2_with fail
  refine (num7_any b q s k e _ (hr.alloc _) (hx.alloc _) hbq hk hs).mono ?_
  rintro r w1 ⟨rfl, k', e', h1, h2, h3, h4⟩
  go_wp2
  go_ret
  exact ⟨rfl, k', e', h1, h2, h3, ((Ch.refl _ _).alloc _).trans h4⟩
set_option maxHeartbeats 2000000 in
set_option maxRecDepth 20000 in
theorem read8_any (b q : Nat) (s : ByteArray) (k e Kd N : Nat) (S : ByteArray) (w : World) (hr : Rd w b s k e) (hx : RX w q s k e) (hbq : b ≠ q) (hk : k ≤ s.size) (hs : s.size ≤ 9223372036854775807) (hKd : Kd < 256) (hm : (Kd : Int) % 14 = 8) :
    Calls Tryz.prog 10 #[.pointer (some ⟨b, 0, none⟩), .pointer (some ⟨q, 0, none⟩), .agg #[.int .u8 Kd, .int .u64 N, .string S]] w (Both b q s w) := by
  obtain ⟨hn1, hn2⟩ := w64 N
  have ha := fun w' h' => rraw_any b s k e (wrap64 (N : Int)) w' h' hk hs hn1 hn2
  have hb := fun w' h' => xraw_any q s k e (wrap64 (N : Int)) w' h' hk hs hn1 hn2
  have hle := rq_le (n := wrap64 (N : Int)) (s := s) (k := k) (e := e) hk
  generalize rq (wrap64 (N : Int)) s k e = z at ha hb hle
  obtain ⟨v, K, E⟩ := z
  dsimp only at ha hb hle
  go_enter Tryz.func10, Tryz.ntmps10
  go_wp2_with fail
  refine (ha _ (hr.alloc _)).mono ?_
  rintro r w1 ⟨rfl, h1, h2⟩
  have hx1 := (hx.alloc _).ch h2 (fun h => hbq h.symm)
  go_wp2_with fail
  refine (hb _ hx1).mono ?_
  rintro r w2 ⟨rfl, h3, h4⟩
  have hr2 := h1.ch h4 hbq
  go_wp2
  go_ret
  exact ⟨rfl, K, E, hle, hr2, h3, (((Ch.refl _ _).alloc _).trans (h2.mono (fun _ _ h => Or.inl h))).trans (h4.mono (fun _ _ h => Or.inr h))⟩
set_option maxHeartbeats 2000000 in
set_option maxRecDepth 20000 in
theorem read9_any (b q : Nat) (s : ByteArray) (k e Kd N : Nat) (S : ByteArray) (w : World) (hr : Rd w b s k e) (hx : RX w q s k e) (hbq : b ≠ q) (hk : k ≤ s.size) (hs : s.size ≤ 9223372036854775807) (hKd : Kd < 256) (hm : (Kd : Int) % 14 = 9) :
    Calls Tryz.prog 10 #[.pointer (some ⟨b, 0, none⟩), .pointer (some ⟨q, 0, none⟩), .agg #[.int .u8 Kd, .int .u64 N, .string S]] w (Both b q s w) := by
  obtain ⟨hn1, hn2⟩ := w64 N
  have ha := fun w' h' => rtext_any b s k e (wrap64 (N : Int)) w' h' hk hs hn1 hn2
  have hb := fun w' h' => xtext_any q s k e (wrap64 (N : Int)) w' h' hk hs hn1 hn2
  have hle := tq_le (n := wrap64 (N : Int)) (s := s) (k := k) (e := e) hk
  generalize tq (wrap64 (N : Int)) s k e = z at ha hb hle
  obtain ⟨v, K, E⟩ := z
  dsimp only at ha hb hle
  go_enter Tryz.func10, Tryz.ntmps10
  go_wp2_with fail
  refine (ha _ (hr.alloc _)).mono ?_
  rintro r w1 ⟨rfl, h1, h2⟩
  have hx1 := (hx.alloc _).ch h2 (fun h => hbq h.symm)
  go_wp2_with fail
  refine (hb _ hx1).mono ?_
  rintro r w2 ⟨rfl, h3, h4⟩
  have hr2 := h1.ch h4 hbq
  go_wp2
  go_ret
  exact ⟨rfl, K, E, hle, hr2, h3, (((Ch.refl _ _).alloc _).trans (h2.mono (fun _ _ h => Or.inl h))).trans (h4.mono (fun _ _ h => Or.inr h))⟩
set_option maxHeartbeats 2000000 in
set_option maxRecDepth 20000 in
theorem read10_any (b q : Nat) (s : ByteArray) (k e Kd N : Nat) (S : ByteArray) (w : World) (hr : Rd w b s k e) (hx : RX w q s k e) (hbq : b ≠ q) (hk : k ≤ s.size) (hs : s.size ≤ 9223372036854775807) (hKd : Kd < 256) (hm : (Kd : Int) % 14 = 10) :
    Calls Tryz.prog 10 #[.pointer (some ⟨b, 0, none⟩), .pointer (some ⟨q, 0, none⟩), .agg #[.int .u8 Kd, .int .u64 N, .string S]] w (Both b q s w) := by
  obtain ⟨hn1, hn2⟩ := w64 N
  have ha := fun w' h' => ropt_any b s k e (wrap64 (N : Int)) w' h' hk hs hn1 hn2
  have hb := fun w' h' => xopt_any q s k e (wrap64 (N : Int)) w' h' hk hs hn1 hn2
  have hle := oq_le (n := wrap64 (N : Int)) (s := s) (k := k) (e := e) hk
  generalize oq (wrap64 (N : Int)) s k e = z at ha hb hle
  obtain ⟨vb, vd, K, E⟩ := z
  dsimp only at ha hb hle
  have l1 := hr.lt
  have l2 := hx.lt
  go_enter Tryz.func10, Tryz.ntmps10
  go_wp2_with fail
  refine (ha _ (hr.alloc _)).mono ?_
  rintro r w1 ⟨rfl, h1, h2⟩
  have hx1 := (hx.alloc _).ch h2 (fun h => hbq h.symm)
  go_wp2_with fail
  refine (hb _ (hx1.alloc _)).mono ?_
  rintro r w2 ⟨rfl, h3, h4⟩
  have hr2 := (h1.alloc _).ch h4 hbq
  have l3 := hx1.lt
  have go1 : w2.heap[w1.heap.size]? = some (.cells #[.bool vb, .string vd] 76 (0, 0)) := (h4.block _ (by simp) (by omega)).trans (heap_new _ _)
  have g1 : w2.cell? ⟨w1.heap.size, 0, none⟩ = some (.bool vb) := (cell_of go1).trans rfl
  have g2 : w2.cell? ⟨w1.heap.size, 1, none⟩ = some (.string vd) := (cell_of go1).trans rfl
  have l4 := lt_of_heap go1
  have hc : Ch (fun i => i = b ∨ i = q) w w2 := ((((Ch.refl _ _).alloc _).trans (h2.mono (fun _ _ h => Or.inl h))).alloc _).trans (h4.mono (fun _ _ h => Or.inr h))
  clear go1 h2 h4
  go_wp2
  go_ret
  exact ⟨rfl, K, E, hle, hr2.alloc _, h3.alloc _, hc.alloc _⟩
set_option maxHeartbeats 2000000 in
set_option maxRecDepth 20000 in
theorem read11_any (b q : Nat) (s : ByteArray) (k e Kd N : Nat) (S : ByteArray) (w : World) (hr : Rd w b s k e) (hx : RX w q s k e) (hbq : b ≠ q) (hk : k ≤ s.size) (hs : s.size ≤ 9223372036854775807) (hKd : Kd < 256) (hm : (Kd : Int) % 14 = 11) :
    Calls Tryz.prog 10 #[.pointer (some ⟨b, 0, none⟩), .pointer (some ⟨q, 0, none⟩), .agg #[.int .u8 Kd, .int .u64 N, .string S]] w (Both b q s w) := by
  obtain ⟨hn1, hn2⟩ := w64 N
  have ha := fun w' h' => ropt_any b s k e (wrap64 (N : Int)) w' h' hk hs hn1 hn2
  have hb := fun w' h' => xopt_any q s k e (wrap64 (N : Int)) w' h' hk hs hn1 hn2
  have hle := oq_le (n := wrap64 (N : Int)) (s := s) (k := k) (e := e) hk
  generalize oq (wrap64 (N : Int)) s k e = z at ha hb hle
  obtain ⟨vb, vd, K, E⟩ := z
  dsimp only at ha hb hle
  have l1 := hr.lt
  have l2 := hx.lt
  go_enter Tryz.func10, Tryz.ntmps10
  go_wp2_with fail
  refine (ha _ (hr.alloc _)).mono ?_
  rintro r w1 ⟨rfl, h1, h2⟩
  have hx1 := (hx.alloc _).ch h2 (fun h => hbq h.symm)
  go_wp2_with fail
  refine (hb _ (hx1.alloc _)).mono ?_
  rintro r w2 ⟨rfl, h3, h4⟩
  have hr2 := (h1.alloc _).ch h4 hbq
  have l3 := hx1.lt
  have go1 : w2.heap[w1.heap.size]? = some (.cells #[.bool vb, .string vd] 76 (0, 0)) := (h4.block _ (by simp) (by omega)).trans (heap_new _ _)
  have g1 : w2.cell? ⟨w1.heap.size, 0, none⟩ = some (.bool vb) := (cell_of go1).trans rfl
  have g2 : w2.cell? ⟨w1.heap.size, 1, none⟩ = some (.string vd) := (cell_of go1).trans rfl
  have l4 := lt_of_heap go1
  have hc : Ch (fun i => i = b ∨ i = q) w w2 := ((((Ch.refl _ _).alloc _).trans (h2.mono (fun _ _ h => Or.inl h))).alloc _).trans (h4.mono (fun _ _ h => Or.inr h))
  clear go1 h2 h4
  go_wp2
  go_ret
  exact ⟨rfl, K, E, hle, hr2.alloc _, h3.alloc _, hc.alloc _⟩
set_option maxHeartbeats 2000000 in
set_option maxRecDepth 20000 in
theorem read12_any (b q : Nat) (s : ByteArray) (k e Kd N : Nat) (S : ByteArray) (w : World) (hr : Rd w b s k e) (hx : RX w q s k e) (_ : b ≠ q) (hk : k ≤ s.size) (hs : s.size ≤ 9223372036854775807) (hKd : Kd < 256) (hm : (Kd : Int) % 14 = 12) :
    Calls Tryz.prog 10 #[.pointer (some ⟨b, 0, none⟩), .pointer (some ⟨q, 0, none⟩), .agg #[.int .u8 Kd, .int .u64 N, .string S]] w (Both b q s w) := by
  have hd : dqx s k e = dq s k e := rfl
  have ha := fun w' h' => rdone_any b s k e w' h' hk hs
  have hb := fun w' h' => xdone_any q s k e w' h' hk hs
  rw [hd] at hb
  generalize dq s k e = E at ha hb
  clear hd
  go_enter Tryz.func10, Tryz.ntmps10
  go_wp2_with fail
  refine (ha _ (hr.alloc _)).mono ?_
  rintro r w1 ⟨rfl, n1, rfl⟩
  go_wp2_with fail
  refine (hb _ ((hx.alloc _).drewN _)).mono ?_
  rintro r w2 ⟨rfl, n2, rfl⟩
  go_wp2
  go_ret
  exact ⟨rfl, k, e, hk, ((hr.alloc _).drewN _), ((hx.alloc _).drewN _), ((Ch.refl _ _).alloc _).drewN _⟩
end Go.Proofs.YtpaipoaelfhhlaaGreat
