/- WireCanon's walk: a number, a text or an Opt that has been read, written again, is the bytes that it was read from; nothing that was there before is turned. -/
import Derived.Test.YtpaipoaelfhhlaaCan
import Derived.Test.YtpaipoaelfhhlaaSpl
import Derived.Test.YtpaipoaelfhhlaaRmB
import Derived.Test.YtpaipoaelfhhlaaRmE
namespace Go.Proofs.Ytpaipoaelfhhlaa
open Go.RowKit
theorem wo_any (p B : Nat) (l : List Nat) (vb : Bool) (vd : ByteArray) (w : World) (h : Wr w p B l) (hl : l.length ≤ 140737488355000) (hl2 : l.length + (M.form (2 * vd.size)).length + vd.size ≤ 140737488355328) :
    Calls Try.prog 22 #[.pointer (some ⟨p, 0, none⟩), .agg #[.bool vb, .string vd]] w (Lays p B (l ++ ol vb vd) w) := by
  cases vb
  · exact wnull_any p B l vd w h hl
  · have := wopt_any p B l vd w h hl hl2
    rw [List.append_assoc] at this
    exact this
set_option maxHeartbeats 4000000 in
set_option maxRecDepth 20000 in
theorem canon_walk (s : ByteArray) (w : World) (hs : s.size ≤ 140737488355328) :
    Calls Try.prog 4 #[.string s] w fun e w' => e = .returned (.bool true) ∧ Below w.heap.size w w' := by
  go_enter Try.func4, Try.ntmps4
  go_wp2_with (go_at_call 5; refine (spells_any w).mono ?_; rintro e w1 ⟨rfl, hb1⟩)
  go_loopw [14] (fun i wr => ∃ k : Nat, k ≤ 5 ∧ i = .int .i64 k ∧ Below w.heap.size w wr) (fun i _ => 5 - (intOf i).toNat)
  case atStart => exact ⟨0, by omega, rfl, hb1⟩
  case round =>
    obtain ⟨k, hk, rfl, hb⟩ := hrel
    have hsz := hb.size
    clear hb1
    rcases (show k = 0 ∨ k = 1 ∨ k = 2 ∨ k = 3 ∨ k = 4 ∨ k = 5 by omega) with rfl | rfl | rfl | rfl | rfl | rfl
    · go_wp2_with fail
      refine (newreader_any s wr).mono ?_
      rintro e v1 ⟨rfl, rfl⟩
      go_wp2_with fail
      refine (newwriter_any _).mono ?_
      rintro e v2 ⟨rfl, rfl⟩
      go_wp2_with fail
      have hr0 : Rd ((wr.alloc (.cells #[.int .i64 0, .string s, .int .i64 0] 78)).alloc (.cells #[.int .i64 0, .slice none 0 0] 66)) wr.heap.size s 0 0 := heap_alloc_at (heap_new _ _)
      have hw0 : Wr ((wr.alloc (.cells #[.int .i64 0, .string s, .int .i64 0] 78)).alloc (.cells #[.int .i64 0, .slice none 0 0] 66)) (wr.heap.size + 1) (wr.heap.size + 2) [] := wr_new (heap_new' _ _ _ (by simp)) (by omega) (by simp)
      have hb2 : Below w.heap.size w ((wr.alloc (.cells #[.int .i64 0, .string s, .int .i64 0] 78)).alloc (.cells #[.int .i64 0, .slice none 0 0] 66)) := (hb.alloc hsz _).alloc (by simp; omega) _
      generalize (wr.alloc (.cells #[.int .i64 0, .string s, .int .i64 0] 78)).alloc (.cells #[.int .i64 0, .slice none 0 0] 66) = w2 at *
      generalize wr.heap.size = b at *
      clear hb
      refine (uvarint_any b s 0 0 _ hr0 (by omega) (by omega)).mono ?_
      rintro e w3 ⟨rfl, hr1, hc1⟩
      have hcan := canon_u s
      have hb3 := ch_bel hb2 hc1 (fun i hi h => by omega)
      have hw1 := hw0.ch hc1 (by omega) (fun i hi => by omega)
      clear hc1 hw0 hb2 hr0
      generalize uq s 0 0 = q at *
      obtain ⟨v, K, E⟩ := q
      dsimp only at *
      go_wp2_with fail
      refine (wuvarint_any _ _ _ v _ hw1 hcan.2 (by simp)).mono ?_
      rintro e w4 ⟨rfl, hw2, hc2⟩
      have hb4 := ch_bel hb3 hc2 (fun i hi h => by rcases h with h | h <;> omega)
      have hr2 := hr1.ch hc2 (fun h => by rcases h with h | h <;> omega)
      rw [List.nil_append] at hw2
      clear hc2 hw1 hb3 hr1
      obtain ⟨hcA, hcB⟩ := hcan.1
      clear hcan
      have tr := rat_any b s K E _ hr2
      by_cases hE : E = 0
      · subst hE
        obtain ⟨h1, h2, h3⟩ := hcA rfl
        have tb := wbytes_any _ _ _ _ hw2
        have ta := wat_any _ _ _ _ hw2
        rw [h1] at tb
        rw [h2] at ta
        clear h1 h2 hcA hcB hw2 hr2
        go_wp2_with (first
          | (go_at_call 9; refine tb.mono ?_; rintro e w4 ⟨rfl, rfl⟩)
          | (go_at_call 11; refine ta.mono ?_; rintro e w4 ⟨rfl, rfl⟩)
          | (go_at_call 25; refine tr.mono ?_; rintro e w4 ⟨rfl, rfl⟩))
        go_roundw
        case rel => exact ⟨1, by omega, rfl, hb4⟩
        case measure => simp [intOf]
      · have hK := hcB hE
        subst hK
        have hn1 : ((E : Int) == 0) = false := by rw [beq_eq_false_iff_ne]; omega
        have hn2 : ((E : Int) != 0) = true := by rw [bne_iff_ne]; omega
        clear hcA hcB hE hw2 hr2
        go_wp2_with (first
          | (go_at_call 25; refine tr.mono ?_; rintro e w4 ⟨rfl, rfl⟩))
        go_roundw
        case rel => exact ⟨1, by omega, rfl, hb4⟩
        case measure => simp [intOf]
    · go_wp2_with fail
      refine (newreader_any s wr).mono ?_
      rintro e v1 ⟨rfl, rfl⟩
      go_wp2_with fail
      refine (newwriter_any _).mono ?_
      rintro e v2 ⟨rfl, rfl⟩
      go_wp2_with fail
      have hr0 : Rd ((wr.alloc (.cells #[.int .i64 0, .string s, .int .i64 0] 78)).alloc (.cells #[.int .i64 0, .slice none 0 0] 66)) wr.heap.size s 0 0 := heap_alloc_at (heap_new _ _)
      have hw0 : Wr ((wr.alloc (.cells #[.int .i64 0, .string s, .int .i64 0] 78)).alloc (.cells #[.int .i64 0, .slice none 0 0] 66)) (wr.heap.size + 1) (wr.heap.size + 2) [] := wr_new (heap_new' _ _ _ (by simp)) (by omega) (by simp)
      have hb2 : Below w.heap.size w ((wr.alloc (.cells #[.int .i64 0, .string s, .int .i64 0] 78)).alloc (.cells #[.int .i64 0, .slice none 0 0] 66)) := (hb.alloc hsz _).alloc (by simp; omega) _
      generalize (wr.alloc (.cells #[.int .i64 0, .string s, .int .i64 0] 78)).alloc (.cells #[.int .i64 0, .slice none 0 0] 66) = w2 at *
      generalize wr.heap.size = b at *
      clear hb
      refine (varint_any b s 0 0 _ hr0 (by omega) (by omega)).mono ?_
      rintro e w3 ⟨rfl, hr1, hc1⟩
      have hcan := canon_v s
      have hb3 := ch_bel hb2 hc1 (fun i hi h => by omega)
      have hw1 := hw0.ch hc1 (by omega) (fun i hi => by omega)
      clear hc1 hw0 hb2 hr0
      generalize vq s 0 0 = q at *
      obtain ⟨v, K, E⟩ := q
      dsimp only at *
      go_wp2_with fail
      refine (wvarint_any _ _ _ v _ hw1 hcan.2.1 hcan.2.2 (by simp)).mono ?_
      rintro e w4 ⟨rfl, hw2, hc2⟩
      have hb4 := ch_bel hb3 hc2 (fun i hi h => by rcases h with h | h <;> omega)
      have hr2 := hr1.ch hc2 (fun h => by rcases h with h | h <;> omega)
      rw [List.nil_append] at hw2
      clear hc2 hw1 hb3 hr1
      obtain ⟨hcA, hcB⟩ := hcan.1
      clear hcan
      have tr := rat_any b s K E _ hr2
      by_cases hE : E = 0
      · subst hE
        obtain ⟨h1, h2, h3⟩ := hcA rfl
        have tb := wbytes_any _ _ _ _ hw2
        have ta := wat_any _ _ _ _ hw2
        rw [h1] at tb
        rw [h2] at ta
        clear h1 h2 hcA hcB hw2 hr2
        go_wp2_with (first
          | (go_at_call 9; refine tb.mono ?_; rintro e w4 ⟨rfl, rfl⟩)
          | (go_at_call 11; refine ta.mono ?_; rintro e w4 ⟨rfl, rfl⟩)
          | (go_at_call 25; refine tr.mono ?_; rintro e w4 ⟨rfl, rfl⟩))
        go_roundw
        case rel => exact ⟨2, by omega, rfl, hb4⟩
        case measure => simp [intOf]
      · have hK := hcB hE
        subst hK
        have hn1 : ((E : Int) == 0) = false := by rw [beq_eq_false_iff_ne]; omega
        have hn2 : ((E : Int) != 0) = true := by rw [bne_iff_ne]; omega
        clear hcA hcB hE hw2 hr2
        go_wp2_with (first
          | (go_at_call 25; refine tr.mono ?_; rintro e w4 ⟨rfl, rfl⟩))
        go_roundw
        case rel => exact ⟨2, by omega, rfl, hb4⟩
        case measure => simp [intOf]
    · go_wp2_with fail
      refine (newreader_any s wr).mono ?_
      rintro e v1 ⟨rfl, rfl⟩
      go_wp2_with fail
      refine (newwriter_any _).mono ?_
      rintro e v2 ⟨rfl, rfl⟩
      go_wp2_with fail
      have hr0 : Rd ((wr.alloc (.cells #[.int .i64 0, .string s, .int .i64 0] 78)).alloc (.cells #[.int .i64 0, .slice none 0 0] 66)) wr.heap.size s 0 0 := heap_alloc_at (heap_new _ _)
      have hw0 : Wr ((wr.alloc (.cells #[.int .i64 0, .string s, .int .i64 0] 78)).alloc (.cells #[.int .i64 0, .slice none 0 0] 66)) (wr.heap.size + 1) (wr.heap.size + 2) [] := wr_new (heap_new' _ _ _ (by simp)) (by omega) (by simp)
      have hb2 : Below w.heap.size w ((wr.alloc (.cells #[.int .i64 0, .string s, .int .i64 0] 78)).alloc (.cells #[.int .i64 0, .slice none 0 0] 66)) := (hb.alloc hsz _).alloc (by simp; omega) _
      generalize (wr.alloc (.cells #[.int .i64 0, .string s, .int .i64 0] 78)).alloc (.cells #[.int .i64 0, .slice none 0 0] 66) = w2 at *
      generalize wr.heap.size = b at *
      clear hb
      refine (rtext_any b s 0 0 (s.size : Int) _ hr0 (by omega) (by omega) (by omega) (by omega)).mono ?_
      rintro e w3 ⟨rfl, hr1, hc1⟩
      have hcan := canon_t s (s.size : Int)
      have hb3 := ch_bel hb2 hc1 (fun i hi h => by omega)
      have hw1 := hw0.ch hc1 (by omega) (fun i hi => by omega)
      clear hc1 hw0 hb2 hr0
      generalize tq (s.size : Int) s 0 0 = q at *
      obtain ⟨v, K, E⟩ := q
      dsimp only at *
      go_wp2_with fail
      refine (wtext_any _ _ _ v _ hw1 (by simp) (by have := hcan.2; simp; omega)).mono ?_
      rintro e w4 ⟨rfl, hw2, hc2⟩
      have hb4 := ch_bel hb3 hc2 (fun i hi h => by rcases h with h | h <;> omega)
      have hr2 := hr1.ch hc2 (fun h => by rcases h with h | h <;> omega)
      rw [List.nil_append] at hw2
      clear hc2 hw1 hb3 hr1
      obtain ⟨hcA, hcB⟩ := hcan.1
      clear hcan
      have tr := rat_any b s K E _ hr2
      by_cases hE : E = 0
      · subst hE
        obtain ⟨h1, h2, h3⟩ := hcA rfl
        have tb := wbytes_any _ _ _ _ hw2
        have ta := wat_any _ _ _ _ hw2
        rw [h1] at tb
        rw [h2] at ta
        clear h1 h2 hcA hcB hw2 hr2
        go_wp2_with (first
          | (go_at_call 9; refine tb.mono ?_; rintro e w4 ⟨rfl, rfl⟩)
          | (go_at_call 11; refine ta.mono ?_; rintro e w4 ⟨rfl, rfl⟩)
          | (go_at_call 25; refine tr.mono ?_; rintro e w4 ⟨rfl, rfl⟩))
        go_roundw
        case rel => exact ⟨3, by omega, rfl, hb4⟩
        case measure => simp [intOf]
      · have hK := hcB hE
        subst hK
        have hn1 : ((E : Int) == 0) = false := by rw [beq_eq_false_iff_ne]; omega
        have hn2 : ((E : Int) != 0) = true := by rw [bne_iff_ne]; omega
        clear hcA hcB hE hw2 hr2
        go_wp2_with (first
          | (go_at_call 25; refine tr.mono ?_; rintro e w4 ⟨rfl, rfl⟩))
        go_roundw
        case rel => exact ⟨3, by omega, rfl, hb4⟩
        case measure => simp [intOf]
    · go_wp2_with fail
      refine (newreader_any s wr).mono ?_
      rintro e v1 ⟨rfl, rfl⟩
      go_wp2_with fail
      refine (newwriter_any _).mono ?_
      rintro e v2 ⟨rfl, rfl⟩
      go_wp2_with fail
      have hr0 : Rd (((wr.alloc (.cells #[.int .i64 0, .string s, .int .i64 0] 78)).alloc (.cells #[.int .i64 0, .slice none 0 0] 66)).alloc (.cells #[.bool false, .string ⟨#[]⟩] 49)) wr.heap.size s 0 0 := heap_alloc_at (heap_alloc_at (heap_new _ _))
      have hw0 : Wr (((wr.alloc (.cells #[.int .i64 0, .string s, .int .i64 0] 78)).alloc (.cells #[.int .i64 0, .slice none 0 0] 66)).alloc (.cells #[.bool false, .string ⟨#[]⟩] 49)) (wr.heap.size + 1) (wr.heap.size + 3) [] := wr_new (heap_alloc_at (heap_new' _ _ _ (by simp))) (by omega) (by simp)
      have hb2 : Below w.heap.size w (((wr.alloc (.cells #[.int .i64 0, .string s, .int .i64 0] 78)).alloc (.cells #[.int .i64 0, .slice none 0 0] 66)).alloc (.cells #[.bool false, .string ⟨#[]⟩] 49)) := ((hb.alloc hsz _).alloc (by simp; omega) _).alloc (by simp; omega) _
      have ho0 : (((wr.alloc (.cells #[.int .i64 0, .string s, .int .i64 0] 78)).alloc (.cells #[.int .i64 0, .slice none 0 0] 66)).alloc (.cells #[.bool false, .string ⟨#[]⟩] 49)).heap[wr.heap.size + 1 + 1]? = some (.cells #[.bool false, .string ⟨#[]⟩] 49 (0, 0)) := heap_new' _ _ _ (by simp)
      have hlo : wr.heap.size + 1 + 1 < (((wr.alloc (.cells #[.int .i64 0, .string s, .int .i64 0] 78)).alloc (.cells #[.int .i64 0, .slice none 0 0] 66)).alloc (.cells #[.bool false, .string ⟨#[]⟩] 49)).heap.size := by simp
      generalize ((wr.alloc (.cells #[.int .i64 0, .string s, .int .i64 0] 78)).alloc (.cells #[.int .i64 0, .slice none 0 0] 66)).alloc (.cells #[.bool false, .string ⟨#[]⟩] 49) = w2 at *
      generalize wr.heap.size = b at *
      clear hb
      refine (ropt_any b s 0 0 (s.size : Int) _ hr0 (by omega) (by omega) (by omega) (by omega)).mono ?_
      rintro e w3 ⟨rfl, hr1, hc1⟩
      have hcan := canon_o s (s.size : Int)
      have hb3 := ch_bel hb2 hc1 (fun i hi h => by omega)
      have hw1 := hw0.ch hc1 (by omega) (fun i hi => by omega)
      have ho1 : w3.heap[b + 1 + 1]? = some (.cells #[.bool false, .string ⟨#[]⟩] 49 (0, 0)) := (hc1.block _ hlo (by omega)).trans ho0
      have y0 : w3.cell? ⟨b + 1 + 1, 0, none⟩ = some (.bool false) := (cell_of ho1).trans rfl
      have y1 : w3.cell? ⟨b + 1 + 1, 1, none⟩ = some (.string ⟨#[]⟩) := (cell_of ho1).trans rfl
      have z0 := froz_of (i := 0) ho1
      have z1 := froz_of (i := 1) ho1
      have hl3 := lt_of_heap ho1
      clear ho0 ho1 hlo
      clear hc1 hw0 hb2 hr0
      generalize oq (s.size : Int) s 0 0 = q at *
      obtain ⟨vb, vd, K, E⟩ := q
      dsimp only at *
      go_wp2_with fail
      have hch3 : Ch (fun i => i = b + 1 + 1) w3 ((w3.setCell ⟨b + 1 + 1, 0, none⟩ (.bool vb)).setCell ⟨b + 1 + 1, 1, none⟩ (.string vd)) := ((Ch.refl (fun i => i = b + 1 + 1) w3).setCell ⟨b + 1 + 1, 0, none⟩ (.bool vb) (fun _ => rfl)).setCell ⟨b + 1 + 1, 1, none⟩ (.string vd) (fun _ => rfl)
      have hw3 := hw1.ch hch3 (by omega) (fun i hi => by omega)
      have hr3 := hr1.ch hch3 (by omega)
      have hb33 := ch_bel hb3 hch3 (fun i hi h => by omega)
      clear hch3 hr1 hb3
      refine (wo_any _ _ _ vb vd _ hw3 (by simp) (by have := hcan.2; simp; omega)).mono ?_
      rintro e w4 ⟨rfl, hw2, hc2⟩
      have hb4 := ch_bel hb33 hc2 (fun i hi h => by rcases h with h | h <;> omega)
      have hr2 := hr3.ch hc2 (fun h => by rcases h with h | h <;> omega)
      rw [List.nil_append] at hw2
      clear hc2 hw1 hw3 hb33 hr3
      obtain ⟨hcA, hcB⟩ := hcan.1
      clear hcan
      have tr := rat_any b s K E _ hr2
      by_cases hE : E = 0
      · subst hE
        obtain ⟨h1, h2, h3⟩ := hcA rfl
        have tb := wbytes_any _ _ _ _ hw2
        have ta := wat_any _ _ _ _ hw2
        rw [h1] at tb
        rw [h2] at ta
        clear h1 h2 hcA hcB hw2 hr2
        go_wp2_with (first
          | (go_at_call 9; refine tb.mono ?_; rintro e w4 ⟨rfl, rfl⟩)
          | (go_at_call 11; refine ta.mono ?_; rintro e w4 ⟨rfl, rfl⟩)
          | (go_at_call 25; refine tr.mono ?_; rintro e w4 ⟨rfl, rfl⟩))
        go_roundw
        case rel => exact ⟨4, by omega, rfl, hb4⟩
        case measure => simp [intOf]
      · have hK := hcB hE
        subst hK
        have hn1 : ((E : Int) == 0) = false := by rw [beq_eq_false_iff_ne]; omega
        have hn2 : ((E : Int) != 0) = true := by rw [bne_iff_ne]; omega
        clear hcA hcB hE hw2 hr2
        go_wp2_with (first
          | (go_at_call 25; refine tr.mono ?_; rintro e w4 ⟨rfl, rfl⟩))
        go_roundw
        case rel => exact ⟨4, by omega, rfl, hb4⟩
        case measure => simp [intOf]
    · go_wp2_with fail
      refine (newreader_any s wr).mono ?_
      rintro e v1 ⟨rfl, rfl⟩
      go_wp2_with fail
      refine (newwriter_any _).mono ?_
      rintro e v2 ⟨rfl, rfl⟩
      go_wp2_with fail
      have hr0 : Rd ((wr.alloc (.cells #[.int .i64 0, .string s, .int .i64 0] 78)).alloc (.cells #[.int .i64 0, .slice none 0 0] 66)) wr.heap.size s 0 0 := heap_alloc_at (heap_new _ _)
      have hw0 : Wr ((wr.alloc (.cells #[.int .i64 0, .string s, .int .i64 0] 78)).alloc (.cells #[.int .i64 0, .slice none 0 0] 66)) (wr.heap.size + 1) (wr.heap.size + 2) [] := wr_new (heap_new' _ _ _ (by simp)) (by omega) (by simp)
      have hb2 : Below w.heap.size w ((wr.alloc (.cells #[.int .i64 0, .string s, .int .i64 0] 78)).alloc (.cells #[.int .i64 0, .slice none 0 0] 66)) := (hb.alloc hsz _).alloc (by simp; omega) _
      generalize (wr.alloc (.cells #[.int .i64 0, .string s, .int .i64 0] 78)).alloc (.cells #[.int .i64 0, .slice none 0 0] 66) = w2 at *
      generalize wr.heap.size = b at *
      clear hb
      refine (i64_any b s 0 0 _ hr0 (by omega) (by omega)).mono ?_
      rintro e w3 ⟨rfl, hr1, hc1⟩
      have hcan := canon_i s
      have hb3 := ch_bel hb2 hc1 (fun i hi h => by omega)
      have hw1 := hw0.ch hc1 (by omega) (fun i hi => by omega)
      clear hc1 hw0 hb2 hr0
      generalize fx 8 s 0 0 = q at *
      obtain ⟨v, K, E⟩ := q
      dsimp only at *
      go_wp2_with fail
      refine (wi64_any _ _ _ _ _ hw1 (by simp)).mono ?_
      rintro e w4 ⟨rfl, hw2, hc2⟩
      have hb4 := ch_bel hb3 hc2 (fun i hi h => by rcases h with h | h <;> omega)
      have hr2 := hr1.ch hc2 (fun h => by rcases h with h | h <;> omega)
      rw [List.nil_append] at hw2
      clear hc2 hw1 hb3 hr1
      obtain ⟨hcA, hcB⟩ := hcan
      have tr := rat_any b s K E _ hr2
      by_cases hE : E = 0
      · subst hE
        obtain ⟨h1, h2, h3⟩ := hcA rfl
        have tb := wbytes_any _ _ _ _ hw2
        have ta := wat_any _ _ _ _ hw2
        rw [h1] at tb
        rw [h2] at ta
        clear h1 h2 hcA hcB hw2 hr2
        go_wp2_with (first
          | (go_at_call 9; refine tb.mono ?_; rintro e w4 ⟨rfl, rfl⟩)
          | (go_at_call 11; refine ta.mono ?_; rintro e w4 ⟨rfl, rfl⟩)
          | (go_at_call 25; refine tr.mono ?_; rintro e w4 ⟨rfl, rfl⟩))
        go_roundw
        case rel => exact ⟨5, by omega, rfl, hb4⟩
        case measure => simp [intOf]
      · have hK := hcB hE
        subst hK
        have hn1 : ((E : Int) == 0) = false := by rw [beq_eq_false_iff_ne]; omega
        have hn2 : ((E : Int) != 0) = true := by rw [bne_iff_ne]; omega
        clear hcA hcB hE hw2 hr2
        go_wp2_with (first
          | (go_at_call 25; refine tr.mono ?_; rintro e w4 ⟨rfl, rfl⟩))
        go_roundw
        case rel => exact ⟨5, by omega, rfl, hb4⟩
        case measure => simp [intOf]
    · go_wp2
      go_ret
      exact ⟨rfl, hb⟩
end Go.Proofs.Ytpaipoaelfhhlaa
