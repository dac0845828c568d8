/- The statements' write, of every kind. -/
import Derived.Test.YtpfaioncaolmjaaGreatWpx
namespace Go.Proofs.YtpfaioncaolmjaaGreat
open Go.RowKit
theorem dl_exw (s : ByteArray) (a b : Nat) : (s.extract a b).data.toList = (s.data.toList.drop a).take (b - a) := by
  rw [ByteArray.data_extract, Array.toList_extract, List.extract_eq_take_drop]
theorem ovr_bs {l : List Nat} {A v : Nat} (_ : A + 4 ≤ l.length) : (bs l).extract 0 A ++ bs (nb 4 v) ++ (bs l).extract (A + 4) (bs l).size = bs (ovr l A v 4) := by
  have h4 : (nb 4 v).take 4 = nb 4 v := List.take_of_length_le (by rw [nb_len]; omega)
  unfold ovr
  rw [h4, bs_app, bs_app, ByteArray.append_assoc]
  have h1 : (bs l).extract 0 A = bs (l.take A) := by
    have e : ((bs l).extract 0 A).data.toList = (bs (l.take A)).data.toList := by
      rw [dl_exw]
      show ((l.map UInt8.ofNat).toArray.toList.drop 0).take (A - 0) = ((l.take A).map UInt8.ofNat).toArray.toList
      simp [List.map_take]
    have : ((bs l).extract 0 A).data = (bs (l.take A)).data := Array.ext' e
    cases h : (bs l).extract 0 A
    cases h2 : bs (l.take A)
    rw [h, h2] at this
    simp only at this
    rw [this]
  have h2 : (bs l).extract (A + 4) (bs l).size = bs (l.drop (A + 4)) := by
    have e : ((bs l).extract (A + 4) (bs l).size).data.toList = (bs (l.drop (A + 4))).data.toList := by
      rw [dl_exw, bs_size]
      show ((l.map UInt8.ofNat).toArray.toList.drop (A + 4)).take (l.length - (A + 4)) = ((l.drop (A + 4)).map UInt8.ofNat).toArray.toList
      simp [List.map_drop, List.take_of_length_le]
    have : ((bs l).extract (A + 4) (bs l).size).data = (bs (l.drop (A + 4))).data := Array.ext' e
    cases h : (bs l).extract (A + 4) (bs l).size
    cases h3 : bs (l.drop (A + 4))
    rw [h, h3] at this
    simp only at this
    rw [this]
  rw [h1, h2]
theorem put_no (p B : Nat) (l : List Nat) (at' : Int) (v : Nat) (w : World) (h : Wr w p B l) (hl : l.length ≤ 140737488355000) (hn : ¬ (0 ≤ at' ∧ at' ≤ (l.length : Int) - 4)) :
    Calls Tryz.prog 24 #[.pointer (some ⟨p, 0, none⟩), .int .i64 at', .int .u32 v] w fun e w' => e = .returned (.bool false) ∧ w' = w := by
  have C := hid (over_no p B l at' v w h hl hn)
  go_enter Tryz.func24, Tryz.ntmps24
  go_wp2_with (first
    | (go_at_call 49; refine (target_some p _).mono ?_; rintro e w' ⟨rfl, rfl⟩)
    | (go_at_call 76; refine C.out.mono ?_; rintro e w' ⟨rfl, rfl⟩))
  go_ret
  exact ⟨rfl, rfl⟩
theorem put_yes (p B : Nat) (l : List Nat) (A v : Nat) (w : World) (h : Wr w p B l) (hl : l.length ≤ 140737488355000) (hA : A + 4 ≤ l.length) :
    Calls Tryz.prog 24 #[.pointer (some ⟨p, 0, none⟩), .int .i64 A, .int .u32 v] w fun e w' => e = .returned (.bool true) ∧ Wr w' p B (ovr l A v 4) ∧ Ch (WU p B w) w w' := by
  have C := hid (over_yes p B l A v w h hl hA)
  go_enter Tryz.func24, Tryz.ntmps24
  go_wp2_with (first
    | (go_at_call 49; refine (target_some p _).mono ?_; rintro e w' ⟨rfl, rfl⟩)
    | (go_at_call 76; refine C.out.mono ?_; rintro e w' ⟨rfl, h1, h2⟩))
  go_ret
  exact ⟨rfl, h1, h2⟩
set_option maxHeartbeats 1000000 in
set_option maxRecDepth 20000 in
theorem write12 (p q B K N : Nat) (S : ByteArray) (l : List Nat) (w : World) (h : WW p q B l w) (hk : (K : Int) % 14 = 12) (hl : l.length ≤ 10000000000000) (hS : S.size ≤ 1000000000) :
    Calls Tryz.prog 9 #[.pointer (some ⟨p, 0, none⟩), .pointer (some ⟨q, 0, none⟩), .agg #[.int .u8 K, .int .u64 N, .string S]] w fun e w' => e = .returned (.bool true) ∧ WW p q B (if 0 ≤ IntKind.i64.wrap (N : Int) ∧ IntKind.i64.wrap (N : Int) ≤ (l.length : Int) - 4 then ovr l (IntKind.i64.wrap (N : Int)).toNat S.size 4 else l) w' ∧ Old p q B w w' := by
  have hv : S.size < 4294967296 := by omega
  have hcv : IntKind.u32.wrap (S.size : Int) = (S.size : Int) := by rw [IntKind.wrap_u32]; omega
  obtain ⟨at', hat⟩ : ∃ at', IntKind.i64.wrap (N : Int) = at' := ⟨_, rfl⟩
  have bx : (w.alloc (.cells #[.int .u8 K, .int .u64 N, .string S] 32)).heap[w.heap.size]? = some (.cells #[.int .u8 K, .int .u64 N, .string S] 32 (0, 0)) := heap_new _ _
  have bx2 : ((w.alloc (.cells #[.int .u8 K, .int .u64 N, .string S] 32)).drew).heap[w.heap.size]? = some (.cells #[.int .u8 K, .int .u64 N, .string S] 32 (0, 0)) := heap_new _ _
  have hA : Wr ((w.alloc (.cells #[.int .u8 K, .int .u64 N, .string S] 32)).drew) p B l := (h.a.alloc _).below (Below.refl _ _).drew
  have hX : WX ((w.alloc (.cells #[.int .u8 K, .int .u64 N, .string S] 32)).drew) q (bs l) := heap_alloc_at h.x
  have hp := h.a.lt
  have hq := h.x.lt
  have o1 : Old p q B w ((w.alloc (.cells #[.int .u8 K, .int .u64 N, .string S] 32)).drew) := ((Ch.refl _ _).alloc _).drew
  have hg1 : w.heap.size < ((w.alloc (.cells #[.int .u8 K, .int .u64 N, .string S] 32)).drew).heap.size := by simp
  have ne := h.ne
  have lt := h.lt
  rw [hat]
  by_cases hin : 0 ≤ at' ∧ at' ≤ (l.length : Int) - 4
  · rw [if_pos hin]
    obtain ⟨A, rfl⟩ : ∃ A : Nat, at' = (A : Int) := ⟨at'.toNat, by omega⟩
    rw [Int.toNat_natCast]
    have hA4 : A + 4 ≤ l.length := by omega
    have PC := hid (put_yes p B l A S.size _ hA (by omega) hA4)
    have DC : Hid (∀ w2, Wr w2 p B (ovr l A S.size 4) → Ch (WU p B ((w.alloc (.cells #[.int .u8 K, .int .u64 N, .string S] 32)).drew)) ((w.alloc (.cells #[.int .u8 K, .int .u64 N, .string S] 32)).drew) w2 → Calls Tryz.prog 48 #[.pointer (some ⟨q, 0, none⟩), .int .i64 A, .int .u32 S.size] w2 fun e w3 => e = .returned (.bool true) ∧ WW p q B (ovr l A S.size 4) w3 ∧ Old p q B w w3 ∧ w3.cell? ⟨w.heap.size, 2, none⟩ = some (.string S)) := fun w2 h2 c2 => by
      have hX2 : WX w2 q (bs l) := c2.other hX (fun e => ne e.symm) (by decide)
      have dc := xput_yes q (bs l) A S.size w2 hX2 (by rw [bs_size]; omega) (by rw [bs_size]; omega) hv
      rw [ovr_bs hA4] at dc
      have bxx := c2.other bx2 (by omega) (by decide)
      refine dc.mono ?_
      rintro e w3 ⟨rfl, h3, c3⟩
      exact ⟨rfl, ⟨h2.ch c3 ne (fun i hi e => by omega), h3, ne, lt⟩, (o1.trans (wu_old c2)).trans (wx_old c3), (cells3w ((c3.block w.heap.size (lt_of_heap bxx) (by omega)).trans bxx)).2.2⟩
    have CB : Hid (∀ w2, Ch (WU p B ((w.alloc (.cells #[.int .u8 K, .int .u64 N, .string S] 32)).drew)) ((w.alloc (.cells #[.int .u8 K, .int .u64 N, .string S] 32)).drew) w2 → w2.cell? ⟨w.heap.size, 2, none⟩ = some (.string S)) := fun w2 c2 => (cells3w (c2.other bx2 (by omega) (by decide))).2.2
    obtain ⟨k0, k1, k2⟩ := cells3w bx
    clear o1 hX bx bx2 h hA hin
    go_enter Tryz.func9, Tryz.ntmps9
    go_wp2_with fail
    generalize w.alloc (.cells #[.int .u8 K, .int .u64 N, .string S] 32) = W at *
    go_region_held3 (fun z => z.cell? ⟨w.heap.size, 2, none⟩ = some (.string S)) ((first | assumption | go_keep)) ((first | (go_at_call 24; refine PC.out.mono ?_; rintro e w2 ⟨rfl, h2, c2⟩; have n2 := CB.out w2 c2) | (go_at_call 48; refine (DC.out w2 h2 c2).mono ?_; rintro e w3 ⟨rfl, h3, o3, n3⟩)))
    go_wp2_with fail
    go_ret
    exact ⟨rfl, h3, o3⟩
  · rw [if_neg hin]
    have PC := hid (put_no p B l at' S.size _ hA (by omega) hin)
    have DC := hid (xput_no q (bs l) at' S.size _ hX (by rw [bs_size]; omega) (by rw [bs_size]; exact hin))
    have O1 := hid o1
    have HW : Hid (WW p q B l ((w.alloc (.cells #[.int .u8 K, .int .u64 N, .string S] 32)).drew)) := ⟨hA, hX, ne, lt⟩
    obtain ⟨k0, k1, k2⟩ := cells3w bx
    clear o1 hX bx bx2 h hA hin
    go_enter Tryz.func9, Tryz.ntmps9
    go_wp2_with fail
    generalize w.alloc (.cells #[.int .u8 K, .int .u64 N, .string S] 32) = W at *
    go_region_held3 (fun z => z.cell? ⟨w.heap.size, 2, none⟩ = some (.string S)) ((first | assumption | go_keep)) ((first | (go_at_call 24; refine PC.out.mono ?_; rintro e w2 ⟨rfl, rfl⟩) | (go_at_call 48; refine DC.out.mono ?_; rintro e w3 ⟨rfl, rfl⟩)))
    go_wp2_with fail
    go_ret
    exact ⟨rfl, HW.out, O1.out⟩
set_option maxHeartbeats 1000000 in
set_option maxRecDepth 20000 in
theorem write13 (p q B K N : Nat) (S : ByteArray) (l : List Nat) (w : World) (h : WW p q B l w) (hk : (K : Int) % 14 = 13) (hl : l.length ≤ 10000000000000) (hS : S.size ≤ 1000000000) :
    Calls Tryz.prog 9 #[.pointer (some ⟨p, 0, none⟩), .pointer (some ⟨q, 0, none⟩), .agg #[.int .u8 K, .int .u64 N, .string S]] w fun e w' => e = .returned (.bool true) ∧ WW p q B (if 0 ≤ IntKind.i64.wrap (N : Int) ∧ IntKind.i64.wrap (N : Int) ≤ (l.length : Int) - 4 then ovr l (IntKind.i64.wrap (N : Int)).toNat S.size 4 else l) w' ∧ Old p q B w w' := by
  have hv : S.size < 4294967296 := by omega
  have hcv : IntKind.u32.wrap (S.size : Int) = (S.size : Int) := by rw [IntKind.wrap_u32]; omega
  obtain ⟨at', hat⟩ : ∃ at', IntKind.i64.wrap (N : Int) = at' := ⟨_, rfl⟩
  have bx : (w.alloc (.cells #[.int .u8 K, .int .u64 N, .string S] 32)).heap[w.heap.size]? = some (.cells #[.int .u8 K, .int .u64 N, .string S] 32 (0, 0)) := heap_new _ _
  have bx2 : ((w.alloc (.cells #[.int .u8 K, .int .u64 N, .string S] 32)).drew).heap[w.heap.size]? = some (.cells #[.int .u8 K, .int .u64 N, .string S] 32 (0, 0)) := heap_new _ _
  have hA : Wr ((w.alloc (.cells #[.int .u8 K, .int .u64 N, .string S] 32)).drew) p B l := (h.a.alloc _).below (Below.refl _ _).drew
  have hX : WX ((w.alloc (.cells #[.int .u8 K, .int .u64 N, .string S] 32)).drew) q (bs l) := heap_alloc_at h.x
  have hp := h.a.lt
  have hq := h.x.lt
  have o1 : Old p q B w ((w.alloc (.cells #[.int .u8 K, .int .u64 N, .string S] 32)).drew) := ((Ch.refl _ _).alloc _).drew
  have hg1 : w.heap.size < ((w.alloc (.cells #[.int .u8 K, .int .u64 N, .string S] 32)).drew).heap.size := by simp
  have ne := h.ne
  have lt := h.lt
  rw [hat]
  by_cases hin : 0 ≤ at' ∧ at' ≤ (l.length : Int) - 4
  · rw [if_pos hin]
    obtain ⟨A, rfl⟩ : ∃ A : Nat, at' = (A : Int) := ⟨at'.toNat, by omega⟩
    rw [Int.toNat_natCast]
    have hA4 : A + 4 ≤ l.length := by omega
    have PC := hid (put_yes p B l A S.size _ hA (by omega) hA4)
    have DC : Hid (∀ w2, Wr w2 p B (ovr l A S.size 4) → Ch (WU p B ((w.alloc (.cells #[.int .u8 K, .int .u64 N, .string S] 32)).drew)) ((w.alloc (.cells #[.int .u8 K, .int .u64 N, .string S] 32)).drew) w2 → Calls Tryz.prog 48 #[.pointer (some ⟨q, 0, none⟩), .int .i64 A, .int .u32 S.size] w2 fun e w3 => e = .returned (.bool true) ∧ WW p q B (ovr l A S.size 4) w3 ∧ Old p q B w w3 ∧ w3.cell? ⟨w.heap.size, 2, none⟩ = some (.string S)) := fun w2 h2 c2 => by
      have hX2 : WX w2 q (bs l) := c2.other hX (fun e => ne e.symm) (by decide)
      have dc := xput_yes q (bs l) A S.size w2 hX2 (by rw [bs_size]; omega) (by rw [bs_size]; omega) hv
      rw [ovr_bs hA4] at dc
      have bxx := c2.other bx2 (by omega) (by decide)
      refine dc.mono ?_
      rintro e w3 ⟨rfl, h3, c3⟩
      exact ⟨rfl, ⟨h2.ch c3 ne (fun i hi e => by omega), h3, ne, lt⟩, (o1.trans (wu_old c2)).trans (wx_old c3), (cells3w ((c3.block w.heap.size (lt_of_heap bxx) (by omega)).trans bxx)).2.2⟩
    have CB : Hid (∀ w2, Ch (WU p B ((w.alloc (.cells #[.int .u8 K, .int .u64 N, .string S] 32)).drew)) ((w.alloc (.cells #[.int .u8 K, .int .u64 N, .string S] 32)).drew) w2 → w2.cell? ⟨w.heap.size, 2, none⟩ = some (.string S)) := fun w2 c2 => (cells3w (c2.other bx2 (by omega) (by decide))).2.2
    obtain ⟨k0, k1, k2⟩ := cells3w bx
    clear o1 hX bx bx2 h hA hin
    go_enter Tryz.func9, Tryz.ntmps9
    go_wp2_with fail
    generalize w.alloc (.cells #[.int .u8 K, .int .u64 N, .string S] 32) = W at *
    go_region_held3 (fun z => z.cell? ⟨w.heap.size, 2, none⟩ = some (.string S)) ((first | assumption | go_keep)) ((first | (go_at_call 24; refine PC.out.mono ?_; rintro e w2 ⟨rfl, h2, c2⟩; have n2 := CB.out w2 c2) | (go_at_call 48; refine (DC.out w2 h2 c2).mono ?_; rintro e w3 ⟨rfl, h3, o3, n3⟩)))
    go_wp2_with fail
    go_ret
    exact ⟨rfl, h3, o3⟩
  · rw [if_neg hin]
    have PC := hid (put_no p B l at' S.size _ hA (by omega) hin)
    have DC := hid (xput_no q (bs l) at' S.size _ hX (by rw [bs_size]; omega) (by rw [bs_size]; exact hin))
    have O1 := hid o1
    have HW : Hid (WW p q B l ((w.alloc (.cells #[.int .u8 K, .int .u64 N, .string S] 32)).drew)) := ⟨hA, hX, ne, lt⟩
    obtain ⟨k0, k1, k2⟩ := cells3w bx
    clear o1 hX bx bx2 h hA hin
    go_enter Tryz.func9, Tryz.ntmps9
    go_wp2_with fail
    generalize w.alloc (.cells #[.int .u8 K, .int .u64 N, .string S] 32) = W at *
    go_region_held3 (fun z => z.cell? ⟨w.heap.size, 2, none⟩ = some (.string S)) ((first | assumption | go_keep)) ((first | (go_at_call 24; refine PC.out.mono ?_; rintro e w2 ⟨rfl, rfl⟩) | (go_at_call 48; refine DC.out.mono ?_; rintro e w3 ⟨rfl, rfl⟩)))
    go_wp2_with fail
    go_ret
    exact ⟨rfl, HW.out, O1.out⟩
/-- What one call makes of what is written. -/
theorem write_any (K N : Nat) (S : ByteArray) (l : List Nat) (hK : K < 256) (hN : N < 18446744073709551616) (hl : l.length ≤ 10000000000000) (hS : S.size ≤ 1000000000) :
    ∃ l' : List Nat, l'.length ≤ l.length + 20 + S.size ∧ ∀ p q B w, WW p q B l w → Calls Tryz.prog 9 #[.pointer (some ⟨p, 0, none⟩), .pointer (some ⟨q, 0, none⟩), .agg #[.int .u8 K, .int .u64 N, .string S]] w fun e w' => e = .returned (.bool true) ∧ WW p q B l' w' ∧ Old p q B w w' := by
  have _ := hK
  have hb := bl_len S
  have hm : K % 14 < 14 := Nat.mod_lt _ (by omega)
  have hf := fun v => M.form_le v
  have hn := fun n v => nb_len n v
  rcases (show K % 14 = 0 ∨ K % 14 = 1 ∨ K % 14 = 2 ∨ K % 14 = 3 ∨ K % 14 = 4 ∨ K % 14 = 5 ∨ K % 14 = 6 ∨ K % 14 = 7 ∨ K % 14 = 8 ∨ K % 14 = 9 ∨ K % 14 = 10 ∨ K % 14 = 11 ∨ K % 14 = 12 ∨ K % 14 = 13 by omega) with h | h | h | h | h | h | h | h | h | h | h | h | h | h
  · exact ⟨_, by rw [List.length_append, nb_len]; omega, fun p q B w hw => write0 p q B K N S l w hw (by omega) hN hl hS⟩
  · exact ⟨_, by rw [List.length_append, nb_len]; omega, fun p q B w hw => write1 p q B K N S l w hw (by omega) hN hl hS⟩
  · exact ⟨_, by rw [List.length_append, nb_len]; omega, fun p q B w hw => write2 p q B K N S l w hw (by omega) hN hl hS⟩
  · exact ⟨_, by rw [List.length_append, nb_len]; omega, fun p q B w hw => write3 p q B K N S l w hw (by omega) hN hl hS⟩
  · exact ⟨_, by rw [List.length_append, nb_len]; omega, fun p q B w hw => write4 p q B K N S l w hw (by omega) hN hl hS⟩
  · exact ⟨_, by rw [List.length_append, nb_len]; omega, fun p q B w hw => write5 p q B K N S l w hw (by omega) hN hl hS⟩
  · exact ⟨_, by rw [List.length_append]; exact Nat.le_trans (Nat.add_le_add_left (hf _) _) (by omega), fun p q B w hw => write6 p q B K N S l w hw (by omega) hN hl hS⟩
  · exact ⟨_, by rw [List.length_append]; exact Nat.le_trans (Nat.add_le_add_left (hf _) _) (by omega), fun p q B w hw => write7 p q B K N S l w hw (by omega) hN hl hS⟩
  · exact ⟨_, by rw [List.length_append]; omega, fun p q B w hw => write8 p q B K N S l w hw (by omega) hN hl hS⟩
  · exact ⟨_, by unfold tx; rw [List.length_append, List.length_append]; have := hf S.size; omega, fun p q B w hw => write9 p q B K N S l w hw (by omega) hN hl hS⟩
  · exact ⟨_, by unfold ol; rw [if_pos rfl, List.length_append, List.length_append]; have := hf (2 * S.size); omega, fun p q B w hw => write10 p q B K N S l w hw (by omega) hN hl hS⟩
  · exact ⟨_, by unfold ol; rw [if_neg (by decide), List.length_append]; show _ + 1 ≤ _; omega, fun p q B w hw => write11 p q B K N S l w hw (by omega) hN hl hS⟩
  · refine ⟨_, ?_, fun p q B w hw => write12 p q B K N S l w hw (by omega) hl hS⟩
    split
    · rename_i hc
      rw [ovr_len (by omega) (by omega)]
      omega
    · omega
  · refine ⟨_, ?_, fun p q B w hw => write13 p q B K N S l w hw (by omega) hl hS⟩
    split
    · rename_i hc
      rw [ovr_len (by omega) (by omega)]
      omega
    · omega
end Go.Proofs.YtpfaioncaolmjaaGreat
