/- What a writer's calls lay down behind what is written, one form each. -/
import Derived.Test.YtpfaioncaolmjaaGreatWr2
namespace Go.Proofs.YtpfaioncaolmjaaGreat
open Go.RowKit
theorem put1w (z : Int) (w0 w : World) (h0 : 0 ≤ z) (h1 : z ≤ 18446744073709551615) (hb : Below w0.heap.size w0 w) :
    Calls Tryz.prog 78 #[.slice (some ⟨w.heap.size, 0, none⟩) 1 1] (w.alloc (.cells #[.int .u64 z] 30)) fun e w' => e = .returned (.string (bs (M.form z.toNat))) ∧ Below w0.heap.size w0 w' := by
  have h := put_any (some ⟨w.heap.size, 0, none⟩) 1 [z] (w.alloc (.cells #[.int .u64 z] 30)) (by intro y hy; rw [List.mem_singleton] at hy; subst hy; exact ⟨h0, h1⟩) (by simp) (by rw [forms_one]; have := M.form_le z.toNat; omega) (vals_one .u64 z 30 w)
  rw [forms_one] at h
  exact h.mono fun e w' ⟨h1, h2⟩ => ⟨h1, since_alloc hb h2⟩
theorem bl_bs (l : List Nat) (h : ∀ b ∈ l, b < 256) : bl (bs l) = l := by
  simp only [bl, bs, List.map_map]
  conv => rhs; rw [← List.map_id l]
  apply List.map_congr_left
  intro b hb
  have := h b hb
  simp; omega
theorem bs_bl (s : ByteArray) : bs (bl s) = s := by
  have : (List.map UInt8.ofNat (bl s)) = s.data.toList := by
    simp only [bl, List.map_map]
    conv => rhs; rw [← List.map_id s.data.toList]
    apply List.map_congr_left
    intro b _
    simp
  unfold bs
  rw [this]
theorem Wr.below {w w' : World} {p B : Nat} {l : List Nat} (h : Wr w p B l) (hb : Below w.heap.size w w') : Wr w' p B l := h.ch (Ch.of_below (S := fun _ => False) hb) (fun h => h) (fun _ _ h => h)
theorem Wr.alloc {w : World} {p B : Nat} {l : List Nat} (h : Wr w p B l) (o : Obj) : Wr (w.alloc o) p B l := h.ch ((Ch.refl (fun _ => False) _).alloc o) (fun h => h) (fun _ _ h => h)
/-- A writer's call has laid m behind l. -/
def Lays (p B : Nat) (l : List Nat) (w : World) (e : Ending) (w' : World) : Prop := e = .returned (.tuple #[]) ∧ Wr w' p B l ∧ Ch (WU p B w) w w'
theorem Wr.lt {w : World} {p B : Nat} {l : List Nat} (h : Wr w p B l) : p < w.heap.size := by
  obtain ⟨_, _, _, _, _, _, hp, hB, _⟩ := h
  omega
theorem newwriter_any (w : World) :
    Calls Tryz.prog 7 #[] w fun e w' => e = .returned (.pointer (some ⟨w.heap.size, 0, none⟩)) ∧ w' = w.alloc (.cells #[.int .i64 0, .slice none 0 0] 52) := by
  go_enter Tryz.func7, Tryz.ntmps7
  go_wp2
  go_ret
  exact ⟨rfl, rfl⟩
theorem wr_new {w : World} {p B : Nat} {T : TypeId} (g : w.heap[p]? = some (.cells #[.int .i64 0, .slice none 0 0] T (0, 0))) (hp : p < B) (hB : B ≤ w.heap.size) : Wr w p B [] :=
  ⟨none, 0, 0, T, g, World.ownsRow_nil _ _ _ _, hp, hB, by simp⟩
theorem target_some (p : Nat) (w : World) :
    Calls Tryz.prog 49 #[.pointer (some ⟨p, 0, none⟩)] w fun e w' => e = .returned (.pointer (some ⟨p, 0, none⟩)) ∧ w' = w := by
  go_enter Tryz.func49, Tryz.ntmps49
  go_wp2
  go_ret
  exact ⟨rfl, rfl⟩
theorem wat_any (p B : Nat) (l : List Nat) (w : World) (h : Wr w p B l) :
    Calls Tryz.prog 23 #[.pointer (some ⟨p, 0, none⟩)] w fun e w' => e = .returned (.int .i64 l.length) ∧ w' = w := by
  obtain ⟨a, n, cap, T, g, _⟩ := h
  have c0 : w.cell? ⟨p, 0, none⟩ = some (.int .i64 l.length) := (cell_of g).trans rfl
  go_enter Tryz.func23, Tryz.ntmps23
  go_wp2_with (first
    | (go_at_call 49; refine (target_some p _).mono ?_; rintro e w' ⟨rfl, rfl⟩)
    | (go_at_call 60; refine (at_any p l.length _ c0).mono ?_; rintro e w' ⟨rfl, rfl⟩))
  go_ret
  exact ⟨rfl, rfl⟩
theorem wbytes_any (p B : Nat) (l : List Nat) (w : World) (h : Wr w p B l) :
    Calls Tryz.prog 10 #[.pointer (some ⟨p, 0, none⟩)] w fun e w' => e = .returned (.string (bs l)) ∧ w' = w := by
  obtain ⟨a, n, cap, T, g, ho, _, _, hb⟩ := h
  have c1 : w.cell? ⟨p, 1, none⟩ = some (.slice a n cap) := (cell_of g).trans rfl
  have hcv := conv_own hb ho
  clear g ho hb
  go_enter Tryz.func10, Tryz.ntmps10
  go_wp2_with (go_at_call 49; refine (target_some p _).mono ?_; rintro e w' ⟨rfl, rfl⟩)
  go_ret
  exact ⟨rfl, rfl⟩
set_option maxHeartbeats 1000000 in
set_option maxRecDepth 20000 in
theorem wu8_any (p B : Nat) (l : List Nat) (v : Nat) (w : World) (h : Wr w p B l) (hv : v < 256) (hl : l.length ≤ 140737488355000) :
    Calls Tryz.prog 30 #[.pointer (some ⟨p, 0, none⟩), .int .u8 v] w (Lays p B (l ++ nb 1 v) w) := by
  go_enter Tryz.func30, Tryz.ntmps30
  go_wp2_with (first
    | (go_at_call 49; refine (target_some p _).mono ?_; rintro e w' ⟨rfl, rfl⟩)
    | (go_at_call 77; refine (snumber_any p B l v 1 _ h (by omega) hl).mono ?_; rintro e w' ⟨rfl, h1, h2⟩))
  go_end0
  exact ⟨rfl, h1, h2⟩
set_option maxHeartbeats 1000000 in
set_option maxRecDepth 20000 in
theorem wu16_any (p B : Nat) (l : List Nat) (v : Nat) (w : World) (h : Wr w p B l) (hv : v < 65536) (hl : l.length ≤ 140737488355000) :
    Calls Tryz.prog 25 #[.pointer (some ⟨p, 0, none⟩), .int .u16 v] w (Lays p B (l ++ nb 2 v) w) := by
  go_enter Tryz.func25, Tryz.ntmps25
  go_wp2_with (first
    | (go_at_call 49; refine (target_some p _).mono ?_; rintro e w' ⟨rfl, rfl⟩)
    | (go_at_call 77; refine (snumber_any p B l v 2 _ h (by omega) hl).mono ?_; rintro e w' ⟨rfl, h1, h2⟩))
  go_end0
  exact ⟨rfl, h1, h2⟩
set_option maxHeartbeats 1000000 in
set_option maxRecDepth 20000 in
theorem wu32_any (p B : Nat) (l : List Nat) (v : Nat) (w : World) (h : Wr w p B l) (hv : v < 4294967296) (hl : l.length ≤ 140737488355000) :
    Calls Tryz.prog 33 #[.pointer (some ⟨p, 0, none⟩), .int .u32 v] w (Lays p B (l ++ nb 4 v) w) := by
  go_enter Tryz.func33, Tryz.ntmps33
  go_wp2_with (first
    | (go_at_call 49; refine (target_some p _).mono ?_; rintro e w' ⟨rfl, rfl⟩)
    | (go_at_call 77; refine (snumber_any p B l v 4 _ h (by omega) hl).mono ?_; rintro e w' ⟨rfl, h1, h2⟩))
  go_end0
  exact ⟨rfl, h1, h2⟩
set_option maxHeartbeats 1000000 in
set_option maxRecDepth 20000 in
theorem wu64_any (p B : Nat) (l : List Nat) (v : Nat) (w : World) (h : Wr w p B l) (hl : l.length ≤ 140737488355000) :
    Calls Tryz.prog 35 #[.pointer (some ⟨p, 0, none⟩), .int .u64 v] w (Lays p B (l ++ nb 8 v) w) := by
  go_enter Tryz.func35, Tryz.ntmps35
  go_wp2_with (first
    | (go_at_call 49; refine (target_some p _).mono ?_; rintro e w' ⟨rfl, rfl⟩)
    | (go_at_call 77; refine (snumber_any p B l v 8 _ h (by omega) hl).mono ?_; rintro e w' ⟨rfl, h1, h2⟩))
  go_end0
  exact ⟨rfl, h1, h2⟩
set_option maxHeartbeats 1000000 in
set_option maxRecDepth 20000 in
theorem wi32_any (p B : Nat) (l : List Nat) (v : Int) (w : World) (h : Wr w p B l) (hl : l.length ≤ 140737488355000) :
    Calls Tryz.prog 26 #[.pointer (some ⟨p, 0, none⟩), .int .i32 v] w (Lays p B (l ++ nb 4 (v % 4294967296).toNat) w) := by
  have e : v % 4294967296 = ((v % 4294967296).toNat : Int) := by omega
  have HE := Hid.mk e
  clear e
  go_enter Tryz.func26, Tryz.ntmps26
  go_wp2_with fail
  rw [HE.out]
  refine (wu32_any p B l _ _ h (by omega) hl).mono ?_
  rintro e w' ⟨rfl, h1, h2⟩
  go_wp2
  go_end0
  exact ⟨rfl, h1, h2⟩
set_option maxHeartbeats 1000000 in
set_option maxRecDepth 20000 in
theorem wi64_any (p B : Nat) (l : List Nat) (v : Int) (w : World) (h : Wr w p B l) (hl : l.length ≤ 140737488355000) :
    Calls Tryz.prog 38 #[.pointer (some ⟨p, 0, none⟩), .int .i64 v] w (Lays p B (l ++ nb 8 (v % 18446744073709551616).toNat) w) := by
  have e : IntKind.u64.wrap v = ((v % 18446744073709551616).toNat : Int) := by rw [IntKind.wrap_u64]; omega
  have HE := Hid.mk e
  clear e
  go_enter Tryz.func38, Tryz.ntmps38
  go_wp2_with fail
  rw [HE.out]
  refine (wu64_any p B l _ _ h hl).mono ?_
  rintro e w' ⟨rfl, h1, h2⟩
  go_wp2
  go_end0
  exact ⟨rfl, h1, h2⟩
set_option maxHeartbeats 1000000 in
set_option maxRecDepth 20000 in
theorem wraw_any (p B : Nat) (l : List Nat) (t : ByteArray) (w : World) (h : Wr w p B l) (hl : l.length + t.size ≤ 140737488355328) :
    Calls Tryz.prog 42 #[.pointer (some ⟨p, 0, none⟩), .string t] w (Lays p B (l ++ bl t) w) := by
  go_enter Tryz.func42, Tryz.ntmps42
  go_wp2_with (first
    | (go_at_call 49; refine (target_some p _).mono ?_; rintro e w' ⟨rfl, rfl⟩)
    | (go_at_call 85; refine (sraw_any p B l t _ h hl).mono ?_; rintro e w' ⟨rfl, h1, h2⟩))
  go_end0
  exact ⟨rfl, h1, h2⟩
set_option maxHeartbeats 1000000 in
set_option maxRecDepth 20000 in
theorem wuvarint_any (p B : Nat) (l : List Nat) (v : Nat) (w : World) (h : Wr w p B l) (hv : v < 18446744073709551616) (hl : l.length ≤ 140737488355000) :
    Calls Tryz.prog 27 #[.pointer (some ⟨p, 0, none⟩), .int .u64 v] w (Lays p B (l ++ M.form v) w) := by
  have hfl := M.form_le v
  have hbl : bl (bs (M.form v)) = M.form v := bl_bs _ (M.form_byte hv)
  have hz : (bs (M.form v)).size = (M.form v).length := bs_size _
  have HB := Hid.mk hbl
  clear hbl
  go_enter Tryz.func27, Tryz.ntmps27
  go_wp2_with fail
  refine (put1w v w w (by omega) (by omega) (Below.refl _ _)).mono ?_
  rintro e w1 ⟨rfl, hb1⟩
  rw [Int.toNat_natCast]
  have h1 := h.below hb1
  go_wp2_with fail
  refine (wraw_any p B l _ _ h1 (by omega)).mono ?_
  rintro e w' ⟨rfl, h3, h4⟩
  rw [HB.out] at h3
  go_wp2
  go_end0
  exact ⟨rfl, h3, (Ch.of_below hb1).tu h4⟩
set_option maxHeartbeats 1000000 in
set_option maxRecDepth 20000 in
theorem wvarint_any (p B : Nat) (l : List Nat) (v : Int) (w : World) (h : Wr w p B l) (hv1 : -9223372036854775808 ≤ v) (hv2 : v ≤ 9223372036854775807) (hl : l.length ≤ 140737488355000) :
    Calls Tryz.prog 28 #[.pointer (some ⟨p, 0, none⟩), .int .i64 v] w (Lays p B (l ++ M.form (M.zz v).toNat) w) := by
  have hfl := M.form_le (M.zz v).toNat
  have hzb := M.zz_bd hv1 hv2
  have hbl : bl (bs (M.form (M.zz v).toNat)) = M.form (M.zz v).toNat := bl_bs _ (M.form_byte (by omega))
  have hz : (bs (M.form (M.zz v).toNat)).size = (M.form (M.zz v).toNat).length := bs_size _
  have HB := Hid.mk hbl
  clear hbl
  go_enter Tryz.func28, Tryz.ntmps28
  go_wp2_with fail
  refine (sput1 v w w (by omega) (by omega) (Below.refl _ _)).mono ?_
  rintro e w1 ⟨rfl, hb1⟩
  have h1 := h.below hb1
  go_wp2_with fail
  refine (wraw_any p B l _ _ h1 (by omega)).mono ?_
  rintro e w' ⟨rfl, h3, h4⟩
  rw [HB.out] at h3
  go_wp2
  go_end0
  exact ⟨rfl, h3, (Ch.of_below hb1).tu h4⟩
set_option maxHeartbeats 1000000 in
set_option maxRecDepth 20000 in
theorem wtext_any (p B : Nat) (l : List Nat) (t : ByteArray) (w : World) (h : Wr w p B l) (hl : l.length ≤ 140737488355000) (hl2 : l.length + (M.form t.size).length + t.size ≤ 140737488355328) :
    Calls Tryz.prog 44 #[.pointer (some ⟨p, 0, none⟩), .string t] w (Lays p B (l ++ M.form t.size ++ bl t) w) := by
  go_enter Tryz.func44, Tryz.ntmps44
  go_wp2_with fail
  refine (wuvarint_any p B l t.size w h (by omega) hl).mono ?_
  rintro e w1 ⟨rfl, h1, h2⟩
  go_wp2_with fail
  refine (wraw_any p B _ t _ h1 (by rw [List.length_append]; omega)).mono ?_
  rintro e w' ⟨rfl, h3, h4⟩
  go_wp2
  go_end0
  exact ⟨rfl, h3, h2.tu h4⟩
theorem zz_nat (n : Nat) : (M.zz (n : Int)).toNat = 2 * n := by unfold M.zz; rw [if_pos (by omega)]; omega
set_option maxHeartbeats 1000000 in
set_option maxRecDepth 20000 in
theorem wnull_any (p B : Nat) (l : List Nat) (t : ByteArray) (w : World) (h : Wr w p B l) (hl : l.length ≤ 140737488355000) :
    Calls Tryz.prog 46 #[.pointer (some ⟨p, 0, none⟩), .agg #[.bool false, .string t]] w (Lays p B (l ++ [1]) w) := by
  go_enter Tryz.func46, Tryz.ntmps46
  go_wp2_with fail
  refine (wvarint_any p B l (-1) _ (h.alloc _) (by omega) (by omega) hl).mono ?_
  rintro e w1 ⟨rfl, h1, h2⟩
  go_wp2
  first | go_end0 | refine bodyPost_ret (results_none rfl _ _ _) rfl ?_
  exact ⟨rfl, h1, ((Ch.refl _ _).alloc _).tu h2⟩
set_option maxHeartbeats 1000000 in
set_option maxRecDepth 20000 in
theorem wopt_any (p B : Nat) (l : List Nat) (t : ByteArray) (w : World) (h : Wr w p B l) (hl : l.length ≤ 140737488355000) (hl2 : l.length + (M.form (2 * t.size)).length + t.size ≤ 140737488355328) :
    Calls Tryz.prog 46 #[.pointer (some ⟨p, 0, none⟩), .agg #[.bool true, .string t]] w (Lays p B (l ++ M.form (2 * t.size) ++ bl t) w) := by
  have hlt := h.lt
  have hv := wvarint_any p B l (t.size : Int) (w.alloc (.cells #[.bool true, .string t] 76)) (h.alloc _) (by omega) (by omega) hl
  rw [zz_nat] at hv
  go_enter Tryz.func46, Tryz.ntmps46
  go_wp2_with fail
  refine hv.mono ?_
  rintro e w1 ⟨rfl, h1, h2⟩
  have gv : w1.heap[w.heap.size]? = some (.cells #[.bool true, .string t] 76 (0, 0)) := h2.other (heap_new _ _) (by omega) (by decide)
  have c8 : w1.cell? ⟨w.heap.size, 1, none⟩ = some (.string t) := (cell_of gv).trans rfl
  clear gv hv
  go_wp2_with fail
  refine (wraw_any p B _ t _ h1 (by rw [List.length_append]; omega)).mono ?_
  rintro e w' ⟨rfl, h3, h4⟩
  go_wp2
  go_end0
  exact ⟨rfl, h3, (((Ch.refl _ _).alloc _).tu h2).tu h4⟩
end Go.Proofs.YtpfaioncaolmjaaGreat
