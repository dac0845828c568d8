/- What a writer's calls lay down behind what is written, one form each. -/
import Derived.Test.YtgdaaohlongmlaaGreatWr2
namespace Go.Proofs.YtgdaaohlongmlaaGreat
open Go.RowKit
theorem bl_bs (l : List Nat) (h : ∀ b ∈ l, b < 256) : bl (bs l) = l := by
  simp only [bl, bs, List.map_map]
  conv => rhs; rw [← List.map_id l]
  apply List.map_congr_left
  intro b hb
  have := h b hb
  simp; omega
theorem bs_bl (s : ByteArray) : bs (bl s) = s := by
  have : (List.map UInt8.ofNat (bl s)) = s.data.toList := by
    simp only [bl, List.map_map]
    conv => rhs; rw [← List.map_id s.data.toList]
    apply List.map_congr_left
    intro b _
    simp
  unfold bs
  rw [this]
theorem Wr.below {w w' : World} {p B : Nat} {l : List Nat} (h : Wr w p B l) (hb : Below w.heap.size w w') : Wr w' p B l := h.ch (Ch.of_below (S := fun _ => False) hb) (fun h => h) (fun _ _ h => h)
theorem Wr.alloc {w : World} {p B : Nat} {l : List Nat} (h : Wr w p B l) (o : Obj) : Wr (w.alloc o) p B l := h.ch ((Ch.refl (fun _ => False) _).alloc o) (fun h => h) (fun _ _ h => h)
/-- A writer's call has laid m behind l. -/
def Lays (p B : Nat) (l : List Nat) (w : World) (e : Ending) (w' : World) : Prop := e = .returned (.tuple #[]) ∧ Wr w' p B l ∧ Ch (WU p B w) w w'
theorem Wr.lt {w : World} {p B : Nat} {l : List Nat} (h : Wr w p B l) : p < w.heap.size := by
  obtain ⟨_, _, _, _, _, _, hp, hB, _⟩ := h
  omega
theorem wr_new {w : World} {p B : Nat} {T : TypeId} (g : w.heap[p]? = some (.cells #[.int .i64 0, .slice none 0 0, .int .i64 0] T (0, 0))) (hp : p < B) (hB : B ≤ w.heap.size) : Wr w p B [] :=
  ⟨none, 0, 0, T, g, World.ownsRow_nil _ _ _ _, hp, hB, by simp⟩
theorem target_some (p : Nat) (w : World) :
    Calls Tryz.prog 94 #[.pointer (some ⟨p, 0, none⟩)] w fun e w' => e = .returned (.pointer (some ⟨p, 0, none⟩)) ∧ w' = w := by
  go_enter Tryz.func94, Tryz.ntmps94
  go_wp2
  go_ret
  exact ⟨rfl, rfl⟩
theorem wbytes_any (p B : Nat) (l : List Nat) (w : World) (h : Wr w p B l) :
    Calls Tryz.prog 60 #[.pointer (some ⟨p, 0, none⟩)] w fun e w' => e = .returned (.string (bs l)) ∧ w' = w := by
  obtain ⟨a, n, cap, T, g, ho, _, _, hb⟩ := h
  have c1 : w.cell? ⟨p, 1, none⟩ = some (.slice a n cap) := (cell_of g).trans rfl
  have hcv := conv_own hb ho
  clear g ho hb
  go_enter Tryz.func60, Tryz.ntmps60
  go_wp2_with (go_at_call 94; refine (target_some p _).mono ?_; rintro e w' ⟨rfl, rfl⟩)
  go_ret
  exact ⟨rfl, rfl⟩
set_option maxHeartbeats 1000000 in
set_option maxRecDepth 20000 in
theorem wu8_any (p B : Nat) (l : List Nat) (v : Nat) (w : World) (h : Wr w p B l) (hv : v < 256) (hl : l.length ≤ 140737488355000) :
    Calls Tryz.prog 59 #[.pointer (some ⟨p, 0, none⟩), .int .u8 v] w (Lays p B (l ++ nb 1 v) w) := by
  go_enter Tryz.func59, Tryz.ntmps59
  go_wp2_with (first
    | (go_at_call 94; refine (target_some p _).mono ?_; rintro e w' ⟨rfl, rfl⟩)
    | (go_at_call 95; refine (snumber_any p B l v 1 _ h (by omega) hl).mono ?_; rintro e w' ⟨rfl, h1, h2⟩))
  go_end0
  exact ⟨rfl, h1, h2⟩
set_option maxHeartbeats 1000000 in
set_option maxRecDepth 20000 in
theorem wu32_any (p B : Nat) (l : List Nat) (v : Nat) (w : World) (h : Wr w p B l) (hv : v < 4294967296) (hl : l.length ≤ 140737488355000) :
    Calls Tryz.prog 87 #[.pointer (some ⟨p, 0, none⟩), .int .u32 v] w (Lays p B (l ++ nb 4 v) w) := by
  go_enter Tryz.func87, Tryz.ntmps87
  go_wp2_with (first
    | (go_at_call 94; refine (target_some p _).mono ?_; rintro e w' ⟨rfl, rfl⟩)
    | (go_at_call 95; refine (snumber_any p B l v 4 _ h (by omega) hl).mono ?_; rintro e w' ⟨rfl, h1, h2⟩))
  go_end0
  exact ⟨rfl, h1, h2⟩
set_option maxHeartbeats 1000000 in
set_option maxRecDepth 20000 in
theorem wu64_any (p B : Nat) (l : List Nat) (v : Nat) (w : World) (h : Wr w p B l) (hl : l.length ≤ 140737488355000) :
    Calls Tryz.prog 92 #[.pointer (some ⟨p, 0, none⟩), .int .u64 v] w (Lays p B (l ++ nb 8 v) w) := by
  go_enter Tryz.func92, Tryz.ntmps92
  go_wp2_with (first
    | (go_at_call 94; refine (target_some p _).mono ?_; rintro e w' ⟨rfl, rfl⟩)
    | (go_at_call 95; refine (snumber_any p B l v 8 _ h (by omega) hl).mono ?_; rintro e w' ⟨rfl, h1, h2⟩))
  go_end0
  exact ⟨rfl, h1, h2⟩
set_option maxHeartbeats 1000000 in
set_option maxRecDepth 20000 in
theorem wi32_any (p B : Nat) (l : List Nat) (v : Int) (w : World) (h : Wr w p B l) (hl : l.length ≤ 140737488355000) :
    Calls Tryz.prog 77 #[.pointer (some ⟨p, 0, none⟩), .int .i32 v] w (Lays p B (l ++ nb 4 (v % 4294967296).toNat) w) := by
  have e : v % 4294967296 = ((v % 4294967296).toNat : Int) := by omega
  have HE := Hid.mk e
  clear e
  go_enter Tryz.func77, Tryz.ntmps77
  go_wp2_with fail
  rw [HE.out]
  refine (wu32_any p B l _ _ h (by omega) hl).mono ?_
  rintro e w' ⟨rfl, h1, h2⟩
  go_wp2
  go_end0
  exact ⟨rfl, h1, h2⟩
set_option maxHeartbeats 1000000 in
set_option maxRecDepth 20000 in
theorem wi64_any (p B : Nat) (l : List Nat) (v : Int) (w : World) (h : Wr w p B l) (hl : l.length ≤ 140737488355000) :
    Calls Tryz.prog 52 #[.pointer (some ⟨p, 0, none⟩), .int .i64 v] w (Lays p B (l ++ nb 8 (v % 18446744073709551616).toNat) w) := by
  have e : IntKind.u64.wrap v = ((v % 18446744073709551616).toNat : Int) := by rw [IntKind.wrap_u64]; omega
  have HE := Hid.mk e
  clear e
  go_enter Tryz.func52, Tryz.ntmps52
  go_wp2_with fail
  rw [HE.out]
  refine (wu64_any p B l _ _ h hl).mono ?_
  rintro e w' ⟨rfl, h1, h2⟩
  go_wp2
  go_end0
  exact ⟨rfl, h1, h2⟩
set_option maxHeartbeats 1000000 in
set_option maxRecDepth 20000 in
theorem wraw_any (p B : Nat) (l : List Nat) (t : ByteArray) (w : World) (h : Wr w p B l) (hl : l.length + t.size ≤ 140737488355328) :
    Calls Tryz.prog 88 #[.pointer (some ⟨p, 0, none⟩), .string t] w (Lays p B (l ++ bl t) w) := by
  go_enter Tryz.func88, Tryz.ntmps88
  go_wp2_with (first
    | (go_at_call 94; refine (target_some p _).mono ?_; rintro e w' ⟨rfl, rfl⟩)
    | (go_at_call 104; refine (sraw_any p B l t _ h hl).mono ?_; rintro e w' ⟨rfl, h1, h2⟩))
  go_end0
  exact ⟨rfl, h1, h2⟩
theorem zz_nat (n : Nat) : (M.zz (n : Int)).toNat = 2 * n := by unfold M.zz; rw [if_pos (by omega)]; omega
end Go.Proofs.YtgdaaohlongmlaaGreat
