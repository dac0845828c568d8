/- The program's index: its table's calls, and what stands upon them. -/
import Derived.Test.YtmhmohkeekmmgaaOxm
namespace Go.Proofs.Ytmhmohkeekmmgaa
open Go.RowKit
/-- Does e keep the order behind l? -/
def ordB (l : List En) (e : En) : Bool := match l.getLast? with | none => true | some m => decide (m.a < e.a) && decide (m.k ≤ e.k)
def fitB (l : List En) (e : En) : Bool := decide (0 ≤ e.a) && ordB l e
def addE (l : List En) (e : En) : List En := if fitB l e then l ++ [e] else l
def addC (l : List En) (e : En) : Int := if e.a < 0 then 1 else if ordB l e then 0 else 30
theorem ordB_nil (e : En) : ordB [] e = true := rfl
theorem ordB_snoc (l : List En) (m e : En) : ordB (l ++ [m]) e = (decide (m.a < e.a) && decide (m.k ≤ e.k)) := by unfold ordB; simp
theorem fitB_C (l : List En) (e : En) : addC l e = 0 ↔ fitB l e = true := by
  unfold addC fitB
  by_cases h : e.a < 0
  · rw [if_pos h]; simp; omega
  · rw [if_neg h]
    have : 0 ≤ e.a := by omega
    cases ordB l e <;> simp [this]
/-- The entry number i, and whether there is one. -/
def atE (l : List En) (i : Int) : En × Bool := if 0 ≤ i ∧ i < l.length then (l.getD i.toNat en0, true) else (en0, false)
theorem new_any (w : World) : Calls Try.prog 10 #[] w fun e w' => e = .returned (.pointer (some ⟨w.heap.size, 0, none⟩)) ∧ w' = w.alloc (.cells #[.slice none 0 0] 60) := by
  go_enter Try.func10, Try.ntmps10
  go_wp2
  go_ret
  exact ⟨rfl, rfl⟩
/-- Where a pointer's entries are: of nil there are none. -/
def Ip (w : World) (p : Option Addr) (v : Value) (l : List En) : Prop := (∃ x, p = some ⟨x, 0, none⟩ ∧ Ix 60 w x v l) ∨ (p = none ∧ v = .slice none 0 0 ∧ l = [])
/-- What becomes of it. -/
def Iq (w w' : World) (p : Option Addr) (x : Nat) (v : Value) : Prop := (p = some ⟨x, 0, none⟩ ∧ w' = w) ∨ (p = none ∧ v = .slice none 0 0 ∧ x = w.heap.size ∧ w' = w.alloc (.cells #[.slice none 0 0] 60))
theorem Iq.ch {w w' : World} {p : Option Addr} {x : Nat} {v : Value} (h : Iq w w' p x v) : Ch (fun _ => False) w w' := by
  rcases h with ⟨_, rfl⟩ | ⟨_, _, _, rfl⟩
  · exact Ch.refl _ _
  · exact (Ch.refl _ _).alloc _
theorem source_any (p : Option Addr) (v : Value) (l : List En) (w : World) (h : Ip w p v l) : Calls Try.prog 31 #[.pointer p] w fun e w' => ∃ x, e = .returned (.pointer (some ⟨x, 0, none⟩)) ∧ Ix 60 w' x v l ∧ Iq w w' p x v := by
  rcases h with ⟨x, rfl, h⟩ | ⟨rfl, rfl, rfl⟩
  · go_enter Try.func31, Try.ntmps31
    go_wp2
    go_ret
    exact ⟨x, rfl, h, Or.inl ⟨rfl, rfl⟩⟩
  · go_enter Try.func31, Try.ntmps31
    go_wp2_with (go_at_call 10; refine (new_any _).mono ?_; rintro e w' ⟨rfl, rfl⟩)
    go_ret
    exact ⟨_, rfl, Ix.new _ _, Or.inr ⟨rfl, rfl, rfl, rfl⟩⟩
theorem count_any {T : TypeId} (x : Nat) (v : Value) (l : List En) (w : World) (h : Ix T w x v l) : Calls Try.prog 48 #[.pointer (some ⟨x, 0, none⟩)] w fun e w' => e = .returned (.int .i64 l.length) ∧ w' = w := by
  obtain ⟨a, cap, rfl, _⟩ := h.row.ens
  have c0 := h.c0
  go_enter Try.func48, Try.ntmps48
  go_wp2
  go_ret
  exact ⟨rfl, rfl⟩
set_option maxRecDepth 20000 in
set_option maxHeartbeats 1000000 in
theorem entry_any {T : TypeId} (x : Nat) (i : Int) (v : Value) (l : List En) (w : World) (h : Ix T w x v l) : Calls Try.prog 50 #[.pointer (some ⟨x, 0, none⟩), .int .i64 i] w fun e w' => e = .returned (.tuple #[enV (atE l i).1, .bool (atE l i).2]) ∧ Below w.heap.size w w' := by
  have hcn := fun wx (hx : Below w.heap.size w wx) => count_any x v l wx (h.below hx)
  have HCN := hid hcn
  obtain ⟨a, cap, rfl, hens⟩ := h.row.ens
  have c0 := h.c0
  have hlx := lt_of_heap h.blk
  have hw1 : Below w.heap.size w (w.alloc (.cells #[.int .i64 0, .int .i64 0] 29)) := (Below.refl _ _).alloc (Nat.le_refl _) _
  have HB := hid hw1
  clear hcn hw1
  by_cases h0 : 0 ≤ i
  · by_cases h1 : i < l.length
    · have he : atE l i = (l.getD i.toNat en0, true) := if_pos ⟨h0, h1⟩
      rw [he]
      obtain ⟨j, rfl⟩ : ∃ j : Nat, i = j := ⟨i.toNat, by omega⟩
      have hj : j < l.length := by omega
      rw [Int.toNat_natCast]
      rcases hens with e | ⟨b, off, rfl, hb, hc⟩
      · rw [e] at hj; cases hj
      obtain ⟨p0, p1⟩ := hc j hj
      generalize l.getD j en0 = s at *
      obtain ⟨sk, sa⟩ := s
      simp only at p0 p1
      have h0' : ¬ (j : Int) < 0 := by omega
      have hge : ¬ (l.length : Int) ≤ j := by omega
      clear hc he h
      generalize l.length = N at *
      go_enter Try.func50, Try.ntmps50
      go_wp2_with (go_at_call 48; refine (HCN.out _ HB.out).mono ?_; rintro e w' ⟨rfl, rfl⟩)
      refine bodyPost_ret (v := .tuple #[.agg #[.int .i64 sk, .int .i64 sa], .bool true]) (by simp [results, Try.results50, go_sem]) rfl ⟨rfl, ?_⟩
      exact (Below.refl _ _).alloc (Nat.le_refl _) _
    · have he : atE l i = (en0, false) := if_neg (fun h => h1 h.2)
      rw [he]
      have h0' : ¬ i < 0 := by omega
      have hge : (l.length : Int) ≤ i := by omega
      clear he h hens
      generalize l.length = N at *
      go_enter Try.func50, Try.ntmps50
      go_wp2_with (go_at_call 48; refine (HCN.out _ HB.out).mono ?_; rintro e w' ⟨rfl, rfl⟩)
      refine bodyPost_ret (v := .tuple #[.agg #[.int .i64 0, .int .i64 0], .bool false]) (by simp [results, Try.results50, go_sem]) rfl ⟨rfl, ?_⟩
      exact HB.out
  · have he : atE l i = (en0, false) := if_neg (fun h => h0 h.1)
    rw [he]
    have h0' : i < 0 := by omega
    clear he h hens
    go_enter Try.func50, Try.ntmps50
    go_wp2_with fail
    refine bodyPost_ret (v := .tuple #[.agg #[.int .i64 0, .int .i64 0], .bool false]) (by simp [results, Try.results50, go_sem]) rfl ⟨rfl, ?_⟩
    exact HB.out
end Go.Proofs.Ytmhmohkeekmmgaa
