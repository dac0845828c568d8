/- step: its walk. -/
import Derived.Test.YtolobmhbmajolaaPi5
namespace Go.Proofs.Ytolobmhbmajolaa
open Go.RowKit
theorem Bok.up {b : Nat} {F : Int → List Nt} {k k' : Nat} {y : World} {S : Nat → Prop} (h : Bok b F k y S) (hk : k ≤ k') : Bok b F k' y S := by
  obtain ⟨m, fs, h1, h2, h3, h4⟩ := h
  exact ⟨m, fs, h1, h2, by omega, h4⟩
theorem Qs.done {S : Nat → Prop} {y : World} {b c : Nat} {F : Int → List Nt} {k k' : Nat} {l : List Hd} {A : Array Value} {x : Hd} {z : World} (h : Qs S y b c F k l A x z) (hk : k ≤ k') (hF : ∀ q, F q = RF l q) : Step S y (PB b c l k') z :=
  h.drop.drop.mono fun T hT => by
    obtain ⟨S1, S2, h1, h2, h3⟩ := hT
    exact ⟨S1, S2, (h1.same hF).up hk, h2, h3⟩
theorem cells10 {w : World} {p : Nat} {T : TypeId} {fz : Nat × Nat} {v0 v1 v2 v3 v4 v5 v6 v7 v8 v9 : Value} (h : w.heap[p]? = some (.cells #[v0, v1, v2, v3, v4, v5, v6, v7, v8, v9] T fz)) :
    w.cell? ⟨p, 0, none⟩ = some v0 ∧ w.cell? ⟨p, 9, none⟩ = some v9 := ⟨(cell_of h).trans rfl, (cell_of h).trans rfl⟩
abbrev oA (kd : Nat) (r0 r1 : Int) (r2 : Bool) (r3 r4 r5 r6 r7 n : Int) : Array Value := #[.int .u8 kd, .int .i64 r0, .int .i64 r1, .bool r2, .int .i64 r3, .int .i64 r4, .int .i64 r5, .int .i64 r6, .int .i32 r7, .int .i64 n]
abbrev C8 (B : Nat) (r0 r1 : Int) (r2 : Bool) (r3 r4 r5 r6 r7 : Int) (z : World) : Prop := z.cell? ⟨B, 0, none⟩ = some (.int .i64 r0) ∧ z.cell? ⟨B, 1, none⟩ = some (.int .i64 r1) ∧ z.cell? ⟨B, 2, none⟩ = some (.bool r2) ∧ z.cell? ⟨B, 3, none⟩ = some (.int .i64 r3) ∧ z.cell? ⟨B, 4, none⟩ = some (.int .i64 r4) ∧ z.cell? ⟨B, 5, none⟩ = some (.int .i64 r5) ∧ z.cell? ⟨B, 6, none⟩ = some (.int .i64 r6) ∧ z.cell? ⟨B, 7, none⟩ = some (.int .i32 r7)
theorem Qs.c8 {S : Nat → Prop} {y : World} {b c : Nat} {F : Int → List Nt} {k : Nat} {l : List Hd} {A : Array Value} {r0 r1 : Int} {r2 : Bool} {r3 r4 r5 r6 r7 : Int} {z : World} (h : Qs S y b c F k l A ⟨r0, r1, r2, r3, r4, r5, r6, r7⟩ z) : C8 (y.heap.size + 1) r0 r1 r2 r3 r4 r5 r6 r7 z := cells8 h.head
set_option maxHeartbeats 8000000 in
set_option maxRecDepth 60000 in
theorem step_note (b c : Nat) (l : List Hd) (k : Nat) (kd : Nat) (r0 r1 : Int) (r2 : Bool) (r3 r4 r5 r6 r7 n : Int) (hkd : kd < 256) (hx : HdOk ⟨r0, r1, r2, r3, r4, r5, r6, r7⟩) (hm : kd % 5 = 0) (hk : k < 2199023255552) (hl : l.length < 2199023255552) (h5 : R5 l) (y : World) (S : Nat → Prop) (h : PB b c l k y S) :
    Calls Try.prog 14 #[.pointer (some ⟨b, 0, none⟩), .pointer (some ⟨c, 0, none⟩), .agg (oA kd r0 r1 r2 r3 r4 r5 r6 r7 n)] y fun e y' => e = .returned (.bool true) ∧ Step S y (PB b c (rnote l ⟨r0, r1, r2, r3, r4, r5, r6, r7⟩) (k + 1)) y' := by
  have Q0 : Hid (Qs S y b c (RF l) k l (oA kd r0 r1 r2 r3 r4 r5 r6 r7 n) ⟨r0, r1, r2, r3, r4, r5, r6, r7⟩ ((y.alloc (.cells #[.int .u8 kd, .int .i64 r0, .int .i64 r1, .bool r2, .int .i64 r3, .int .i64 r4, .int .i64 r5, .int .i64 r6, .int .i32 r7, .int .i64 n] 31)).alloc (.cells #[.int .i64 r0, .int .i64 r1, .bool r2, .int .i64 r3, .int .i64 r4, .int .i64 r5, .int .i64 r6, .int .i32 r7] 29))) := Qs.start h (oA kd r0 r1 r2 r3 r4 r5 r6 r7 n) ⟨r0, r1, r2, r3, r4, r5, r6, r7⟩
  obtain ⟨E, hE⟩ : ∃ E, noteE ⟨r0, r1, r2, r3, r4, r5, r6, r7⟩ = E := ⟨_, rfl⟩
  have CN1 : Hid (∀ z, Qs S y b c (RF l) k l (oA kd r0 r1 r2 r3 r4 r5 r6 r7 n) ⟨r0, r1, r2, r3, r4, r5, r6, r7⟩ z → Calls Try.prog 20 #[.pointer (some ⟨b, 0, none⟩), hdV r0 r1 r2 r3 r4 r5 r6 r7] z fun e z' => e = .returned (.int .i64 E) ∧ Qs S y b c (noteF (RF l) ⟨r0, r1, r2, r3, r4, r5, r6, r7⟩) (k + 1) l (oA kd r0 r1 r2 r3 r4 r5 r6 r7 n) ⟨r0, r1, r2, r3, r4, r5, r6, r7⟩ z') := fun z hz => by rw [← hE]; exact hz.note1 _ hx (by omega)
  have CN2 : Hid (∀ z, Qs S y b c (noteF (RF l) ⟨r0, r1, r2, r3, r4, r5, r6, r7⟩) (k + 1) l (oA kd r0 r1 r2 r3 r4 r5 r6 r7 n) ⟨r0, r1, r2, r3, r4, r5, r6, r7⟩ z → Calls Try.prog 33 #[.pointer (some ⟨c, 0, none⟩), hdV r0 r1 r2 r3 r4 r5 r6 r7] z fun e z' => e = .returned (.int .i64 E) ∧ Qs S y b c (noteF (RF l) ⟨r0, r1, r2, r3, r4, r5, r6, r7⟩) (k + 1) (rnote l ⟨r0, r1, r2, r3, r4, r5, r6, r7⟩) (oA kd r0 r1 r2 r3 r4 r5 r6 r7 n) ⟨r0, r1, r2, r3, r4, r5, r6, r7⟩ z') := fun z hz => by rw [← hE]; exact hz.note2 _ hl
  have HF := Hid.mk (fun q => note_rf h5 ⟨r0, r1, r2, r3, r4, r5, r6, r7⟩ q)
  have hmI : (kd : Int) % 5 = 0 := by omega
  have hkI : (kd : Int) < 256 := by omega
  clear h hE h5 hx hm hkd
  go_enter Try.func14, Try.ntmps14
  go_wp2_with fail
  go_region_held3 (fun z => C8 (y.heap.size + 1) r0 r1 r2 r3 r4 r5 r6 r7 z) (first | with_reducible exact Q0.out.c8 | with_reducible exact Q0.out.drew.c8 | with_reducible exact N1.c8 | with_reducible exact N1.drew.c8 | with_reducible exact N2.c8 | with_reducible exact N2.drew.c8) (first | (go_at_call 20; with_reducible refine (CN1.out _ ?_).mono ?_; (first | with_reducible exact Q0.out.drew | with_reducible exact Q0.out); rintro e z1 ⟨rfl, N1⟩) | (go_at_call 33; with_reducible refine (CN2.out _ ?_).mono ?_; (first | with_reducible exact N1 | with_reducible exact N1.drew); rintro e z2 ⟨rfl, N2⟩))
  all_goals go_wp2_with fail
  all_goals go_ret
  all_goals exact ⟨by simp, N2.done (Nat.le_refl _) HF.out⟩
set_option maxHeartbeats 8000000 in
set_option maxRecDepth 60000 in
theorem step_none (b c : Nat) (l : List Hd) (k : Nat) (kd : Nat) (r0 r1 : Int) (r2 : Bool) (r3 r4 r5 r6 r7 n : Int) (hkd : kd < 256) (_hx : HdOk ⟨r0, r1, r2, r3, r4, r5, r6, r7⟩) (hm : kd % 5 = 3) (_hk : k < 2199023255552) (_hl : l.length < 2199023255552) (_h5 : R5 l) (y : World) (S : Nat → Prop) (h : PB b c l k y S) :
    Calls Try.prog 14 #[.pointer (some ⟨b, 0, none⟩), .pointer (some ⟨c, 0, none⟩), .agg (oA kd r0 r1 r2 r3 r4 r5 r6 r7 n)] y fun e y' => e = .returned (.bool true) ∧ Step S y (PB b c (l) (k + 1)) y' := by
  have Q0 : Hid (Qs S y b c (RF l) k l (oA kd r0 r1 r2 r3 r4 r5 r6 r7 n) ⟨r0, r1, r2, r3, r4, r5, r6, r7⟩ ((y.alloc (.cells #[.int .u8 kd, .int .i64 r0, .int .i64 r1, .bool r2, .int .i64 r3, .int .i64 r4, .int .i64 r5, .int .i64 r6, .int .i32 r7, .int .i64 n] 31)).alloc (.cells #[.int .i64 r0, .int .i64 r1, .bool r2, .int .i64 r3, .int .i64 r4, .int .i64 r5, .int .i64 r6, .int .i32 r7] 29))) := Qs.start h (oA kd r0 r1 r2 r3 r4 r5 r6 r7 n) ⟨r0, r1, r2, r3, r4, r5, r6, r7⟩
  have hmI : (kd : Int) % 5 = 3 := by omega
  have hkI : (kd : Int) < 256 := by omega
  have HD := Hid.mk (Q0.out.done (k' := k + 1) (by omega) (fun q => rfl))
  clear h _h5 _hx hm hkd Q0
  go_enter Try.func14, Try.ntmps14
  go_wp2_with fail
  go_ret
  exact ⟨rfl, HD.out⟩
set_option maxHeartbeats 8000000 in
set_option maxRecDepth 60000 in
theorem step_check (b c : Nat) (l : List Hd) (k : Nat) (kd : Nat) (r0 r1 : Int) (r2 : Bool) (r3 r4 r5 r6 r7 n : Int) (hkd : kd < 256) (hx : HdOk ⟨r0, r1, r2, r3, r4, r5, r6, r7⟩) (hm : kd % 5 = 1) (_hk : k < 2199023255552) (hl : l.length < 2199023255552) (h5 : R5 l) (y : World) (S : Nat → Prop) (h : PB b c l k y S) :
    Calls Try.prog 14 #[.pointer (some ⟨b, 0, none⟩), .pointer (some ⟨c, 0, none⟩), .agg (oA kd r0 r1 r2 r3 r4 r5 r6 r7 n)] y fun e y' => e = .returned (.bool true) ∧ Step S y (PB b c (l) (k + 1)) y' := by
  have Q0 : Hid (Qs S y b c (RF l) k l (oA kd r0 r1 r2 r3 r4 r5 r6 r7 n) ⟨r0, r1, r2, r3, r4, r5, r6, r7⟩ ((y.alloc (.cells #[.int .u8 kd, .int .i64 r0, .int .i64 r1, .bool r2, .int .i64 r3, .int .i64 r4, .int .i64 r5, .int .i64 r6, .int .i32 r7, .int .i64 n] 31)).alloc (.cells #[.int .i64 r0, .int .i64 r1, .bool r2, .int .i64 r3, .int .i64 r4, .int .i64 r5, .int .i64 r6, .int .i32 r7] 29))) := Qs.start h (oA kd r0 r1 r2 r3 r4 r5 r6 r7 n) ⟨r0, r1, r2, r3, r4, r5, r6, r7⟩
  have hmI : (kd : Int) % 5 = 1 := by omega
  have hkI : (kd : Int) < 256 := by omega
  have CK : Hid (∀ z, Qs S y b c (RF l) k l (oA kd r0 r1 r2 r3 r4 r5 r6 r7 n) ⟨r0, r1, r2, r3, r4, r5, r6, r7⟩ z → Calls Try.prog 32 #[.pointer (some ⟨b, 0, none⟩), .pointer (some ⟨c, 0, none⟩), .int .i64 r6, .int .i32 r7, .int .i64 r3] z fun e z' => e = .returned (.bool true) ∧ Qs S y b c (RF l) k l (oA kd r0 r1 r2 r3 r4 r5 r6 r7 n) ⟨r0, r1, r2, r3, r4, r5, r6, r7⟩ z') := fun z hz => by
    obtain ⟨T, hT⟩ := hz.drop.left'
    exact (checked_any b c l k r6 r7 r3 hx.p0 hx.p1 hx.s1 z T hT h5 (by omega)).mono fun e z' hh => ⟨hh.1, hz.call hh.2⟩
  clear h h5 hx hm hkd
  go_enter Try.func14, Try.ntmps14
  go_wp2_with (go_at_call 32; with_reducible refine (CK.out _ Q0.out).mono ?_; rintro e z1 ⟨rfl, h1⟩; have H1 := Hid.mk h1; clear h1)
  go_ret
  exact ⟨rfl, H1.out.done (by omega) (fun q => rfl)⟩
theorem Qs.c9 {S : Nat → Prop} {y : World} {b c : Nat} {F : Int → List Nt} {k : Nat} {l : List Hd} {kd : Nat} {r0 r1 : Int} {r2 : Bool} {r3 r4 r5 r6 r7 n : Int} {x : Hd} {z : World} (h : Qs S y b c F k l (oA kd r0 r1 r2 r3 r4 r5 r6 r7 n) x z) : z.cell? ⟨y.heap.size, 9, none⟩ = some (.int .i64 n) := (cell_of h.op).trans rfl
set_option maxHeartbeats 8000000 in
set_option maxRecDepth 60000 in
theorem step_forget (b c : Nat) (l : List Hd) (k : Nat) (kd : Nat) (r0 r1 : Int) (r2 : Bool) (r3 r4 r5 r6 r7 n : Int) (hkd : kd < 256) (_hx : HdOk ⟨r0, r1, r2, r3, r4, r5, r6, r7⟩) (hm : kd % 5 = 2) (hk : k < 2199023255552) (hl : l.length < 2199023255552) (h5 : R5 l) (y : World) (S : Nat → Prop) (h : PB b c l k y S) :
    Calls Try.prog 14 #[.pointer (some ⟨b, 0, none⟩), .pointer (some ⟨c, 0, none⟩), .agg (oA kd r0 r1 r2 r3 r4 r5 r6 r7 n)] y fun e y' => e = .returned (.bool true) ∧ Step S y (PB b c (rfg n l) (k + 1)) y' := by
  have Q0 : Hid (Qs S y b c (RF l) k l (oA kd r0 r1 r2 r3 r4 r5 r6 r7 n) ⟨r0, r1, r2, r3, r4, r5, r6, r7⟩ ((y.alloc (.cells #[.int .u8 kd, .int .i64 r0, .int .i64 r1, .bool r2, .int .i64 r3, .int .i64 r4, .int .i64 r5, .int .i64 r6, .int .i32 r7, .int .i64 n] 31)).alloc (.cells #[.int .i64 r0, .int .i64 r1, .bool r2, .int .i64 r3, .int .i64 r4, .int .i64 r5, .int .i64 r6, .int .i32 r7] 29))) := Qs.start h (oA kd r0 r1 r2 r3 r4 r5 r6 r7 n) ⟨r0, r1, r2, r3, r4, r5, r6, r7⟩
  have hmI : (kd : Int) % 5 = 2 := by omega
  have hkI : (kd : Int) < 256 := by omega
  obtain ⟨ps, hps⟩ : ∃ ps, Ids (RF l) ps := by
    obtain ⟨S', m, fs, hb, hF, _⟩ := h.b
    exact ⟨_, hb.pids hF⟩
  obtain ⟨ps', hps'⟩ : ∃ ps', Ids (RF (rfg n l)) ps' := by
    refine ⟨ps.filter (fun q => decide (RF (rfg n l) q ≠ [])), hps.up.filter _, fun q => ?_⟩
    rw [List.mem_filter, hps.mem q]
    constructor
    · intro h; simpa using h.2
    · intro h
      refine ⟨fun e => h ?_, by simpa using h⟩
      rw [rfg_rf, e]
      rfl
  have hps2 : Ids (fun q => fg n (RF l q)) ps' := ⟨hps'.up, fun q => by rw [hps'.mem q, rfg_rf]⟩
  obtain ⟨G, hG⟩ : ∃ G, (ps.length : Int) - (ps'.length : Int) = G := ⟨_, rfl⟩
  have C1 : Hid (∀ z, Qs S y b c (RF l) k l (oA kd r0 r1 r2 r3 r4 r5 r6 r7 n) ⟨r0, r1, r2, r3, r4, r5, r6, r7⟩ z → Calls Try.prog 17 #[.pointer (some ⟨b, 0, none⟩), .int .i64 n] z fun e z' => e = .returned (.int .i64 G) ∧ Qs S y b c (fun q => fg n (RF l q)) k l (oA kd r0 r1 r2 r3 r4 r5 r6 r7 n) ⟨r0, r1, r2, r3, r4, r5, r6, r7⟩ z') := fun z hz => by rw [← hG]; exact hz.forget1 n (by omega) hps hps2
  have C2 : Hid (∀ z, Qs S y b c (fun q => fg n (RF l q)) k l (oA kd r0 r1 r2 r3 r4 r5 r6 r7 n) ⟨r0, r1, r2, r3, r4, r5, r6, r7⟩ z → Calls Try.prog 34 #[.pointer (some ⟨c, 0, none⟩), .int .i64 n] z fun e z' => e = .returned (.int .i64 G) ∧ Qs S y b c (fun q => fg n (RF l q)) k (rfg n l) (oA kd r0 r1 r2 r3 r4 r5 r6 r7 n) ⟨r0, r1, r2, r3, r4, r5, r6, r7⟩ z') := fun z hz => by rw [← hG]; exact hz.forget2 n h5.ok (by omega) hps hps'
  have HF := Hid.mk (fun q => (rfg_rf n l q).symm)
  clear h h5 _hx hm hkd hps hps' hps2 hG
  go_enter Try.func14, Try.ntmps14
  go_wp2_with fail
  go_region_held3 (fun z => z.cell? ⟨y.heap.size, 9, none⟩ = some (.int .i64 n)) (first | with_reducible exact Q0.out.c9 | with_reducible exact Q0.out.drew.c9 | with_reducible exact N1.c9 | with_reducible exact N1.drew.c9 | with_reducible exact N2.c9) (first | (go_at_call 17; with_reducible refine (C1.out _ ?_).mono ?_; (first | with_reducible exact Q0.out.drew | with_reducible exact Q0.out); rintro e z1 ⟨rfl, N1⟩) | (go_at_call 34; with_reducible refine (C2.out _ ?_).mono ?_; (first | with_reducible exact N1 | with_reducible exact N1.drew); rintro e z2 ⟨rfl, N2⟩))
  all_goals go_wp2_with fail
  all_goals go_ret
  all_goals exact ⟨by simp, N2.done (by omega) HF.out⟩
set_option maxHeartbeats 8000000 in
set_option maxRecDepth 60000 in
theorem step_next (b c : Nat) (l : List Hd) (k : Nat) (kd : Nat) (r0 r1 : Int) (r2 : Bool) (r3 r4 r5 r6 r7 n : Int) (hkd : kd < 256) (hx : HdOk ⟨r0, r1, r2, r3, r4, r5, r6, r7⟩) (hm : kd % 5 = 4) (hk : k < 2199023255552) (hl : l.length < 2199023255552) (h5 : R5 l) (y : World) (S : Nat → Prop) (h : PB b c l k y S) :
    Calls Try.prog 14 #[.pointer (some ⟨b, 0, none⟩), .pointer (some ⟨c, 0, none⟩), .agg (oA kd r0 r1 r2 r3 r4 r5 r6 r7 n)] y fun e y' => e = .returned (.bool true) ∧ Step S y (PB b c (rnote l ⟨r0, r1, r2, r3, r4, r5, r6, nxt (RF l r6)⟩) (k + 1)) y' := by
  have Q0 : Hid (Qs S y b c (RF l) k l (oA kd r0 r1 r2 r3 r4 r5 r6 r7 n) ⟨r0, r1, r2, r3, r4, r5, r6, r7⟩ ((y.alloc (.cells #[.int .u8 kd, .int .i64 r0, .int .i64 r1, .bool r2, .int .i64 r3, .int .i64 r4, .int .i64 r5, .int .i64 r6, .int .i32 r7, .int .i64 n] 31)).alloc (.cells #[.int .i64 r0, .int .i64 r1, .bool r2, .int .i64 r3, .int .i64 r4, .int .i64 r5, .int .i64 r6, .int .i32 r7] 29))) := Qs.start h (oA kd r0 r1 r2 r3 r4 r5 r6 r7 n) ⟨r0, r1, r2, r3, r4, r5, r6, r7⟩
  have hmI : (kd : Int) % 5 = 4 := by omega
  have hkI : (kd : Int) < 256 := by omega
  obtain ⟨n0, n1⟩ := nxt_b (RF l r6)
  have CX : Hid (∀ z, Qs S y b c (RF l) k l (oA kd r0 r1 r2 r3 r4 r5 r6 r7 n) ⟨r0, r1, r2, r3, r4, r5, r6, r7⟩ z → Calls Try.prog 31 #[.pointer (some ⟨c, 0, none⟩), .int .i64 r6] z fun e z' => e = .returned (.tuple #[.int .i32 (nxt (RF l r6)), .bool (!(RF l r6).isEmpty)]) ∧ Qs S y b c (RF l) k l (oA kd r0 r1 r2 r3 r4 r5 r6 r7 n) ⟨r0, r1, r2, r3, r4, r5, r6, r7⟩ z') := fun z hz => by
    obtain ⟨T, hT⟩ := hz.drop.left'
    obtain ⟨T2, hT2⟩ := PB.c hT
    exact (rnext_any c l r6 z T2 hT2 h5.ok (by omega)).mono fun e z' hh => ⟨hh.1, hz.call hh.2⟩
  obtain ⟨NX, hNX⟩ : ∃ NX, nxt (RF l r6) = NX := ⟨_, rfl⟩
  rw [hNX] at CX n0 n1 ⊢
  generalize (!(RF l r6).isEmpty) = NE at *
  have hz : HdOk ⟨r0, r1, r2, r3, r4, r5, r6, NX⟩ := ⟨hx.p0, hx.p1, by show _ ≤ NX; omega, n1, hx.c0, hx.c1, hx.b0, hx.b1⟩
  have CS : Hid (∀ z, Qs S y b c (RF l) k l (oA kd r0 r1 r2 r3 r4 r5 r6 r7 n) ⟨r0, r1, r2, r3, r4, r5, r6, r7⟩ z → Qs S y b c (RF l) k l (oA kd r0 r1 r2 r3 r4 r5 r6 r7 n) ⟨r0, r1, r2, r3, r4, r5, r6, NX⟩ (z.setCell ⟨y.heap.size + 1, 7, none⟩ (.int .i32 NX)) ∧ z.frozen? ⟨y.heap.size + 1, 7, none⟩ = false ∧ C8 (y.heap.size + 1) r0 r1 r2 r3 r4 r5 r6 r7 z) := fun z hz => ⟨Step.set (((Bok.stab _ _ _).sep (RB.stab _ _)).sep (Bx.stab _ _ _)) hz rfl, froz_of hz.head, hz.c8⟩
  have CK : Hid (∀ z, Qs S y b c (RF l) k l (oA kd r0 r1 r2 r3 r4 r5 r6 r7 n) ⟨r0, r1, r2, r3, r4, r5, r6, NX⟩ z → Calls Try.prog 32 #[.pointer (some ⟨b, 0, none⟩), .pointer (some ⟨c, 0, none⟩), .int .i64 r6, .int .i32 NX, .int .i64 r3] z fun e z' => e = .returned (.bool true) ∧ Qs S y b c (RF l) k l (oA kd r0 r1 r2 r3 r4 r5 r6 r7 n) ⟨r0, r1, r2, r3, r4, r5, r6, NX⟩ z') := fun z hz => by
    obtain ⟨T, hT⟩ := hz.drop.left'
    exact (checked_any b c l k r6 NX r3 hx.p0 hx.p1 n1 z T hT h5 (by omega)).mono fun e z' hh => ⟨hh.1, hz.call hh.2⟩
  obtain ⟨E, hE⟩ : ∃ E, noteE ⟨r0, r1, r2, r3, r4, r5, r6, NX⟩ = E := ⟨_, rfl⟩
  have CN1 : Hid (∀ z, Qs S y b c (RF l) k l (oA kd r0 r1 r2 r3 r4 r5 r6 r7 n) ⟨r0, r1, r2, r3, r4, r5, r6, NX⟩ z → Calls Try.prog 20 #[.pointer (some ⟨b, 0, none⟩), hdV r0 r1 r2 r3 r4 r5 r6 NX] z fun e z' => e = .returned (.int .i64 E) ∧ Qs S y b c (noteF (RF l) ⟨r0, r1, r2, r3, r4, r5, r6, NX⟩) (k + 1) l (oA kd r0 r1 r2 r3 r4 r5 r6 r7 n) ⟨r0, r1, r2, r3, r4, r5, r6, NX⟩ z') := fun z hz' => by rw [← hE]; exact hz'.note1 _ hz (by omega)
  have CN2 : Hid (∀ z, Qs S y b c (noteF (RF l) ⟨r0, r1, r2, r3, r4, r5, r6, NX⟩) (k + 1) l (oA kd r0 r1 r2 r3 r4 r5 r6 r7 n) ⟨r0, r1, r2, r3, r4, r5, r6, NX⟩ z → Calls Try.prog 33 #[.pointer (some ⟨c, 0, none⟩), hdV r0 r1 r2 r3 r4 r5 r6 NX] z fun e z' => e = .returned (.int .i64 E) ∧ Qs S y b c (noteF (RF l) ⟨r0, r1, r2, r3, r4, r5, r6, NX⟩) (k + 1) (rnote l ⟨r0, r1, r2, r3, r4, r5, r6, NX⟩) (oA kd r0 r1 r2 r3 r4 r5 r6 r7 n) ⟨r0, r1, r2, r3, r4, r5, r6, NX⟩ z') := fun z hz' => by rw [← hE]; exact hz'.note2 _ hl
  have HF := Hid.mk (fun q => note_rf h5 ⟨r0, r1, r2, r3, r4, r5, r6, NX⟩ q)
  clear h hE h5 hx hm hkd hz hNX
  go_enter Try.func14, Try.ntmps14
  go_wp2_with (go_at_call 31; with_reducible refine (CX.out _ Q0.out).mono ?_; rintro e z0 ⟨rfl, h0⟩; obtain ⟨h1, fz, c0, c1, c2, c3, c4, c5, c6, c7⟩ := CS.out z0 h0; have Q1 := Hid.mk h1; clear h0 h1)
  clear c0 c1 c2 c3 c4 c5 c6 c7 fz Q0
  go_region_held3 (fun z => C8 (y.heap.size + 1) r0 r1 r2 r3 r4 r5 r6 NX z) (first | with_reducible exact Q1.out.c8 | with_reducible exact Q1.out.drew.c8 | with_reducible exact N0.c8 | with_reducible exact N0.drew.c8 | with_reducible exact N1.c8 | with_reducible exact N1.drew.c8 | with_reducible exact N2.c8) (first | (go_at_call 32; with_reducible refine (CK.out _ ?_).mono ?_; (first | with_reducible exact Q1.out.drew | with_reducible exact Q1.out); rintro e z1 ⟨rfl, N0⟩) | (go_at_call 20; with_reducible refine (CN1.out _ ?_).mono ?_; (first | with_reducible exact N0 | with_reducible exact N0.drew); rintro e z2 ⟨rfl, N1⟩) | (go_at_call 33; with_reducible refine (CN2.out _ ?_).mono ?_; (first | with_reducible exact N1 | with_reducible exact N1.drew); rintro e z3 ⟨rfl, N2⟩))
  all_goals go_wp2_with fail
  all_goals go_ret
  all_goals exact ⟨by simp, N2.done (Nat.le_refl _) HF.out⟩
/-- A step, of whatever kind. -/
theorem step_any (b c : Nat) (l : List Hd) (k : Nat) (o : Oq) (ho : OqOk o) (hk : k < 2199023255552) (hl : l.length < 2199023255552) (h5 : R5 l) (y : World) (S : Nat → Prop) (h : PB b c l k y S) :
    Calls Try.prog 14 #[.pointer (some ⟨b, 0, none⟩), .pointer (some ⟨c, 0, none⟩), .agg (ov o)] y fun e y' => e = .returned (.bool true) ∧ Step S y (PB b c (stp l o) (k + 1)) y' := by
  obtain ⟨kd, ⟨r0, r1, r2, r3, r4, r5, r6, r7⟩, n⟩ := o
  have hc : kd % 5 = 0 ∨ kd % 5 = 1 ∨ kd % 5 = 2 ∨ kd % 5 = 3 ∨ kd % 5 = 4 := by omega
  rcases hc with e | e | e | e | e
  · have es : stp l ⟨kd, ⟨r0, r1, r2, r3, r4, r5, r6, r7⟩, n⟩ = rnote l ⟨r0, r1, r2, r3, r4, r5, r6, r7⟩ := by simp [stp, e]
    rw [es]
    exact step_note b c l k kd r0 r1 r2 r3 r4 r5 r6 r7 n ho.k ho.h e hk hl h5 y S h
  · have es : stp l ⟨kd, ⟨r0, r1, r2, r3, r4, r5, r6, r7⟩, n⟩ = l := by simp [stp, e]
    rw [es]
    exact step_check b c l k kd r0 r1 r2 r3 r4 r5 r6 r7 n ho.k ho.h e hk hl h5 y S h
  · have es : stp l ⟨kd, ⟨r0, r1, r2, r3, r4, r5, r6, r7⟩, n⟩ = rfg n l := by simp [stp, e]
    rw [es]
    exact step_forget b c l k kd r0 r1 r2 r3 r4 r5 r6 r7 n ho.k ho.h e hk hl h5 y S h
  · have es : stp l ⟨kd, ⟨r0, r1, r2, r3, r4, r5, r6, r7⟩, n⟩ = l := by simp [stp, e]
    rw [es]
    exact step_none b c l k kd r0 r1 r2 r3 r4 r5 r6 r7 n ho.k ho.h e hk hl h5 y S h
  · have es : stp l ⟨kd, ⟨r0, r1, r2, r3, r4, r5, r6, r7⟩, n⟩ = rnote l ⟨r0, r1, r2, r3, r4, r5, r6, nxt (RF l r6)⟩ := by simp [stp, e]
    rw [es]
    exact step_next b c l k kd r0 r1 r2 r3 r4 r5 r6 r7 n ho.k ho.h e hk hl h5 y S h
end Go.Proofs.Ytolobmhbmajolaa
