/- Texts of the proof, put together: Bdc, Bsa, Bsp. -/
import Derived.Test.YtihokphamgkkcaaGreatMB3
import Derived.Test.YtihokphamgkkcaaGreatMB5
import Derived.Test.YtihokphamgkkcaaGreatMB4
import Derived.Test.YtihokphamgkkcaaGreatMR
import Derived.Deep.LoopGhost
namespace Go.Proofs.YtihokphamgkkcaaGreat
open Go.RowKit
def noBt : Value := .agg #[.int .i64 0, .bool false, .int .i64 0, .int .i32 0, .slice none 0 0]
/-- What Decode says. -/
def dcd (s : ByteArray) (frame plain : Int) : Except Nat (Fs × List Rec) := match opn s frame plain with
  | .error e => .error e
  | .ok (f, b) => match rbd b f.first f.cnt with
    | .error e => .error e
    | .ok L => .ok (f, L)
theorem opn_err {s : ByteArray} {frame plain : Int} {x : Nat} (h : opn s frame plain = .error x) : ¬ x = 0 := by
  unfold opn at h
  split at h
  · injection h with h; subst h; assumption
  · split at h
    · injection h with h; subst h; assumption
    · split at h
      · rename_i e hb
        injection h with h
        subst h
        unfold bod at hb
        split at hb
        · split at hb
          · cases hb; decide
          · split at hb
            · cases hb; decide
            · split at hb
              · cases hb; decide
              · cases hb
        · split at hb
          · cases hb; decide
          · cases hb
      · split at h
        · injection h with h; subst h; assumption
        · cases h
theorem opn_ok {s : ByteArray} {frame plain : Int} {f : Fs} {b : ByteArray} (h : opn s frame plain = .ok (f, b)) : pke s = 0 ∧ f = fsOf s ∧ whe s (fsOf s) (wth frame 58 16777216) = 0 ∧ bod (s.extract 51 (12 + (fsOf s).len)) (fsOf s).st (wth plain 7 16777216) = .ok b ∧ cbe b (fsOf s) = 0 := by
  unfold opn at h
  split at h
  · cases h
  · rename_i h1
    split at h
    · cases h
    · rename_i h2
      split at h
      · cases h
      · rename_i hb
        split at h
        · cases h
        · rename_i h3
          injection h with h
          injection h with e1 e2
          subst e1 e2
          exact ⟨Classical.not_not.1 h1, rfl, Classical.not_not.1 h2, hb, Classical.not_not.1 h3⟩
theorem opn_first {s : ByteArray} {frame plain : Int} {f : Fs} {b : ByteArray} (h : opn s frame plain = .ok (f, b)) : I64 f.first := by
  rw [(opn_ok h).2.1]
  exact wrap64_in _
theorem put5' {w : World} {U : TypeId} {u0 u1 u2 u3 u4 : Value} {x : World} (h : Bx1 w #[u0, u1, u2, u3, u4] U x) (v0 v1 v2 v3 v4 : Value) : Bx1 w #[v0, v1, v2, v3, v4] U ((((((x.setCell ⟨w.heap.size, 0, none⟩ (v0)).setCell ⟨w.heap.size, 1, none⟩ (v1)).setCell ⟨w.heap.size, 2, none⟩ (v2)).setCell ⟨w.heap.size, 3, none⟩ (v3)).setCell ⟨w.heap.size, 4, none⟩ (v4))) := by
  have h0 : Bx1 w #[v0, u1, u2, u3, u4] U (x.setCell ⟨w.heap.size, 0, none⟩ v0) := h.set 0 v0
  have h1 : Bx1 w #[v0, v1, u2, u3, u4] U _ := h0.set 1 v1
  have h2 : Bx1 w #[v0, v1, v2, u3, u4] U _ := h1.set 2 v2
  have h3 : Bx1 w #[v0, v1, v2, v3, u4] U _ := h2.set 3 v3
  have h4 : Bx1 w #[v0, v1, v2, v3, v4] U _ := h3.set 4 v4
  exact h4
theorem store5f {x : World} {G R : Nat} {o : Obj} {v0 v1 v2 v3 v4 : Value} (h : x.heap[G]? = some o) (hne : G ≠ R) : ((((((x.setCell ⟨R, 0, none⟩ (v0)).setCell ⟨R, 1, none⟩ (v1)).setCell ⟨R, 2, none⟩ (v2)).setCell ⟨R, 3, none⟩ (v3)).setCell ⟨R, 4, none⟩ (v4))).heap[G]? = some o :=
  heap_set_far (heap_set_far (heap_set_far (heap_set_far (heap_set_far h hne) hne) hne) hne) hne
theorem froz5 {w : World} {G : Nat} {T : TypeId} {c : Array Value} (h : w.heap[G]? = some (.cells c T (0, 0))) : w.frozen? ⟨G, 0, none⟩ = false ∧ w.frozen? ⟨G, 1, none⟩ = false ∧ w.frozen? ⟨G, 2, none⟩ = false ∧ w.frozen? ⟨G, 3, none⟩ = false ∧ w.frozen? ⟨G, 4, none⟩ = false := ⟨froz_of h, froz_of h, froz_of h, froz_of h, froz_of h⟩
theorem own_lower {w : World} {B B' n size : Nat} {e : TypeId} {v : Value} {l : List Value} (hB : B ≤ B') (h : w.ownsRow B' e size v n l) : w.ownsRow B e size v n l := by
  obtain ⟨h1, h2⟩ := h
  refine ⟨h1, ?_⟩
  rcases h2 with h2 | ⟨g, cap, cur, rfl, hg, r⟩
  · exact Or.inl h2
  · exact Or.inr ⟨g, cap, cur, rfl, Nat.le_trans hB hg, r⟩
theorem Held.lower {w : World} {B B' : Nat} {v : Value} {l : List RI} (h : Held w B' v l) (hB : B ≤ B') : Held w B v l := ⟨own_lower hB h.row, fun x hx => own_lower hB (h.hds x hx), h.ap⟩
theorem held_put5 {w : World} {B : Nat} {v : Value} {l : List RI} {k : Nat} {c : Array Value} {T : TypeId} {fz : Nat × Nat} (h : Held w B v l) (hk : w.heap[k]? = some (.cells c T fz)) (h1 : T ≠ 49) (h2 : T ≠ 51) (v0 v1 v2 v3 v4 : Value) : Held ((((((w.setCell ⟨k, 0, none⟩ (v0)).setCell ⟨k, 1, none⟩ (v1)).setCell ⟨k, 2, none⟩ (v2)).setCell ⟨k, 3, none⟩ (v3)).setCell ⟨k, 4, none⟩ (v4))) B v l := by
  refine h.kept (fun g hg ho => ?_)
  have hne : g ≠ k := fun e => h.ne hk h1 h2 (e ▸ ho)
  rw [Below.heap_setCell _ _ _ _ hne, Below.heap_setCell _ _ _ _ hne, Below.heap_setCell _ _ _ _ hne, Below.heap_setCell _ _ _ _ hne, Below.heap_setCell _ _ _ _ hne]
set_option maxHeartbeats 1000000 in
set_option maxRecDepth 20000 in
theorem dec_open (s : ByteArray) (frame plain : Int) (b0 b1 : Int) (b2 : Bool) (b3 b4 b5 b6 b7 : Int) (B : ByteArray) (E : Nat) (w : World) (h0 : ¬ E = 0)
    (CO : Hid (∀ w, Calls Tryz.prog 37 #[.string s, .int .i64 frame, .int .i64 plain] w fun e w' => e = .returned (.tuple #[.agg #[.int .i64 b0, .int .i64 b1, .bool b2, .int .i64 b3, .int .i64 b4, .int .i64 b5, .int .i64 b6, .int .i32 b7], .string B, .int .i64 E]) ∧ Below w.heap.size w w')) :
    Calls Tryz.prog 16 #[.string s, .int .i64 frame, .int .i64 plain] w fun e w' => e = .returned (.tuple #[noBt, .int .i64 0, .int .i64 E]) ∧ Below w.heap.size w w' := by
  unfold noBt
  have h0' : ¬ (E : Int) = 0 := by omega
  go_enter Tryz.func16, Tryz.ntmps16
  go_wp2_with fail
  refine (CO.out _).mono ?_
  rintro e w1 ⟨rfl, b1'⟩
  have X1 := ((Bx1.new w #[.int .i64 0, .bool false, .int .i64 0, .int .i32 0, .slice none 0 0] 24).call b1').alloc (.cells #[.int .i64 b0, .int .i64 b1, .bool b2, .int .i64 b3, .int .i64 b4, .int .i64 b5, .int .i64 b6, .int .i32 b7] 35)
  obtain ⟨r0, r1, r2, r3, r4⟩ := cells5 X1.p
  obtain ⟨z0, z1, z2, z3, z4⟩ := froz5 X1.p
  clear b1'
  go_wp2_with fail
  clear r0 r1 r2 r3 r4 z0 z1 z2 z3 z4
  have P := put5' X1 (.int .i64 0) (.bool false) (.int .i64 0) (.int .i32 0) (.slice none 0 0)
  generalize ((((((w1.alloc (.cells #[.int .i64 b0, .int .i64 b1, .bool b2, .int .i64 b3, .int .i64 b4, .int .i64 b5, .int .i64 b6, .int .i32 b7] 35)).setCell ⟨w.heap.size, 0, none⟩ (.int .i64 0)).setCell ⟨w.heap.size, 1, none⟩ (.bool false)).setCell ⟨w.heap.size, 2, none⟩ (.int .i64 0)).setCell ⟨w.heap.size, 3, none⟩ (.int .i32 0)).setCell ⟨w.heap.size, 4, none⟩ (.slice none 0 0)) = WF at *
  obtain ⟨e0, e1, e2, e3, e4⟩ := cells5 P.p
  exact bodyPost_ret (v := .tuple #[.agg #[.int .i64 0, .bool false, .int .i64 0, .int .i32 0, .slice none 0 0], .int .i64 0, .int .i64 E]) (by simp [results, Tryz.results16, go_sem, e0, e1, e2, e3, e4]) rfl ⟨rfl, P.b⟩
/-- What Decode leaves. -/
def DecPost (R : Except Nat (Fs × List Rec)) (w : World) (r : Ending) (w' : World) : Prop :=
  Below w.heap.size w w' ∧ match R with
    | .error x => r = .returned (.tuple #[noBt, .int .i64 0, .int .i64 x]) ∧ x ≠ 0
    | .ok y => ∃ v l, r = .returned (.tuple #[.agg #[.int .i64 y.1.base, .bool (decide (y.1.st = 1)), .int .i64 y.1.prod, .int .i32 y.1.seq, v], .int .i64 (12 + y.1.len : Nat), .int .i64 0]) ∧ Held w' w.heap.size v l ∧ l.map RI.r = y.2
set_option maxHeartbeats 2000000 in
set_option maxRecDepth 20000 in
theorem dec_rest (s : ByteArray) (frame plain : Int) (b0 : Int) (b1 : Nat) (b2 : Bool) (b3 b4 b5 b6 b7 : Int) (B : ByteArray) (RB : Except Nat (List Rec)) (w : World)
    (CO : Hid (∀ w, Calls Tryz.prog 37 #[.string s, .int .i64 frame, .int .i64 plain] w fun e w' => e = .returned (.tuple #[.agg #[.int .i64 b0, .int .i64 b1, .bool b2, .int .i64 b3, .int .i64 b4, .int .i64 b5, .int .i64 b6, .int .i32 b7], .string B, .int .i64 0]) ∧ Below w.heap.size w w'))
    (CR : Hid (∀ w, Calls Tryz.prog 39 #[.string B, .int .i64 b4, .int .i64 b3] w (RbPost RB w))) :
    Calls Tryz.prog 16 #[.string s, .int .i64 frame, .int .i64 plain] w fun r w' => Below w.heap.size w w' ∧ match RB with
      | .error x => r = .returned (.tuple #[noBt, .int .i64 0, .int .i64 x]) ∧ x ≠ 0
      | .ok y => ∃ v l, r = .returned (.tuple #[.agg #[.int .i64 b0, .bool b2, .int .i64 b6, .int .i32 b7, v], .int .i64 b1, .int .i64 0]) ∧ Held w' w.heap.size v l ∧ l.map RI.r = y := by
  unfold noBt
  cases RB with
  | error x =>
    dsimp only
    go_enter Tryz.func16, Tryz.ntmps16
    go_wp2_with fail
    refine (CO.out _).mono ?_
    rintro e w1 ⟨rfl, b1'⟩
    have HB1 := hid b1'
    have X1 := ((Bx1.new w #[.int .i64 0, .bool false, .int .i64 0, .int .i32 0, .slice none 0 0] 24).call b1').alloc (.cells #[.int .i64 b0, .int .i64 b1, .bool b2, .int .i64 b3, .int .i64 b4, .int .i64 b5, .int .i64 b6, .int .i32 b7] 35)
    have H1 : (w1.alloc (.cells #[.int .i64 b0, .int .i64 b1, .bool b2, .int .i64 b3, .int .i64 b4, .int .i64 b5, .int .i64 b6, .int .i32 b7] 35)).heap[w1.heap.size]? = some (.cells #[.int .i64 b0, .int .i64 b1, .bool b2, .int .i64 b3, .int .i64 b4, .int .i64 b5, .int .i64 b6, .int .i32 b7] 35 (0, 0)) := heap_new _ _
    obtain ⟨W1, hW1⟩ : ∃ x, (w1.alloc (.cells #[.int .i64 b0, .int .i64 b1, .bool b2, .int .i64 b3, .int .i64 b4, .int .i64 b5, .int .i64 b6, .int .i32 b7] 35)) = x := ⟨_, rfl⟩
    rw [hW1] at X1 H1
    obtain ⟨h0, h1, h2, h3, h4, h5, h6, h7⟩ := cells8 H1
    clear b1'
    go_wp2_with fail
    refine (CR.out _).mono ?_
    rintro e w2 ⟨b2', hp⟩
    have X2 := X1.call b2'
    have H2 := keep H1 b2'
    clear h0 h1 h2 h3 h4 h5 h6 h7 H1
    dsimp only at hp
    obtain ⟨rfl, hx⟩ := hp
    have hx' : ¬ (x : Int) = 0 := by omega
    obtain ⟨r0, r1, r2, r3, r4⟩ := cells5 X2.p
    obtain ⟨z0, z1, z2, z3, z4⟩ := froz5 X2.p
    clear H2
    go_wp2_with fail
    clear r0 r1 r2 r3 r4 z0 z1 z2 z3 z4
    have P := put5' X2 (.int .i64 0) (.bool false) (.int .i64 0) (.int .i32 0) (.slice none 0 0)
    generalize (((((w2.setCell ⟨w.heap.size, 0, none⟩ (.int .i64 0)).setCell ⟨w.heap.size, 1, none⟩ (.bool false)).setCell ⟨w.heap.size, 2, none⟩ (.int .i64 0)).setCell ⟨w.heap.size, 3, none⟩ (.int .i32 0)).setCell ⟨w.heap.size, 4, none⟩ (.slice none 0 0)) = WF at *
    obtain ⟨e0, e1, e2, e3, e4⟩ := cells5 P.p
    exact bodyPost_ret (v := .tuple #[.agg #[.int .i64 0, .bool false, .int .i64 0, .int .i32 0, .slice none 0 0], .int .i64 0, .int .i64 x]) (by simp [results, Tryz.results16, go_sem, e0, e1, e2, e3, e4]) rfl ⟨P.b, rfl, hx⟩
  | ok y =>
    dsimp only
    go_enter Tryz.func16, Tryz.ntmps16
    go_wp2_with fail
    refine (CO.out _).mono ?_
    rintro e w1 ⟨rfl, b1'⟩
    have HB1 := hid b1'
    have X1 := ((Bx1.new w #[.int .i64 0, .bool false, .int .i64 0, .int .i32 0, .slice none 0 0] 24).call b1').alloc (.cells #[.int .i64 b0, .int .i64 b1, .bool b2, .int .i64 b3, .int .i64 b4, .int .i64 b5, .int .i64 b6, .int .i32 b7] 35)
    have H1 : (w1.alloc (.cells #[.int .i64 b0, .int .i64 b1, .bool b2, .int .i64 b3, .int .i64 b4, .int .i64 b5, .int .i64 b6, .int .i32 b7] 35)).heap[w1.heap.size]? = some (.cells #[.int .i64 b0, .int .i64 b1, .bool b2, .int .i64 b3, .int .i64 b4, .int .i64 b5, .int .i64 b6, .int .i32 b7] 35 (0, 0)) := heap_new _ _
    obtain ⟨W1, hW1⟩ : ∃ x, (w1.alloc (.cells #[.int .i64 b0, .int .i64 b1, .bool b2, .int .i64 b3, .int .i64 b4, .int .i64 b5, .int .i64 b6, .int .i32 b7] 35)) = x := ⟨_, rfl⟩
    rw [hW1] at X1 H1
    obtain ⟨h0, h1, h2, h3, h4, h5, h6, h7⟩ := cells8 H1
    clear b1'
    go_wp2_with fail
    refine (CR.out _).mono ?_
    rintro e w2 ⟨b2', hp⟩
    have X2 := X1.call b2'
    have H2 := keep H1 b2'
    clear h0 h1 h2 h3 h4 h5 h6 h7 H1
    dsimp only at hp
    obtain ⟨v, l, rfl, hH, hl⟩ := hp
    obtain ⟨va, vc, rfl, hV⟩ := hH.slice
    have HK := hid (held_put5 (hH.lower (Nat.le_of_lt (lt_of_heap X1.p))) X2.p (by decide) (by decide) (.int .i64 b0) (.bool b2) (.int .i64 b6) (.int .i32 b7) (.slice va l.length vc))
    obtain ⟨r0, r1, r2, r3, r4⟩ := cells5 X2.p
    obtain ⟨z0, z1, z2, z3, z4⟩ := froz5 X2.p
    have hne : w1.heap.size ≠ w.heap.size := by have := lt_of_heap X1.p; have := lt_of_heap ((Bx1.new w #[.int .i64 0, .bool false, .int .i64 0, .int .i32 0, .slice none 0 0] 24).call HB1.out).p; omega
    clear hH X1 hW1 hV
    go_wp2_with fail
    go_region_held3 (fun x => x.cell? ⟨w1.heap.size, 0, none⟩ = some (.int .i64 b0) ∧ x.cell? ⟨w1.heap.size, 1, none⟩ = some (.int .i64 b1) ∧ x.cell? ⟨w1.heap.size, 2, none⟩ = some (.bool b2) ∧ x.cell? ⟨w1.heap.size, 3, none⟩ = some (.int .i64 b3) ∧ x.cell? ⟨w1.heap.size, 4, none⟩ = some (.int .i64 b4) ∧ x.cell? ⟨w1.heap.size, 5, none⟩ = some (.int .i64 b5) ∧ x.cell? ⟨w1.heap.size, 6, none⟩ = some (.int .i64 b6) ∧ x.cell? ⟨w1.heap.size, 7, none⟩ = some (.int .i32 b7)) (first | with_reducible exact cells8 H2 | with_reducible exact cells8 (World.drew_heap H2) | with_reducible exact cells8 (store5f H2 hne) | with_reducible exact cells8 (World.drew_heap (store5f H2 hne))) ((fail))
    have P := put5' X2 (.int .i64 b0) (.bool b2) (.int .i64 b6) (.int .i32 b7) (.slice va l.length vc)
    have hK := HK.out
    clear r0 r1 r2 r3 r4 z0 z1 z2 z3 z4 HK H2 X2
    generalize (((((w2.setCell ⟨w.heap.size, 0, none⟩ (.int .i64 b0)).setCell ⟨w.heap.size, 1, none⟩ (.bool b2)).setCell ⟨w.heap.size, 2, none⟩ (.int .i64 b6)).setCell ⟨w.heap.size, 3, none⟩ (.int .i32 b7)).setCell ⟨w.heap.size, 4, none⟩ (.slice va l.length vc)) = WF at *
    have PD := P.drew
    have hKD : Held WF.drew w.heap.size (.slice va l.length vc) l := hK.kept (fun _ _ _ => rfl)
    clear P hK
    generalize WF.drew = WG at *
    obtain ⟨e0, e1, e2, e3, e4⟩ := cells5 PD.p
    go_wp2_with fail
    exact bodyPost_ret (v := .tuple #[.agg #[.int .i64 b0, .bool b2, .int .i64 b6, .int .i32 b7, .slice va l.length vc], .int .i64 b1, .int .i64 0]) (by simp [results, Tryz.results16, go_sem, e0, e1, e2, e3, e4]) rfl ⟨PD.b, .slice va l.length vc, l, rfl, hKD, hl⟩
theorem decode_any (s : ByteArray) (frame plain : Int) (w : World) (hs : s.size ≤ 9223372036854775807) :
    Calls Tryz.prog 16 #[.string s, .int .i64 frame, .int .i64 plain] w (DecPost (dcd s frame plain) w) := by
  have co := fun w => open_any s frame plain w hs
  unfold OpnV at co
  unfold dcd
  cases h : opn s frame plain with
  | error x =>
    rw [h] at co
    dsimp only at co ⊢
    unfold noHd at co
    have hx : ¬ x = 0 := opn_err h
    exact (dec_open s frame plain 0 0 false 0 0 0 0 0 ⟨#[]⟩ x w hx (hid co)).mono fun e w' h => ⟨h.2, h.1, hx⟩
  | ok y =>
    obtain ⟨f, b⟩ := y
    rw [h] at co
    dsimp only at co ⊢
    unfold hdV at co
    have hf : I64 f.first := opn_first h
    have cr := fun w => rbody_any b f.first f.cnt w hf
    cases hr : rbd b f.first f.cnt with
    | error x =>
      rw [hr] at cr
      exact dec_rest s frame plain f.base (12 + f.len) (decide (f.st = 1)) f.cnt f.first f.grt f.prod f.seq b (.error x) w (hid co) (hid cr)
    | ok L =>
      rw [hr] at cr
      exact dec_rest s frame plain f.base (12 + f.len) (decide (f.st = 1)) f.cnt f.first f.grt f.prod f.seq b (.ok L) w (hid co) (hid cr)
end Go.Proofs.YtihokphamgkkcaaGreat
namespace Go.Proofs.YtihokphamgkkcaaGreat
open Go.RowKit
theorem same_cl (x y : RI) (w : World) (V1 : Hds w x.a x.r.hs) (V2 : Hds w y.a y.r.hs) (hz : x.r.hs.length ≤ 9223372036854775807) (hc : cln x.r = cln y.r) :
    Calls Tryz.prog 43 #[.agg #[.int .i64 x.r.t, .bool x.r.kh, .string x.r.kd, .bool x.r.vh, .string x.r.vd, .slice x.a x.r.hs.length x.cap], .agg #[.int .i64 y.r.t, .bool y.r.kh, .string y.r.kd, .bool y.r.vh, .string y.r.vd, .slice y.a y.r.hs.length y.cap]] w fun e w' => e = .returned (.bool true) ∧ Below w.heap.size w w' := by
  obtain ⟨⟨t, kh, kd, vh, vd, hs⟩, a1, c1⟩ := x
  obtain ⟨⟨t2, kh2, kd2, vh2, vd2, hs2⟩, a2, c2⟩ := y
  unfold cln at hc
  dsimp only at *
  injection hc with e1 e2 e3 e4 e5 e6
  subst e1 e2 e4
  have hl : hs2.length = hs.length := by have := congrArg List.length e6; simpa using this.symm
  rw [hl]
  refine same_yes t kh vh kd kd2 vd vd2 hs hs2 a1 a2 c1 c2 w V1 V2 hz e3.symm e5.symm hl (fun j hj => ?_)
  have e := congrArg (fun l => l[j]?) e6
  rw [List.getElem?_map, List.getElem?_map, List.getElem?_eq_getElem hj, List.getElem?_eq_getElem (by omega)] at e
  simp only [Option.map_some] at e
  injection e with e
  injection e with f1 f2
  injection f2 with f2 f3
  rw [List.getD_eq_getElem?_getD, List.getD_eq_getElem?_getD, List.getElem?_eq_getElem hj, List.getElem?_eq_getElem (by omega)]
  exact ⟨f1.symm, f2.symm, f3.symm⟩
set_option maxHeartbeats 2000000 in
set_option maxRecDepth 20000 in
theorem eqf_yes (l m : List RI) (a1 a2 : Option Addr) (cap1 cap2 : Nat) (w : World) (V1 : Rcs w a1 l) (V2 : Rcs w a2 m) (hc : l.map (fun x => cln x.r) = m.map (fun x => cln x.r)) (hL : l.length ≤ 9223372036854775806) (hz : ∀ x ∈ l, x.r.hs.length ≤ 9223372036854775807) :
    Calls Tryz.prog 42 #[.slice a1 l.length cap1, .slice a2 m.length cap2, .func (.func 43) #[] #[]] w fun e w' => e = .returned (.bool true) ∧ Below w.heap.size w w' := by
  have hlm : m.length = l.length := by have := congrArg List.length hc; simpa using this.symm
  rw [hlm]
  rcases id V1.2 with h | ⟨b1, o1, rfl, hb1, c1⟩
  · subst h
    go_enter Tryz.func42, Tryz.ntmps42
    go_wp2_with fail
    go_loopg [17] 0 (fun _ i wr => i = .int .i64 0 ∧ wr = w)
    case atStart => exact ⟨rfl, rfl⟩
    case round =>
      obtain ⟨rfl, rfl⟩ := hrel
      go_wp2_with fail
      go_ret
      exact ⟨rfl, Below.refl _ _⟩
  rcases id V2.2 with h | ⟨b2, o2, rfl, hb2, c2⟩
  · have hl0 : l = [] := List.eq_nil_of_length_eq_zero (by rw [← hlm, h]; rfl)
    subst hl0
    go_enter Tryz.func42, Tryz.ntmps42
    go_wp2_with fail
    go_loopg [17] 0 (fun _ i wr => i = .int .i64 0 ∧ wr = w)
    case atStart => exact ⟨rfl, rfl⟩
    case round =>
      obtain ⟨rfl, rfl⟩ := hrel
      go_wp2_with fail
      go_ret
      exact ⟨rfl, Below.refl _ _⟩
  go_enter Tryz.func42, Tryz.ntmps42
  go_wp2_with fail
  go_loopg [17] l.length (fun k i wr => ∃ j : Nat, j + k = l.length ∧ i = .int .i64 j ∧ Hid (Below w.heap.size w wr))
  case atStart => exact ⟨0, by omega, rfl, Below.refl _ _⟩
  case round =>
    obtain ⟨j, hk, rfl, HB⟩ := hrel
    by_cases hlt : j < l.length
    · obtain ⟨k, rfl⟩ : ∃ k, gk = k + 1 := ⟨gk - 1, by omega⟩
      obtain ⟨p0, p1, p2, p3, p4, p5⟩ := (c1 j hlt).below hb1 HB.out
      have HBA := fun o => HB.out.alloc HB.out.size o
      have SQ := fun o => (c2 j (by omega)).below hb2 (HBA o)
      have hcj : cln (l.getD j dri).r = cln (m.getD j dri).r := by
        have e := congrArg (fun l => l[j]?) hc
        simp only [List.getElem?_map] at e
        rw [List.getElem?_eq_getElem hlt, List.getElem?_eq_getElem (by omega)] at e
        rw [List.getD_eq_getElem?_getD, List.getD_eq_getElem?_getD, List.getElem?_eq_getElem hlt, List.getElem?_eq_getElem (by omega)]
        injection e
      have CE : Hid (∀ x, Below w.heap.size w x → Calls Tryz.prog 43 _ x _) := fun x hx => same_cl (l.getD j dri) (m.getD j dri) x ((V1.1 _ (riD_mem hlt)).below hx) ((V2.1 _ (riD_mem (by omega))).below hx) (hz _ (riD_mem hlt)) hcj
      have i1 : (0 : Int) ≤ (j : Int) := by omega
      have i2 : (j : Int) < l.length := by omega
      have hj63 : j < 9223372036854775806 := by omega
      clear hcj
      generalize l.getD j dri = x at *
      generalize m.getD j dri = y at *
      obtain ⟨⟨t, kh, kd, vh, vd, hs⟩, xa, xc⟩ := x
      obtain ⟨⟨t2, kh2, kd2, vh2, vd2, hs2⟩, ya, yc⟩ := y
      dsimp only at *
      obtain ⟨q0, q1, q2, q3, q4, q5⟩ := SQ (.cells #[.int .i64 t, .bool kh, .string kd, .bool vh, .string vd, .slice xa hs.length xc] 49)
      have HB2 := hid (((HBA (.cells #[.int .i64 t, .bool kh, .string kd, .bool vh, .string vd, .slice xa hs.length xc] 49)).alloc (HBA _).size (.cells #[.int .i64 t2, .bool kh2, .string kd2, .bool vh2, .string vd2, .slice ya hs2.length yc] 49)))
      clear SQ HBA
      dsimp only at q0 q1 q2 q3 q4 q5
      go_wp2_with fail
      refine (CE.out _ HB2.out).mono ?_
      rintro e w3 ⟨rfl, b3⟩
      have HB3 := hid (HB2.out.trans (b3.mono HB2.out.size))
      clear b3
      go_wp2_with fail
      go_roundg k
      case measure => omega
      case rel => exact ⟨j + 1, by omega, by go_num, HB3.out⟩
    · have hj : j = l.length := by omega
      subst hj
      go_wp2_with fail
      go_ret
      exact ⟨rfl, HB.out⟩
/-- Two batches say the same. -/
def SayB (a b : Bt) : Prop := a.base = b.base ∧ a.pk = b.pk ∧ a.prod = b.prod ∧ a.seq = b.seq ∧ a.l.map (fun x => cln x.r) = b.l.map (fun x => cln x.r)
set_option maxHeartbeats 2000000 in
set_option maxRecDepth 20000 in
theorem sayB_yes (a b : Bt) (w : World) (V1 : Rcs w a.a a.l) (V2 : Rcs w b.a b.l) (h : SayB a b) (hL : a.l.length ≤ 9223372036854775806) (hz : ∀ x ∈ a.l, x.r.hs.length ≤ 9223372036854775807) :
    Calls Tryz.prog 20 #[btV a, btV b] w fun e w' => e = .returned (.bool true) ∧ Below w.heap.size w w' := by
  obtain ⟨e1, e2, e3, e4, e5⟩ := h
  have ce := fun w V1 V2 => eqf_yes a.l b.l a.a b.a a.cap b.cap w V1 V2 e5 hL hz
  obtain ⟨base, pk, prod, seq, l, a1, c1⟩ := a
  obtain ⟨base2, pk2, prod2, seq2, m, a2, c2⟩ := b
  dsimp only at *
  subst e1 e2 e3 e4
  unfold btV btA
  dsimp only
  go_enter Tryz.func20, Tryz.ntmps20
  have CE := hid ce
  clear ce
  go_wp2_with fail
  have hb : Below w.heap.size w ((w.alloc (.cells #[.int .i64 base, .bool pk, .int .i64 prod, .int .i32 seq, .slice a1 l.length c1] 24)).alloc (.cells #[.int .i64 base, .bool pk, .int .i64 prod, .int .i32 seq, .slice a2 m.length c2] 24)) := ((Below.refl _ _).alloc (Nat.le_refl _) _).alloc (by simp) _
  refine (CE.out _ (V1.below hb) (V2.below hb)).mono ?_
  rintro e w3 ⟨rfl, b3⟩
  have HB3 := hid (hb.trans (b3.mono hb.size))
  clear b3 hb
  go_wp2_with fail
  go_ret
  exact ⟨rfl, HB3.out⟩
end Go.Proofs.YtihokphamgkkcaaGreat
namespace Go.Proofs.YtihokphamgkkcaaGreat
open Go.RowKit
set_option maxHeartbeats 1000000 in
set_option maxRecDepth 20000 in
theorem sample_any (w : World) : Calls Tryz.prog 23 #[] w fun e w' => ∃ a cap, e = .returned (btV (bt5 a cap)) ∧ Rcs w' a [rec5] ∧ Below w.heap.size w w' := by
  go_enter Tryz.func23, Tryz.ntmps23
  go_wp2_with fail
  have hb : Below w.heap.size w ((w.alloc (.cells #[.int .i64 3, .bool false, .int .i64 (-1), .int .i32 (-1), .slice (some ⟨w.heap.size + 1, 0, none⟩) 1 1] 24)).alloc (.cells #[.int .i64 5, .bool false, .string ⟨#[]⟩, .bool false, .string ⟨#[]⟩, .slice none 0 0] 49)) := ((Below.refl _ _).alloc (Nat.le_refl _) _).alloc (by simp) _
  have hn : ((w.alloc (.cells #[.int .i64 3, .bool false, .int .i64 (-1), .int .i32 (-1), .slice (some ⟨w.heap.size + 1, 0, none⟩) 1 1] 24)).alloc (.cells #[.int .i64 5, .bool false, .string ⟨#[]⟩, .bool false, .string ⟨#[]⟩, .slice none 0 0] 49)).heap[w.heap.size + 1]? = some (.cells #[.int .i64 5, .bool false, .string ⟨#[]⟩, .bool false, .string ⟨#[]⟩, .slice none 0 0] 49 (0, 0)) := heap_new' _ _ _ (by simp)
  refine bodyPost_ret (v := .agg #[.int .i64 3, .bool false, .int .i64 (-1), .int .i32 (-1), .slice (some ⟨w.heap.size + 1, 0, none⟩) 1 1]) (by simp [results, Tryz.results23, go_sem]) rfl ⟨some ⟨w.heap.size + 1, 0, none⟩, 1, rfl, ⟨?_, Or.inr ⟨w.heap.size + 1, 0, rfl, lt_of_heap hn, ?_⟩⟩, hb⟩
  · intro x hx
    rw [show x = rec5 from List.mem_singleton.1 hx]
    exact Or.inl rfl
  · intro j hj
    have : j = 0 := by (have : j < 1 := hj); omega
    subst this
    exact ⟨(cell_of hn).trans rfl, (cell_of hn).trans rfl, (cell_of hn).trans rfl, (cell_of hn).trans rfl, (cell_of hn).trans rfl, (cell_of hn).trans rfl⟩
theorem body5_P : BodyP [rec5] 0 body5 := by
  refine ⟨Or.inr ⟨by decide, Or.inr ⟨?_, by rfl⟩⟩, fun h => absurd rfl h, fun _ => rfl⟩
  intro i hi
  have h0 : i = 0 := by (have : i < 1 := hi); omega
  subst h0
  show sze rec5.r 5 0 = 0
  decide
/-- The example's frame. -/
def F5 : Fs := ⟨3, 46, 71, 0, 0, 1, 5, 5, -1, -1⟩
def s5 : ByteArray := frm F5 body5
def h5 : Fs := { F5 with sum := smo F5 body5 }
theorem fsB5 (a : Option Addr) (cap : Nat) : fsB (bt5 a cap) 7 = F5 := by rfl
theorem s5_size : s5.size = 58 := by unfold s5; rw [frm_size]; rfl
theorem s5_body : s5.extract 51 58 = body5 := by
  have := frm_body F5 body5 ⟨#[]⟩
  rw [app_emp] at this
  exact this
theorem opn5 (more : ByteArray) : opn (s5 ++ more) 58 7 = .ok (h5, body5) := by
  have hB := body5_P
  exact opn_frame (b := bt5 none 0) (S := body5) (bt5_ok _ _) rfl hB (by decide) more 58 7 (by decide) (by decide)
theorem opn5' : opn s5 58 7 = .ok (h5, body5) := by have := opn5 ⟨#[]⟩; rwa [app_emp] at this
theorem dcd5 : dcd s5 58 7 = .ok (h5, [rec5.r]) := by
  unfold dcd
  rw [opn5']
  dsimp only
  have : rbd body5 h5.first h5.cnt = .ok [rec5.r] := (body_back (bt5_ok none 0).t (bt5_ok none 0).m body5_P).2.2.2.2.1
  rw [this]
theorem opn5c : opn (s5.extract 0 57) 58 7 = .error 20 := by
  have hB := body5_P
  exact opn_cut (b := bt5 none 0) (T := body5) (bt5_ok _ _) (StoP.ok (b := bt5 none 0) body5 rfl hB (by decide)) 57 (by omega) (by decide) 58 7 (by decide)
theorem h5_right : Right h5 := (frm_right (b := bt5 none 0) (T := body5) (bt5_ok _ _) (StoP.ok (b := bt5 none 0) body5 rfl body5_P (by decide))).1
end Go.Proofs.YtihokphamgkkcaaGreat
