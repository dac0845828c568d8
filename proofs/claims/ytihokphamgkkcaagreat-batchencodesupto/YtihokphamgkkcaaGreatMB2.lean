/- Texts of the proof, put together: Bcm, Bwh, Bun, Bcb. -/
import Derived.Test.YtihokphamgkkcaaGreatMB1
import Derived.Test.YtihokphamgkkcaaGreatMRd
import Derived.Test.YtihokphamgkkcaaGreatML1
import Derived.Test.YtihokphamgkkcaaGreatMK
import Derived.Test.YtihokphamgkkcaaGreatML2
import Derived.Test.YtihokphamgkkcaaGreatRmB
import Derived.Deep.LoopGhost
import Derived.Deep.QuietTactic
import Derived.BigQuiet
namespace Go.Proofs.YtihokphamgkkcaaGreat
open Go.RowKit
/-- The sum of a text. -/
def crcOf (s : ByteArray) : Nat := K.M.more 0 s.data.toList
/-- The records' bytes, out of what stands behind a head. -/
def bod (t : ByteArray) (st : Nat) (most : Int) : Except Nat ByteArray :=
  if st = 1 then (if t.size < 4 then .error 25 else if most < num t 0 4 then .error 66 else match Lz.M.un (num t 0 4) (t.extract 4 t.size).data.toList [] with
    | .error _ => .error 25
    | .ok F => .ok (Lz.ba F))
  else if most < t.size then .error 66 else .ok t
/-- The first j records, where rd says what is read at a place. -/
def crunG (rd : Nat → Nat → Except Nat (Rec × Nat)) : Nat → Except Nat (List Rec × Nat)
  | 0 => .ok ([], 0)
  | j + 1 => match crunG rd j with
    | .error e => .error e
    | .ok (l, k) => match rd k j with
      | .error e => .error e
      | .ok (r, d) => .ok (l ++ [r], k + d)
theorem crunG_err {rd : Nat → Nat → Except Nat (Rec × Nat)} {e j : Nat} (h : crunG rd j = .error e) : ∀ m, crunG rd (j + m) = .error e
  | 0 => h
  | m + 1 => by
    have ih := crunG_err h m
    show (match crunG rd (j + m) with | .error e => _ | .ok (l, k) => _) = _
    rw [ih]
theorem crunG_no {rd : Nat → Nat → Except Nat (Rec × Nat)} {e j : Nat} {l : List Rec} {k : Nat} (h : crunG rd j = .ok (l, k)) (h2 : rd k j = .error e) : crunG rd (j + 1) = .error e := by
  show (match crunG rd j with | .error e => _ | .ok (l, k) => _) = _
  rw [h]; dsimp only; rw [h2]
theorem crunG_yes {rd : Nat → Nat → Except Nat (Rec × Nat)} {j : Nat} {l : List Rec} {k d : Nat} {r : Rec} (h : crunG rd j = .ok (l, k)) (h2 : rd k j = .ok (r, d)) : crunG rd (j + 1) = .ok (l ++ [r], k + d) := by
  show (match crunG rd j with | .error e => _ | .ok (l, k) => _) = _
  rw [h]; dsimp only; rw [h2]
def crun (s : ByteArray) (first : Int) (j : Nat) : Except Nat (List Rec × Nat) := crunG (fun k j => rd5 (s.extract k s.size) first j) j
theorem crun_zero (s : ByteArray) (first : Int) : crun s first 0 = .ok ([], 0) := rfl
theorem crun_err {s : ByteArray} {first : Int} {e j : Nat} (h : crun s first j = .error e) (m : Nat) : crun s first (j + m) = .error e := crunG_err h m
theorem crun_no {s : ByteArray} {first : Int} {e j : Nat} {l : List Rec} {k : Nat} (h : crun s first j = .ok (l, k)) (h2 : rd5 (s.extract k s.size) first j = .error e) : crun s first (j + 1) = .error e := crunG_no h h2
theorem crun_yes {s : ByteArray} {first : Int} {j : Nat} {l : List Rec} {k d : Nat} {r : Rec} (h : crun s first j = .ok (l, k)) (h2 : rd5 (s.extract k s.size) first j = .ok (r, d)) : crun s first (j + 1) = .ok (l ++ [r], k + d) := crunG_yes h h2
/-- The first record's time, and the greatest. -/
def ft (l : List Rec) : Int := match l with
  | [] => 0
  | r :: _ => r.t
def gr (l : List Rec) : Int := match l with
  | [] => 0
  | r :: m => m.foldl (fun x y => max x y.t) r.t
theorem gr_one (r : Rec) : gr [r] = r.t := rfl
theorem gr_snoc {l : List Rec} (r : Rec) (h : l ≠ []) : gr (l ++ [r]) = max (gr l) r.t := by
  cases l with
  | nil => exact absurd rfl h
  | cons a m => simp [gr, List.foldl_append]
theorem ft_snoc {l : List Rec} (r : Rec) (h : l ≠ []) : ft (l ++ [r]) = ft l := by
  cases l with
  | nil => exact absurd rfl h
  | cons a m => rfl
/-- What is wrong with the records' bytes, or 0. -/
def cbe (s : ByteArray) (f : Fs) : Nat := match crun s f.first f.cnt with
  | .error e => e
  | .ok (l, k) => if k < s.size then 22 else if ft l ≠ f.first ∨ gr l ≠ f.grt then 28 else 0
theorem cbe_err {s : ByteArray} {f : Fs} {e : Nat} (h : crun s f.first f.cnt = .error e) : cbe s f = e := by unfold cbe; rw [h]
theorem cbe_ok {s : ByteArray} {f : Fs} {l : List Rec} {k : Nat} (h : crun s f.first f.cnt = .ok (l, k)) : cbe s f = if k < s.size then 22 else if ft l ≠ f.first ∨ gr l ≠ f.grt then 28 else 0 := by unfold cbe; rw [h]
/-- What is wrong with a frame's bytes as such, or 0. -/
def whe (s : ByteArray) (f : Fs) (most : Int) : Nat := if most < (12 + f.len : Nat) then 66 else if s.size < 12 + f.len then 20 else if crcOf (s.extract 17 (12 + f.len)) ≠ f.sum then 24 else 0
/-- The right frame that bytes begin with. -/
def opn (s : ByteArray) (frame plain : Int) : Except Nat (Fs × ByteArray) :=
  if pke s ≠ 0 then .error (pke s) else if whe s (fsOf s) (wth frame 58 16777216) ≠ 0 then .error (whe s (fsOf s) (wth frame 58 16777216))
  else match bod (s.extract 51 (12 + (fsOf s).len)) (fsOf s).st (wth plain 7 16777216) with
    | .error e => .error e
    | .ok b => if cbe b (fsOf s) ≠ 0 then .error (cbe b (fsOf s)) else .ok (fsOf s, b)
end Go.Proofs.YtihokphamgkkcaaGreat
namespace Go.Proofs.YtihokphamgkkcaaGreat
open Go.RowKit
/-- A box that came in; below it nothing has turned. -/
structure Bx1 (w : World) (b : Array Value) (T : TypeId) (x : World) : Prop where
  p : x.heap[w.heap.size]? = some (.cells b T (0, 0))
  b : Below w.heap.size w x
theorem Bx1.drew {w : World} {b : Array Value} {T : TypeId} {x : World} (h : Bx1 w b T x) : Bx1 w b T x.drew := ⟨h.p, h.b.drew⟩
theorem Bx1.new (w : World) (b : Array Value) (T : TypeId) : Bx1 w b T (w.alloc (.cells b T)) := ⟨heap_new _ _, (Below.refl _ _).alloc (Nat.le_refl _) _⟩
theorem Bx1.call {w : World} {b : Array Value} {T : TypeId} {x x' : World} (h : Bx1 w b T x) (k : Below x.heap.size x x') : Bx1 w b T x' :=
  ⟨(k.block _ (lt_of_heap h.p)).trans h.p, h.b.trans (k.mono h.b.size)⟩
theorem Bx1.cell {w : World} {b : Array Value} {T : TypeId} {x : World} (h : Bx1 w b T x) (i : Nat) : x.cell? ⟨w.heap.size, i, none⟩ = b[i]? := cell_of h.p
theorem crc_any (s : ByteArray) (w : World) (hs : s.size ≤ 9223372036854775807) : Calls Tryz.prog 51 #[.string s] w fun e w' => e = .returned (.int .u32 (crcOf s : Nat)) ∧ Below w.heap.size w w' := K.sum_any s w hs
set_option maxHeartbeats 1000000 in
set_option maxRecDepth 20000 in
theorem checkWhole_any (s : ByteArray) (f : Fs) (most : Int) (w : World) (hf : FsOk f) (hl : 46 ≤ f.len) :
    Calls Tryz.prog 68 #[.string s, fsV f, .int .i64 most] w fun e w' => e = .returned (.int .i64 (whe s f most)) ∧ Below w.heap.size w w' := by
  have cs := fun w => b6size_any f w hf
  have h1 := hf.len
  clear hf
  unfold whe
  unfold fsV fsA at *
  obtain ⟨base, len, mark, sum, st, cnt, first, grt, prod, seq⟩ := f
  dsimp only at *
  have hL : ∃ L, 12 + len = L := ⟨_, rfl⟩
  obtain ⟨L, hL⟩ := hL
  have hL2 : L ≤ 4294967400 := by omega
  have hL3 : 58 ≤ L := by omega
  rw [hL] at cs ⊢
  have CS := hid cs
  clear cs
  by_cases hm : most < (L : Int)
  · rw [if_pos hm]
    go_enter Tryz.func68, Tryz.ntmps68
    go_wp2_with (go_at_call 67; refine (CS.out _).mono ?_; rintro e w1 ⟨rfl, b1⟩)
    go_ret
    exact ⟨rfl, ((Below.refl _ _).alloc (Nat.le_refl _) _).trans (b1.mono (by simp))⟩
  · rw [if_neg hm]
    have hm' : (L : Int) ≤ most := by omega
    by_cases hz : s.size < L
    · rw [if_pos hz]
      have d2 : (s.size : Int) < L := by omega
      go_enter Tryz.func68, Tryz.ntmps68
      go_wp2_with (go_at_call 67; refine (CS.out _).mono ?_; rintro e w1 ⟨rfl, b1⟩)
      go_ret
      exact ⟨rfl, ((Below.refl _ _).alloc (Nat.le_refl _) _).trans (b1.mono (by simp))⟩
    · rw [if_neg hz]
      have d2 : (L : Int) ≤ s.size := by omega
      have d3 : (17 : Int) ≤ L := by omega
      have cc := fun w => crc_any (s.extract 17 L) w (by rw [ByteArray.size_extract]; omega)
      generalize crcOf (s.extract 17 L) = C at *
      have CC : Hid (∀ x, Bx1 w #[.int .i64 base, .int .u32 len, .int .u8 mark, .int .u32 sum, .int .u16 st, .int .u32 cnt, .int .i64 first, .int .i64 grt, .int .i64 prod, .int .i32 seq] 59 x → Calls Tryz.prog 51 #[.string (s.extract 17 L)] x fun e w' => e = .returned (.int .u32 C) ∧ Bx1 w #[.int .i64 base, .int .u32 len, .int .u8 mark, .int .u32 sum, .int .u16 st, .int .u32 cnt, .int .i64 first, .int .i64 grt, .int .i64 prod, .int .i32 seq] 59 w') := fun x hx => (cc x).mono fun e w' h => ⟨h.1, hx.call h.2⟩
      clear cc
      by_cases hC : C = sum
      · rw [if_neg (by simpa using hC)]
        have hC' : ((C : Int) != (sum : Int)) = false := by simp [hC]
        go_enter Tryz.func68, Tryz.ntmps68
        go_wp2_with fail
        refine (CS.out _).mono ?_
        rintro e w1 ⟨rfl, b1⟩
        have P := (Bx1.new w #[.int .i64 base, .int .u32 len, .int .u8 mark, .int .u32 sum, .int .u16 st, .int .u32 cnt, .int .i64 first, .int .i64 grt, .int .i64 prod, .int .i32 seq] 59).call b1
        clear b1 CS
        go_wp2_with fail
        go_region_held3 (fun x => x.cell? ⟨w.heap.size, 3, none⟩ = some (.int .u32 sum)) (first | with_reducible exact (cells10' P.p).2.2.2.1 | with_reducible exact (cells10' P.drew.p).2.2.2.1 | with_reducible exact (cells10' (Bx1.p (by assumption))).2.2.2.1) (first | (go_at_call 51; with_reducible refine (CC.out _ ?_).mono ?_; (first | exact P.drew | exact P); rintro e w2 ⟨rfl, hk⟩))
        go_wp2_with fail
        go_ret
        exact ⟨rfl, Bx1.b (by assumption)⟩
      · rw [if_pos hC]
        have hC' : ((C : Int) != (sum : Int)) = true := by simp; omega
        go_enter Tryz.func68, Tryz.ntmps68
        go_wp2_with fail
        refine (CS.out _).mono ?_
        rintro e w1 ⟨rfl, b1⟩
        have P := (Bx1.new w #[.int .i64 base, .int .u32 len, .int .u8 mark, .int .u32 sum, .int .u16 st, .int .u32 cnt, .int .i64 first, .int .i64 grt, .int .i64 prod, .int .i32 seq] 59).call b1
        clear b1 CS
        go_wp2_with fail
        go_region_held3 (fun x => x.cell? ⟨w.heap.size, 3, none⟩ = some (.int .u32 sum)) (first | with_reducible exact (cells10' P.p).2.2.2.1 | with_reducible exact (cells10' P.drew.p).2.2.2.1 | with_reducible exact (cells10' (Bx1.p (by assumption))).2.2.2.1) (first | (go_at_call 51; with_reducible refine (CC.out _ ?_).mono ?_; (first | exact P.drew | exact P); rintro e w2 ⟨rfl, hk⟩))
        go_wp2_with fail
        go_ret
        exact ⟨rfl, Bx1.b (by assumption)⟩
end Go.Proofs.YtihokphamgkkcaaGreat
namespace Go.Proofs.YtihokphamgkkcaaGreat
open Go.RowKit
/-- What bodyOf answers. -/
def BodV (R : Except Nat ByteArray) : Value := match R with
  | .error x => .tuple #[.string ⟨#[]⟩, .int .i64 x]
  | .ok b => .tuple #[.string b, .int .i64 0]
theorem unZ_val (p : List UInt8) (z : Nat) (m : Int) (h : (z : Int) ≤ m) : Lz.unZ p z m = match Lz.M.un z p [] with
    | .error k => .tuple #[.string ⟨#[]⟩, .int .i64 (k : Nat)]
    | .ok F => .tuple #[.string (Lz.ba F), .int .i64 0] := by
  unfold Lz.unZ
  rw [if_neg (by omega), Int.toNat_natCast]
  cases Lz.M.un z p [] <;> rfl
set_option maxHeartbeats 1000000 in
set_option maxRecDepth 20000 in
theorem unpack6_any (t : ByteArray) (most : Int) (w : World) (h0 : 0 ≤ most) (hm : most ≤ 16777216) (hs : t.size ≤ 9223372036854775807) :
    Calls Tryz.prog 108 #[.string t, .int .i64 most] w fun e w' => e = .returned (BodV (bod t 1 most)) ∧ Below w.heap.size w w' := by
  unfold bod
  rw [if_pos rfl]
  have CN := hid (fun w => newreader_any t w)
  by_cases h4 : t.size < 4
  · rw [if_pos h4]
    have cu := fun x (hx : Rd x w.heap.size t 0 0) => u32_any w.heap.size t 0 0 x hx (Nat.zero_le _) hs
    rw [fx_short (by omega)] at cu
    have CU := hid cu
    clear cu
    go_enter Tryz.func108, Tryz.ntmps108
    go_wp2_with (go_at_call 102; refine (CN.out _).mono ?_; rintro e w' ⟨rfl, rfl⟩)
    have hr : Rd (w.alloc (.cells #[.int .i64 0, .string t, .int .i64 0] 172)) w.heap.size t 0 0 := heap_new _ _
    have hb := (Below.refl w.heap.size w).alloc (Nat.le_refl _) (.cells #[.int .i64 0, .string t, .int .i64 0] 172)
    generalize w.alloc (.cells #[.int .i64 0, .string t, .int .i64 0] 172) = W at *
    refine (CU.out _ hr).mono ?_
    rintro e w1 ⟨rfl, hr1, hc1⟩
    have HB := hid (hb.trans (hc1.below hb.size (fun i hi => by omega)))
    clear hr hb hr1 hc1
    go_wp2_with fail
    go_ret2
    exact ⟨rfl, HB.out⟩
  · rw [if_neg h4]
    have cu := fun x (hx : Rd x w.heap.size t 0 0) => u32_any w.heap.size t 0 0 x hx (Nat.zero_le _) hs
    rw [num_fx (k := 0) (n := 4) (by omega)] at cu
    have hN := num_lt4 (s := t) (k := 0) (by omega)
    have CU := hid cu
    clear cu
    generalize num t 0 4 = N at *
    by_cases hb : most < (N : Int)
    · rw [if_pos hb]
      go_enter Tryz.func108, Tryz.ntmps108
      go_wp2_with (go_at_call 102; refine (CN.out _).mono ?_; rintro e w' ⟨rfl, rfl⟩)
      have hr : Rd (w.alloc (.cells #[.int .i64 0, .string t, .int .i64 0] 172)) w.heap.size t 0 0 := heap_new _ _
      have hb := (Below.refl w.heap.size w).alloc (Nat.le_refl _) (.cells #[.int .i64 0, .string t, .int .i64 0] 172)
      generalize w.alloc (.cells #[.int .i64 0, .string t, .int .i64 0] 172) = W at *
      refine (CU.out _ hr).mono ?_
      rintro e w1 ⟨rfl, hr1, hc1⟩
      have HB := hid (hb.trans (hc1.below hb.size (fun i hi => by omega)))
      clear hr hb hr1 hc1
      go_wp2_with fail
      go_ret2
      exact ⟨rfl, HB.out⟩
    · rw [if_neg hb]
      have hle : (N : Int) ≤ most := by omega
      have h4' : (4 : Int) ≤ t.size := by omega
      have cz := fun w => Lz.unpack_any (t.extract 4 t.size) N most w (by omega) (fun F _ => by omega)
      rw [unZ_val _ _ _ hle] at cz
      have CA := hid (fun x (hx : Rd x w.heap.size t 4 0) => rat_any w.heap.size t 4 0 x hx)
      cases hR : Lz.M.un N (t.extract 4 t.size).data.toList [] with
      | error k =>
        have hk : ¬ (k : Int) = 0 := by have := Lz.un_bad' N _ _ _ k rfl hR; omega
        rw [hR] at cz
        dsimp only at cz
        have CZ := hid cz
        clear cz hR
        go_enter Tryz.func108, Tryz.ntmps108
        go_wp2_with (go_at_call 102; refine (CN.out _).mono ?_; rintro e w' ⟨rfl, rfl⟩)
        have hr : Rd (w.alloc (.cells #[.int .i64 0, .string t, .int .i64 0] 172)) w.heap.size t 0 0 := heap_new _ _
        have hb := (Below.refl w.heap.size w).alloc (Nat.le_refl _) (.cells #[.int .i64 0, .string t, .int .i64 0] 172)
        generalize w.alloc (.cells #[.int .i64 0, .string t, .int .i64 0] 172) = W at *
        refine (CU.out _ hr).mono ?_
        rintro e w1 ⟨rfl, hr1, hc1⟩
        have HB := hid (hb.trans (hc1.below hb.size (fun i hi => by omega)))
        clear hr hb hc1
        have HR1 := hid hr1
        clear hr1
        go_wp2_with fail
        refine (CA.out _ HR1.out).mono ?_
        rintro e w2 ⟨rfl, rfl⟩
        go_wp2_with fail
        refine (CZ.out _).mono ?_
        rintro e w3 ⟨rfl, b3⟩
        have HB3 := hid (HB.out.trans (b3.mono HB.out.size))
        clear b3
        go_wp2_with fail
        go_ret2
        exact ⟨rfl, HB3.out⟩
      | ok F =>
        rw [hR] at cz
        dsimp only at cz
        have CZ := hid cz
        clear cz hR
        go_enter Tryz.func108, Tryz.ntmps108
        go_wp2_with (go_at_call 102; refine (CN.out _).mono ?_; rintro e w' ⟨rfl, rfl⟩)
        have hr : Rd (w.alloc (.cells #[.int .i64 0, .string t, .int .i64 0] 172)) w.heap.size t 0 0 := heap_new _ _
        have hb := (Below.refl w.heap.size w).alloc (Nat.le_refl _) (.cells #[.int .i64 0, .string t, .int .i64 0] 172)
        generalize w.alloc (.cells #[.int .i64 0, .string t, .int .i64 0] 172) = W at *
        refine (CU.out _ hr).mono ?_
        rintro e w1 ⟨rfl, hr1, hc1⟩
        have HB := hid (hb.trans (hc1.below hb.size (fun i hi => by omega)))
        clear hr hb hc1
        have HR1 := hid hr1
        clear hr1
        go_wp2_with fail
        refine (CA.out _ HR1.out).mono ?_
        rintro e w2 ⟨rfl, rfl⟩
        go_wp2_with fail
        refine (CZ.out _).mono ?_
        rintro e w3 ⟨rfl, b3⟩
        have HB3 := hid (HB.out.trans (b3.mono HB.out.size))
        clear b3
        go_wp2_with fail
        go_ret2
        exact ⟨rfl, HB3.out⟩
set_option maxHeartbeats 1000000 in
theorem bodyOf_any (t : ByteArray) (st : Nat) (most : Int) (w : World) (hst : st < 65536) (h0 : 0 ≤ most) (hm : most ≤ 16777216) (hs : t.size ≤ 9223372036854775807) :
    Calls Tryz.prog 70 #[.string t, .int .u16 st, .int .i64 most] w fun e w' => e = .returned (BodV (bod t st most)) ∧ Below w.heap.size w w' := by
  by_cases h1 : st = 1
  · subst h1
    have C := hid (fun w => unpack6_any t most w h0 hm hs)
    generalize bod t 1 most = R at *
    cases R with
    | error x =>
      unfold BodV at *
      dsimp only at *
      go_enter Tryz.func70, Tryz.ntmps70
      go_wp2_with fail
      refine (C.out _).mono ?_
      rintro e w1 ⟨rfl, b1⟩
      go_wp2_with fail
      go_ret2
      exact ⟨rfl, b1⟩
    | ok b =>
      unfold BodV at *
      dsimp only at *
      go_enter Tryz.func70, Tryz.ntmps70
      go_wp2_with fail
      refine (C.out _).mono ?_
      rintro e w1 ⟨rfl, b1⟩
      go_wp2_with fail
      go_ret2
      exact ⟨rfl, b1⟩
  · unfold bod
    rw [if_neg h1]
    have h1' : ¬ (st : Int) = 1 := by omega
    by_cases hb : most < (t.size : Int)
    · rw [if_pos hb]
      go_enter Tryz.func70, Tryz.ntmps70
      go_wp2_with fail
      go_ret2
      exact ⟨rfl, Below.refl _ _⟩
    · rw [if_neg hb]
      have hb' : (t.size : Int) ≤ most := by omega
      go_enter Tryz.func70, Tryz.ntmps70
      go_wp2_with fail
      go_ret2
      exact ⟨rfl, Below.refl _ _⟩
end Go.Proofs.YtihokphamgkkcaaGreat
namespace Go.Proofs.YtihokphamgkkcaaGreat
open Go.RowKit
theorem rd5_le {s : ByteArray} {first : Int} {n : Nat} {r : Rec} {d : Nat} (hs : s.size ≤ 9223372036854775807) (hn : n < 65536) (h : rd5 s first n = .ok (r, d)) : d ≤ s.size ∧ I64 r.t := by
  unfold rd5 at h
  rw [if_neg (by omega), Int.toNat_natCast] at h
  obtain ⟨a1, a2, a3, a4⟩ := (nxt_iff hs (Nat.zero_le _) (by omega)).1 h
  have := a1.1
  exact ⟨by omega, a3.1⟩
theorem ext_tail (s : ByteArray) (k d : Nat) : (s.extract k s.size).extract d (s.extract k s.size).size = s.extract (k + d) s.size := by
  rw [ByteArray.extract_extract, ByteArray.size_extract]
  congr 1
  omega
theorem Bx1.alloc {w : World} {b : Array Value} {T : TypeId} {x : World} (h : Bx1 w b T x) (o : Obj) : Bx1 w b T (x.alloc o) := ⟨heap_alloc_at h.p, h.b.alloc h.b.size o⟩
theorem Bx1.drewN {w : World} {b : Array Value} {T : TypeId} {x : World} (h : Bx1 w b T x) (n : Nat) : Bx1 w b T (x.drewN n) := ⟨h.p, h.b.trans ⟨rfl, rfl, rfl, Nat.le_refl _, fun _ _ => rfl⟩⟩
/-- What is known between two rounds. -/
structure CB (s : ByteArray) (first : Int) (j : Nat) (l : List Rec) (k : Nat) : Prop where
  run : crun s first j = .ok (l, k)
  len : l.length = j
  le : k ≤ s.size
  rng : I64 (gr l)
theorem CB.step {s : ByteArray} {first : Int} {j : Nat} {l : List Rec} {k d : Nat} {r : Rec} (h : CB s first j l k) (hs : s.size ≤ 9223372036854775807) (hj : j < 65536) (h2 : rd5 (s.extract k s.size) first j = .ok (r, d)) :
    CB s first (j + 1) (l ++ [r]) (k + d) := by
  have hz : (s.extract k s.size).size = s.size - k := by rw [ByteArray.size_extract]; omega
  obtain ⟨h3, h4⟩ := rd5_le (by omega) hj h2
  have := h.le
  refine ⟨crun_yes h.run h2, by rw [List.length_append, h.len]; rfl, by omega, ?_⟩
  cases l with
  | nil => exact h4
  | cons a m =>
    rw [gr_snoc r (by simp)]
    have := h.rng
    unfold I64 at *
    omega
set_option maxHeartbeats 2000000 in
set_option maxRecDepth 20000 in
theorem checkBody_any (s : ByteArray) (f : Fs) (w : World) (hf : FsOk f) (hc : 1 ≤ f.cnt ∧ f.cnt ≤ 65536) (hs : s.size ≤ 9223372036854775807) :
    Calls Tryz.prog 71 #[.string s, hdV f] w fun e w' => e = .returned (.int .i64 (cbe s f)) ∧ Below w.heap.size w w' := by
  have HCE := hid (fun e => cbe_err (s := s) (f := f) (e := e))
  have HCO := hid (fun l k => cbe_ok (s := s) (f := f) (l := l) (k := k))
  obtain ⟨base, len, mark, sum, st, cnt, first, grt, prod, seq⟩ := f
  generalize hCB : cbe s ⟨base, len, mark, sum, st, cnt, first, grt, prod, seq⟩ = CE at *
  unfold hdV
  dsimp only at *
  have hF : I64 first := ⟨hf.f1, hf.f2⟩
  have CR := hid (fun (t : ByteArray) (n : Int) (w : World) (ht : t.size ≤ 9223372036854775807) => read5_any t first n w ht hF)
  clear hf
  go_enter Tryz.func71, Tryz.ntmps71
  go_wp2_with fail
  go_loopg [0, 5, 6, 13] cnt (fun gk b fi g i wr => ∃ (j : Nat) (l : List Rec) (k : Nat), j + gk = cnt ∧ i = .int .i64 j ∧ b = .string (s.extract k s.size) ∧ fi = .int .i64 (ft l) ∧ g = .int .i64 (gr l) ∧ Hid (CB s first j l k) ∧ Hid (Bx1 w #[.int .i64 base, .int .i64 (12 + len : Nat), .bool (decide (st = 1)), .int .i64 cnt, .int .i64 first, .int .i64 grt, .int .i64 prod, .int .i32 seq] 35 wr))
  case atStart =>
    refine ⟨0, [], 0, by omega, rfl, ?_, rfl, rfl, ⟨crun_zero s first, rfl, Nat.zero_le _, by unfold I64; decide⟩, Bx1.new _ _ _⟩
    rw [ByteArray.extract_zero_size]
  case round =>
    obtain ⟨j, l, k, hjk, rfl, rfl, rfl, rfl, HC, HX⟩ := hrel
    have hT : (s.extract k s.size).size = s.size - k := by rw [ByteArray.size_extract]; omega
    have hkl := HC.out.le
    obtain ⟨c0, c1, c2, c3, c4, c5, c6, c7⟩ := cells8 HX.out.p
    by_cases hlt : j < cnt
    · obtain ⟨g2, rfl⟩ : ∃ g2, gk = g2 + 1 := ⟨gk - 1, by omega⟩
      have hlt' : (j : Int) < cnt := by omega
      have HTT : Hid (∀ d, (s.extract k s.size).extract d (s.extract k s.size).size = s.extract (k + d) s.size) := fun d => ext_tail s k d
      have HNO := hid (fun x (h : rd5 (s.extract k s.size) first j = .error x) => crun_no HC.out.run h)
      have HYE := hid (fun r d (h : rd5 (s.extract k s.size) first j = .ok (r, d)) => HC.out.step hs (by omega) h)
      have HLE := hid (fun r d (h : rd5 (s.extract k s.size) first j = .ok (r, d)) => rd5_le (by omega) (by omega) h)
      have hl := HC.out.len
      have hrg := HC.out.rng
      generalize s.extract k s.size = T at *
      go_wp2_with fail
      refine (CR.out T j wr (by omega)).mono ?_
      rintro e w2 hp
      cases hR : rd5 T first (j : Int) with
      | error x =>
        rw [hR] at hp
        obtain ⟨b2, rfl, hx⟩ := hp
        have he := HCE.out x (by have := crun_err (HNO.out x hR) g2; rwa [show j + 1 + g2 = cnt by omega] at this)
        subst he
        have hx' : ¬ (CE : Int) = 0 := by omega
        have HB := hid (HX.out.call b2).b
        clear b2 hR HNO HYE HLE HTT c0 c1 c2 c3 c4 c5 c6 c7
        unfold noRec
        go_wp2_with fail
        go_ret
        exact ⟨rfl, HB.out.alloc HB.out.size _⟩
      | ok y =>
        obtain ⟨r, d⟩ := y
        rw [hR] at hp
        obtain ⟨b2, ra, rcap, rfl, _⟩ := hp
        obtain ⟨hd, hrt⟩ := HLE.out r d hR
        have HS := hid (HYE.out r d hR)
        have HX2 := hid (HX.out.call b2)
        dsimp only at *
        clear b2 hR HNO HYE HLE HX
        obtain ⟨rt, rkh, rkd, rvh, rvd, rhs⟩ := r
        unfold recV
        dsimp only at *
        have hd' : (d : Int) ≤ T.size := by omega
        by_cases hj : j = 0
        · have hl0 : l = [] := List.eq_nil_of_length_eq_zero (by omega)
          subst hl0 hj
          have hmx : max rt rt = rt := by omega
          go_wp2_with fail
          go_quiet ((fail))
          go_wp2_with fail
          go_roundg g2
          case measure => omega
          case rel => exact ⟨1, [⟨rt, rkh, rkd, rvh, rvd, rhs⟩], k + d, by omega, by go_num, congrArg Value.string (by rw [← HTT.out d, hT]), rfl, rfl, HS, (HX2.out.alloc _).drewN _⟩
        · have hl0 : l ≠ [] := by intro e; rw [e] at hl; simp at hl; omega
          have HG := hid (gr_snoc (l := l) ⟨rt, rkh, rkd, rvh, rvd, rhs⟩ hl0)
          have HFt := hid (ft_snoc (l := l) ⟨rt, rkh, rkd, rvh, rvd, rhs⟩ hl0)
          have hj' : ¬ (j : Int) = 0 := by omega
          generalize gr l = G at *
          generalize ft l = FT at *
          by_cases hm : G < rt
          · have hmx : max G rt = rt := by omega
            go_wp2_with fail
            go_roundg g2
            case measure => omega
            case rel => exact ⟨j + 1, l ++ [⟨rt, rkh, rkd, rvh, rvd, rhs⟩], k + d, by omega, by go_num, congrArg Value.string (by rw [← HTT.out d, hT]), by rw [HFt.out], by rw [HG.out, hmx], HS, HX2.out.alloc _⟩
          · have hmx : max G rt = G := by omega
            go_wp2_with fail
            go_roundg g2
            case measure => omega
            case rel => exact ⟨j + 1, l ++ [⟨rt, rkh, rkd, rvh, rvd, rhs⟩], k + d, by omega, by go_num, congrArg Value.string (by rw [← HTT.out d, hT]), by rw [HFt.out], by rw [HG.out, hmx], HS, HX2.out.alloc _⟩
    · have hj : j = cnt := by omega
      subst hj
      have hce := HCO.out l k HC.out.run
      have HBX := hid HX.out.b
      clear HC HX HCE HCO CR
      by_cases hk : k < s.size
      · rw [if_pos hk] at hce
        subst hce
        have ht : (s.extract k s.size).toList.isEmpty = false := Lz.ne_emp (by omega)
        generalize s.extract k s.size = T at *
        go_wp2_with fail
        go_ret
        exact ⟨rfl, HBX.out⟩
      · rw [if_neg hk] at hce
        have ht : s.extract k s.size = ⟨#[]⟩ := by
          apply ByteArray.ext
          apply Array.eq_empty_of_size_eq_zero
          have : (s.extract k s.size).data.size = (s.extract k s.size).size := rfl
          omega
        rw [ht]
        generalize ft l = FT at *
        generalize gr l = G at *
        clear ht hT
        by_cases h1 : FT = first
        · by_cases h2 : G = grt
          · rw [if_neg (by simp [h1, h2])] at hce
            subst hce h1 h2
            go_wp2_with fail
            go_ret
            exact ⟨rfl, HBX.out⟩
          · rw [if_pos (Or.inr h2)] at hce
            subst hce h1
            go_wp2_with fail
            go_ret
            exact ⟨rfl, HBX.out⟩
        · rw [if_pos (Or.inl h1)] at hce
          subst hce
          go_wp2_with fail
          go_ret
          exact ⟨rfl, HBX.out⟩
end Go.Proofs.YtihokphamgkkcaaGreat
