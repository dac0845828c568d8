/- Texts of the proof, put together: Ben, Bfm, Brf, Bfo, Bsto, Benc. -/
import Derived.Test.YtihokphamgkkcaaGreatMB3
import Derived.Test.YtihokphamgkkcaaGreatML1
import Derived.Test.YtihokphamgkkcaaGreatMR
namespace Go.Proofs.YtihokphamgkkcaaGreat
open Go.RowKit
def u64 (v : Int) : Nat := (v % 18446744073709551616).toNat
def u32 (v : Int) : Nat := (v % 4294967296).toNat
/-- The head's bytes that are under the sum, and those ahead of them. -/
def smd (f : Fs) : List Nat := nb 2 f.st ++ nb 4 f.cnt ++ nb 8 (u64 f.first) ++ nb 8 (u64 f.grt) ++ nb 8 (u64 f.prod) ++ nb 4 (u32 f.seq)
def usm (f : Fs) : List Nat := nb 8 (u64 f.base) ++ nb 4 f.len ++ nb 1 f.mark ++ nb 4 f.sum
/-- A box that came in, a writer in the next block. -/
structure FW (w : World) (b : Array Value) (l : List Nat) (x : World) : Prop where
  f : Bx1 w b 59 x
  r : Wr x (w.heap.size + 1) (w.heap.size + 1 + 1) l
theorem FW.write {w : World} {b : Array Value} {l l' : List Nat} {x x' : World} (h : FW w b l x) (hw : Wr x' (w.heap.size + 1) (w.heap.size + 1 + 1) l') (hc : Ch (WU (w.heap.size + 1) (w.heap.size + 1 + 1) x) x x') : FW w b l' x' :=
  ⟨⟨(hc.block _ (lt_of_heap h.f.p) (by rintro (h | ⟨h, _⟩) <;> omega)).trans h.f.p, h.f.b.trans (hc.below h.f.b.size (fun i hi hs => by rcases hs with rfl | ⟨h, _⟩ <;> omega))⟩, hw⟩
theorem FW.new (w : World) (b : Array Value) : FW w b [] ((w.alloc (.cells b 59)).alloc (.cells #[.int .i64 0, .slice none 0 0] 130)) :=
  ⟨(Bx1.new w b _).alloc _, wr_new (heap_new' _ _ _ (by simp)) (Nat.lt_succ_self _) (by simp)⟩
set_option maxHeartbeats 2000000 in
set_option maxRecDepth 20000 in
theorem summed_any (f : Fs) (w : World) (hf : FsOk f) : Calls Tryz.prog 49 #[fsV f] w fun e w' => e = .returned (.string (bs (smd f))) ∧ Below w.heap.size w w' := by
  unfold fsV fsA smd
  obtain ⟨hL, hM, hS, hT, hC, -, -, -, -, -, -⟩ := hf
  obtain ⟨base, len, mark, sum, st, cnt, first, grt, prod, seq⟩ := f
  dsimp only at *
  have c0 := fun (x : World) (l : List Nat) (hx : Wr x (w.heap.size + 1) (w.heap.size + 1 + 1) l) (hl : l.length ≤ 1000) => wu16_any (w.heap.size + 1) (w.heap.size + 1 + 1) l st x hx hT (by omega)
  have C0 := hid c0
  clear c0
  have c1 := fun (x : World) (l : List Nat) (hx : Wr x (w.heap.size + 1) (w.heap.size + 1 + 1) l) (hl : l.length ≤ 1000) => wu32_any (w.heap.size + 1) (w.heap.size + 1 + 1) l cnt x hx hC (by omega)
  have C1 := hid c1
  clear c1
  have c2 := fun (x : World) (l : List Nat) (hx : Wr x (w.heap.size + 1) (w.heap.size + 1 + 1) l) (hl : l.length ≤ 1000) => wi64_any (w.heap.size + 1) (w.heap.size + 1 + 1) l first x hx (by omega)
  have C2 := hid c2
  clear c2
  have c3 := fun (x : World) (l : List Nat) (hx : Wr x (w.heap.size + 1) (w.heap.size + 1 + 1) l) (hl : l.length ≤ 1000) => wi64_any (w.heap.size + 1) (w.heap.size + 1 + 1) l grt x hx (by omega)
  have C3 := hid c3
  clear c3
  have c4 := fun (x : World) (l : List Nat) (hx : Wr x (w.heap.size + 1) (w.heap.size + 1 + 1) l) (hl : l.length ≤ 1000) => wi64_any (w.heap.size + 1) (w.heap.size + 1 + 1) l prod x hx (by omega)
  have C4 := hid c4
  clear c4
  have c5 := fun (x : World) (l : List Nat) (hx : Wr x (w.heap.size + 1) (w.heap.size + 1 + 1) l) (hl : l.length ≤ 1000) => wi32_any (w.heap.size + 1) (w.heap.size + 1 + 1) l seq x hx (by omega)
  have C5 := hid c5
  clear c5
  have CB := hid (fun (x : World) (l : List Nat) (hx : Wr x (w.heap.size + 1) (w.heap.size + 1 + 1) l) => wbytes_any _ _ _ x hx)
  have N0 := FW.new w #[.int .i64 base, .int .u32 len, .int .u8 mark, .int .u32 sum, .int .u16 st, .int .u32 cnt, .int .i64 first, .int .i64 grt, .int .i64 prod, .int .i32 seq]
  obtain ⟨W0, hW0⟩ : ∃ x, (w.alloc (.cells #[.int .i64 base, .int .u32 len, .int .u8 mark, .int .u32 sum, .int .u16 st, .int .u32 cnt, .int .i64 first, .int .i64 grt, .int .i64 prod, .int .i32 seq] 59)).alloc (.cells #[.int .i64 0, .slice none 0 0] 130) = x := ⟨_, rfl⟩
  rw [hW0] at N0
  have k4 := (cells10 N0.f.p).2.2.2.2.1
  go_enter Tryz.func49, Tryz.ntmps49
  go_wp2_with fail
  refine (C0.out _ _ N0.r (by simp)).mono ?_
  rintro e w1 ⟨rfl, h1, h2⟩
  have N1 := N0.write h1 h2
  clear h1 h2 N0 k4
  rw [List.nil_append] at N1
  clear hW0
  have k5 := (cells10 N1.f.p).2.2.2.2.2.1
  go_wp2_with fail
  refine (C1.out _ _ N1.r (by simp [nb_len])).mono ?_
  rintro e w2 ⟨rfl, h1, h2⟩
  have N2 := N1.write h1 h2
  clear h1 h2 N1 k5
  have k6 := (cells10 N2.f.p).2.2.2.2.2.2.1
  go_wp2_with fail
  refine (C2.out _ _ N2.r (by simp [nb_len])).mono ?_
  rintro e w3 ⟨rfl, h1, h2⟩
  have N3 := N2.write h1 h2
  clear h1 h2 N2 k6
  have k7 := (cells10 N3.f.p).2.2.2.2.2.2.2.1
  go_wp2_with fail
  refine (C3.out _ _ N3.r (by simp [nb_len])).mono ?_
  rintro e w4 ⟨rfl, h1, h2⟩
  have N4 := N3.write h1 h2
  clear h1 h2 N3 k7
  have k8 := (cells10 N4.f.p).2.2.2.2.2.2.2.2.1
  go_wp2_with fail
  refine (C4.out _ _ N4.r (by simp [nb_len])).mono ?_
  rintro e w5 ⟨rfl, h1, h2⟩
  have N5 := N4.write h1 h2
  clear h1 h2 N4 k8
  have k9 := (cells10 N5.f.p).2.2.2.2.2.2.2.2.2
  go_wp2_with fail
  refine (C5.out _ _ N5.r (by simp [nb_len])).mono ?_
  rintro e w6 ⟨rfl, h1, h2⟩
  have N6 := N5.write h1 h2
  clear h1 h2 N5 k9
  go_wp2_with fail
  refine (CB.out _ _ N6.r).mono ?_
  rintro e w7 ⟨rfl, rfl⟩
  go_wp2_with fail
  go_ret
  exact ⟨rfl, N6.f.b⟩
set_option maxHeartbeats 2000000 in
set_option maxRecDepth 20000 in
theorem unsummed_any (f : Fs) (w : World) (hf : FsOk f) : Calls Tryz.prog 52 #[fsV f] w fun e w' => e = .returned (.string (bs (usm f))) ∧ Below w.heap.size w w' := by
  unfold fsV fsA usm
  obtain ⟨hL, hM, hS, hT, hC, -, -, -, -, -, -⟩ := hf
  obtain ⟨base, len, mark, sum, st, cnt, first, grt, prod, seq⟩ := f
  dsimp only at *
  have c0 := fun (x : World) (l : List Nat) (hx : Wr x (w.heap.size + 1) (w.heap.size + 1 + 1) l) (hl : l.length ≤ 1000) => wi64_any (w.heap.size + 1) (w.heap.size + 1 + 1) l base x hx (by omega)
  have C0 := hid c0
  clear c0
  have c1 := fun (x : World) (l : List Nat) (hx : Wr x (w.heap.size + 1) (w.heap.size + 1 + 1) l) (hl : l.length ≤ 1000) => wu32_any (w.heap.size + 1) (w.heap.size + 1 + 1) l len x hx hL (by omega)
  have C1 := hid c1
  clear c1
  have c2 := fun (x : World) (l : List Nat) (hx : Wr x (w.heap.size + 1) (w.heap.size + 1 + 1) l) (hl : l.length ≤ 1000) => wu8_any (w.heap.size + 1) (w.heap.size + 1 + 1) l mark x hx hM (by omega)
  have C2 := hid c2
  clear c2
  have c3 := fun (x : World) (l : List Nat) (hx : Wr x (w.heap.size + 1) (w.heap.size + 1 + 1) l) (hl : l.length ≤ 1000) => wu32_any (w.heap.size + 1) (w.heap.size + 1 + 1) l sum x hx hS (by omega)
  have C3 := hid c3
  clear c3
  have CB := hid (fun (x : World) (l : List Nat) (hx : Wr x (w.heap.size + 1) (w.heap.size + 1 + 1) l) => wbytes_any _ _ _ x hx)
  have N0 := FW.new w #[.int .i64 base, .int .u32 len, .int .u8 mark, .int .u32 sum, .int .u16 st, .int .u32 cnt, .int .i64 first, .int .i64 grt, .int .i64 prod, .int .i32 seq]
  obtain ⟨W0, hW0⟩ : ∃ x, (w.alloc (.cells #[.int .i64 base, .int .u32 len, .int .u8 mark, .int .u32 sum, .int .u16 st, .int .u32 cnt, .int .i64 first, .int .i64 grt, .int .i64 prod, .int .i32 seq] 59)).alloc (.cells #[.int .i64 0, .slice none 0 0] 130) = x := ⟨_, rfl⟩
  rw [hW0] at N0
  have k0 := (cells10 N0.f.p).1
  go_enter Tryz.func52, Tryz.ntmps52
  go_wp2_with fail
  refine (C0.out _ _ N0.r (by simp)).mono ?_
  rintro e w1 ⟨rfl, h1, h2⟩
  have N1 := N0.write h1 h2
  clear h1 h2 N0 k0
  rw [List.nil_append] at N1
  clear hW0
  have k1 := (cells10 N1.f.p).2.1
  go_wp2_with fail
  refine (C1.out _ _ N1.r (by simp [nb_len])).mono ?_
  rintro e w2 ⟨rfl, h1, h2⟩
  have N2 := N1.write h1 h2
  clear h1 h2 N1 k1
  have k2 := (cells10 N2.f.p).2.2.1
  go_wp2_with fail
  refine (C2.out _ _ N2.r (by simp [nb_len])).mono ?_
  rintro e w3 ⟨rfl, h1, h2⟩
  have N3 := N2.write h1 h2
  clear h1 h2 N2 k2
  have k3 := (cells10 N3.f.p).2.2.2.1
  go_wp2_with fail
  refine (C3.out _ _ N3.r (by simp [nb_len])).mono ?_
  rintro e w4 ⟨rfl, h1, h2⟩
  have N4 := N3.write h1 h2
  clear h1 h2 N3 k3
  go_wp2_with fail
  refine (CB.out _ _ N4.r).mono ?_
  rintro e w5 ⟨rfl, rfl⟩
  go_wp2_with fail
  go_ret
  exact ⟨rfl, N4.f.b⟩
end Go.Proofs.YtihokphamgkkcaaGreat
namespace Go.Proofs.YtihokphamgkkcaaGreat
open Go.RowKit
/-- The sum over a head and what stands behind it. -/
def smo (f : Fs) (t : ByteArray) : Nat := crcOf (bs (smd f) ++ t)
/-- The whole frame. -/
def frm (f : Fs) (t : ByteArray) : ByteArray := bs (usm { f with sum := smo f t }) ++ bs (smd f) ++ t
theorem smd_len (f : Fs) : (smd f).length = 34 := by simp [smd, nb_len]
theorem usm_len (f : Fs) : (usm f).length = 17 := by simp [usm, nb_len]
theorem crc_app (s t : ByteArray) : K.M.more (K.M.more 0 s.data.toList) t.data.toList = crcOf (s ++ t) := by
  unfold crcOf
  rw [show (s ++ t).data.toList = s.data.toList ++ t.data.toList from by simp [ByteArray.data_append]]
  exact K.M.more_more 0 _ _
theorem crcOf_lt (s : ByteArray) : crcOf s < 4294967296 := K.M.more_lt _ (by decide)
theorem more6_any (sum : Nat) (s : ByteArray) (w : World) (h : sum < 4294967296) (hs : s.size ≤ 9223372036854775807) : Calls Tryz.prog 50 #[.int .u32 sum, .string s] w fun e w' => e = .returned (.int .u32 (K.M.more sum s.data.toList : Nat)) ∧ Below w.heap.size w w' := K.more_any sum s w h hs
set_option maxHeartbeats 2000000 in
set_option maxRecDepth 20000 in
theorem frame_any (f : Fs) (t : ByteArray) (w : World) (hf : FsOk f) (ht : t.size ≤ 9223372036854770000) : Calls Tryz.prog 27 #[fsV f, .string t] w fun e w' => e = .returned (.string (frm f t)) ∧ Below w.heap.size w w' := by
  have cs := fun w => summed_any f w hf
  have hsz : (bs (smd f)).size = 34 := by rw [bs_size, smd_len]
  have cc := fun w => crc_any (bs (smd f)) w (by omega)
  have cm := fun w => more6_any (crcOf (bs (smd f))) t w (crcOf_lt _) (by omega)
  rw [show K.M.more (crcOf (bs (smd f))) t.data.toList = smo f t from crc_app _ _] at cm
  have hf2 : FsOk { f with sum := smo f t } := ⟨hf.len, hf.mark, crcOf_lt _, hf.st, hf.cnt, hf.b1, hf.b2, hf.f1, hf.f2, hf.g1, hf.g2⟩
  have cu := fun w => unsummed_any { f with sum := smo f t } w hf2
  have hus : (bs (usm { f with sum := smo f t })).size = 17 := by rw [bs_size, usm_len]
  unfold frm
  generalize bs (usm { f with sum := smo f t }) = U at *
  generalize smo f t = SM at *
  generalize bs (smd f) = S at *
  generalize crcOf S = CR at *
  unfold fsV fsA at *
  obtain ⟨base, len, mark, sum, st, cnt, first, grt, prod, seq⟩ := f
  dsimp only at *
  clear hf hf2
  have CS := hid cs
  have CC := hid cc
  have CM := hid cm
  have CU := hid cu
  clear cs cc cm cu
  have l1 : ¬ 9223372036854775807 < U.size + S.size := by omega
  have l2 : ¬ 9223372036854775807 < (U ++ S).size + t.size := by rw [ByteArray.size_append]; omega
  go_enter Tryz.func27, Tryz.ntmps27
  go_wp2_with fail
  refine (CS.out _).mono ?_
  rintro e w1 ⟨rfl, b1⟩
  have N1 := (Bx1.new w #[.int .i64 base, .int .u32 len, .int .u8 mark, .int .u32 sum, .int .u16 st, .int .u32 cnt, .int .i64 first, .int .i64 grt, .int .i64 prod, .int .i32 seq] 59).call b1
  clear b1
  go_wp2_with fail
  refine (CC.out _).mono ?_
  rintro e w2 ⟨rfl, b2⟩
  have N2 := N1.call b2
  clear b2 N1
  go_wp2_with fail
  refine (CM.out _).mono ?_
  rintro e w3 ⟨rfl, b3⟩
  have N3 := N2.call b3
  clear b3 N2
  have k3 := (cells10 N3.p).2.2.2.1
  have z3 : w3.frozen? ⟨w.heap.size, 3, none⟩ = false := froz_of N3.p
  have N4 : Bx1 w #[.int .i64 base, .int .u32 len, .int .u8 mark, .int .u32 SM, .int .u16 st, .int .u32 cnt, .int .i64 first, .int .i64 grt, .int .i64 prod, .int .i32 seq] 59 (w3.setCell ⟨w.heap.size, 3, none⟩ (.int .u32 SM)) := ⟨heap_set N3.p, N3.b.setCell (Nat.le_refl _) _⟩
  obtain ⟨W4, hW4⟩ : ∃ x, w3.setCell ⟨w.heap.size, 3, none⟩ (.int .u32 SM) = x := ⟨_, rfl⟩
  rw [hW4] at N4
  clear N3
  obtain ⟨f0, f1, f2, f3, f4, f5, f6, f7, f8, f9⟩ := cells10 N4.p
  go_wp2_with fail
  refine (CU.out _).mono ?_
  rintro e w5 ⟨rfl, b5⟩
  have N5 := N4.call b5
  go_wp2_with fail
  go_ret
  exact ⟨rfl, N5.b⟩
end Go.Proofs.YtihokphamgkkcaaGreat
namespace Go.Proofs.YtihokphamgkkcaaGreat
open Go.RowKit
/-- A batch, and where its records lie. -/
structure Bt where
  base : Int
  pk : Bool
  prod : Int
  seq : Int
  l : List RI
  a : Option Addr
  cap : Nat
def btA (b : Bt) : Array Value := #[.int .i64 b.base, .bool b.pk, .int .i64 b.prod, .int .i32 b.seq, .slice b.a b.l.length b.cap]
def btV (b : Bt) : Value := .agg (btA b)
/-- Why a batch has no frame, as far as that doesn't lie in its records. -/
def rfh (b : Bt) : Nat := if b.l.length = 0 then 4 else if 65536 < b.l.length then 5 else if ¬ (0 ≤ b.base ∧ b.base < 4611686018427387904) ∨ isPr b.prod b.seq = false then 1 else if ¬ b.base ≤ 4611686018427387904 - b.l.length then 65 else 0
theorem cells5 {w : World} {G : Nat} {T : TypeId} {v0 v1 v2 v3 v4 : Value} (h : w.heap[G]? = some (.cells #[v0, v1, v2, v3, v4] T (0, 0))) :
    w.cell? ⟨G, 0, none⟩ = some v0 ∧ w.cell? ⟨G, 1, none⟩ = some v1 ∧ w.cell? ⟨G, 2, none⟩ = some v2 ∧ w.cell? ⟨G, 3, none⟩ = some v3 ∧ w.cell? ⟨G, 4, none⟩ = some v4 :=
  ⟨(cell_of h).trans rfl, (cell_of h).trans rfl, (cell_of h).trans rfl, (cell_of h).trans rfl, (cell_of h).trans rfl⟩
set_option maxHeartbeats 2000000 in
set_option maxRecDepth 20000 in
theorem refuseHead_any (b : Bt) (w : World) (hL : b.l.length ≤ 9223372036854775807) : Calls Tryz.prog 44 #[btV b] w fun e w' => e = .returned (.int .i64 (rfh b)) ∧ Below w.heap.size w w' := by
  unfold rfh btV btA
  obtain ⟨base, pk, prod, seq, l, a, cap⟩ := b
  dsimp only at *
  generalize l.length = n at *
  have co := fun w => isoff_any base w
  have cp := fun w => ispr_any prod seq w
  by_cases h0 : n = 0
  · subst h0
    rw [if_pos rfl]
    go_enter Tryz.func44, Tryz.ntmps44
    go_wp2_with fail
    go_ret
    exact ⟨rfl, (Below.refl _ _).alloc (Nat.le_refl _) _⟩
  · rw [if_neg h0]
    have h0' : ¬ (n : Int) = 0 := by omega
    by_cases h1 : 65536 < n
    · rw [if_pos h1]
      have h1' : (65536 : Int) < n := by omega
      go_enter Tryz.func44, Tryz.ntmps44
      go_wp2_with fail
      go_ret
      exact ⟨rfl, (Below.refl _ _).alloc (Nat.le_refl _) _⟩
    · rw [if_neg h1]
      have h1' : (n : Int) ≤ 65536 := by omega
      have ch := fun w => haveoff_any base n w (by omega)
      by_cases h2 : 0 ≤ base ∧ base < 4611686018427387904
      · rw [decide_eq_true h2] at co
        cases h3 : isPr prod seq with
        | true =>
          rw [h3] at cp
          rw [if_neg (by simp [h2])]
          by_cases h4 : base ≤ 4611686018427387904 - (n : Int)
          · rw [if_neg (by simpa using h4)]
            rw [decide_eq_true h4] at ch
            clear h2 h3 h4
            have CO := hid co
            have CP := hid cp
            have CH := hid ch
            clear co cp ch
            go_enter Tryz.func44, Tryz.ntmps44
            go_wp2_with (first
              | (go_at_call 82; refine (CO.out _).mono ?_; rintro e w' ⟨rfl, rfl⟩)
              | (go_at_call 83; refine (CP.out _).mono ?_; rintro e w' ⟨rfl, rfl⟩)
              | (go_at_call 84; refine (CH.out _).mono ?_; rintro e w' ⟨rfl, rfl⟩))
            go_ret
            exact ⟨rfl, (Below.refl _ _).alloc (Nat.le_refl _) _⟩
          · rw [if_pos h4]
            rw [decide_eq_false h4] at ch
            clear h2 h3 h4
            have CO := hid co
            have CP := hid cp
            have CH := hid ch
            clear co cp ch
            go_enter Tryz.func44, Tryz.ntmps44
            go_wp2_with (first
              | (go_at_call 82; refine (CO.out _).mono ?_; rintro e w' ⟨rfl, rfl⟩)
              | (go_at_call 83; refine (CP.out _).mono ?_; rintro e w' ⟨rfl, rfl⟩)
              | (go_at_call 84; refine (CH.out _).mono ?_; rintro e w' ⟨rfl, rfl⟩))
            go_ret
            exact ⟨rfl, (Below.refl _ _).alloc (Nat.le_refl _) _⟩
        | false =>
          rw [h3] at cp
          rw [if_pos (Or.inr rfl)]
          clear h2 h3
          have CO := hid co
          have CP := hid cp
          have CH := hid ch
          clear co cp ch
          go_enter Tryz.func44, Tryz.ntmps44
          go_wp2_with (first
            | (go_at_call 82; refine (CO.out _).mono ?_; rintro e w' ⟨rfl, rfl⟩)
            | (go_at_call 83; refine (CP.out _).mono ?_; rintro e w' ⟨rfl, rfl⟩)
            | (go_at_call 84; refine (CH.out _).mono ?_; rintro e w' ⟨rfl, rfl⟩))
          go_ret
          exact ⟨rfl, (Below.refl _ _).alloc (Nat.le_refl _) _⟩
      · rw [decide_eq_false h2] at co
        rw [if_pos (Or.inl h2)]
        clear h2
        have CO := hid co
        have CP := hid cp
        have CH := hid ch
        clear co cp ch
        go_enter Tryz.func44, Tryz.ntmps44
        go_wp2_with (first
          | (go_at_call 82; refine (CO.out _).mono ?_; rintro e w' ⟨rfl, rfl⟩)
          | (go_at_call 83; refine (CP.out _).mono ?_; rintro e w' ⟨rfl, rfl⟩)
          | (go_at_call 84; refine (CH.out _).mono ?_; rintro e w' ⟨rfl, rfl⟩))
        go_ret
        exact ⟨rfl, (Below.refl _ _).alloc (Nat.le_refl _) _⟩
set_option maxHeartbeats 1000000 in
theorem stateOf_any (b : Bt) (w : World) : Calls Tryz.prog 47 #[btV b] w fun e w' => e = .returned (.int .u16 (if b.pk = true then 1 else 0 : Nat)) ∧ Below w.heap.size w w' := by
  unfold btV btA
  obtain ⟨base, pk, prod, seq, l, a, cap⟩ := b
  dsimp only
  cases pk with
  | true =>
    rw [if_pos rfl]
    go_enter Tryz.func47, Tryz.ntmps47
    go_wp2_with fail
    go_ret
    exact ⟨rfl, (Below.refl _ _).alloc (Nat.le_refl _) _⟩
  | false =>
    rw [if_neg (by decide)]
    go_enter Tryz.func47, Tryz.ntmps47
    go_wp2_with fail
    go_ret
    exact ⟨rfl, (Below.refl _ _).alloc (Nat.le_refl _) _⟩
/-- A body as a packed frame has it. -/
def pck (s : ByteArray) : ByteArray := bs (nb 4 s.size) ++ Lz.ba (Lz.M.pack s.data.toList)
set_option maxHeartbeats 1000000 in
set_option maxRecDepth 20000 in
theorem pack6_any (s : ByteArray) (w : World) (hs : s.size ≤ 16777216) : Calls Tryz.prog 46 #[.string s] w fun e w' => e = .returned (.string (pck s)) ∧ Below w.heap.size w w' := by
  unfold pck
  have cp := fun w => Lz.pack_any s w (by omega)
  have hpl : (Lz.ba (Lz.M.pack s.data.toList)).size ≤ 9223372036854700000 := by
    rw [Lz.ba_size]
    have := Lz.M.pack_size s.data.toList
    have e : s.data.toList.length = s.size := by simp
    omega
  generalize Lz.ba (Lz.M.pack s.data.toList) = P at *
  have cu := fun (x : World) (hx : Wr x w.heap.size (w.heap.size + 1) []) => wu32_any w.heap.size (w.heap.size + 1) [] s.size x hx (by omega) (by simp)
  simp only [List.nil_append] at cu
  have hN : (bs (nb 4 s.size)).size = 4 := by rw [bs_size]; exact nb_len _ _
  have hcat : ¬ 9223372036854775807 < (bs (nb 4 s.size)).size + P.size := by omega
  have hs' : (s.size : Int) ≤ 16777216 := by omega
  generalize nb 4 s.size = N4 at *
  have CB := hid (fun (x : World) (hx : Wr x w.heap.size (w.heap.size + 1) N4) => wbytes_any _ _ _ x hx)
  have CU := hid cu
  have CP := hid cp
  clear cu cp
  go_enter Tryz.func46, Tryz.ntmps46
  go_wp2_with fail
  have hw0 : Wr (w.alloc (.cells #[.int .i64 0, .slice none 0 0] 130)) w.heap.size (w.heap.size + 1) [] := wr_new (heap_new _ _) (Nat.lt_succ_self _) (by simp)
  have hb0 : Below w.heap.size w (w.alloc (.cells #[.int .i64 0, .slice none 0 0] 130)) := (Below.refl _ _).alloc (Nat.le_refl _) _
  generalize w.alloc (.cells #[.int .i64 0, .slice none 0 0] 130) = W at *
  refine (CU.out _ hw0).mono ?_
  rintro e w2 ⟨rfl, hw2, hc2⟩
  have HF := hid (hb0.trans (hc2.below hb0.size (fun i hi hs => by rcases hs with rfl | ⟨h, _⟩ <;> omega)))
  clear hw0 hb0 hc2
  have HW := hid hw2
  clear hw2
  go_wp2_with fail
  refine (CB.out _ HW.out).mono ?_
  rintro e w3 ⟨rfl, rfl⟩
  go_wp2_with fail
  refine (CP.out _).mono ?_
  rintro e w4 ⟨rfl, b4⟩
  go_wp2_with fail
  go_ret
  exact ⟨rfl, HF.out.trans (b4.mono HF.out.size)⟩
end Go.Proofs.YtihokphamgkkcaaGreat
namespace Go.Proofs.YtihokphamgkkcaaGreat
open Go.RowKit
/-- The fields of the frame of b, which has n bytes behind its head. -/
def fsB (b : Bt) (n : Nat) : Fs := ⟨b.base, 39 + n, 71, 0, if b.pk = true then 1 else 0, b.l.length, (b.l.getD 0 dri).r.t, grt b.l, b.prod, b.seq⟩
theorem put10 {w : World} {b : Array Value} {T U : TypeId} {u0 u1 u2 u3 u4 u5 u6 u7 u8 u9 : Value} {x : World} (h : Bx2 w b T #[u0, u1, u2, u3, u4, u5, u6, u7, u8, u9] U x) (v0 v1 v2 v3 v4 v5 v6 v7 v8 v9 : Value) : Bx2 w b T #[v0, v1, v2, v3, v4, v5, v6, v7, v8, v9] U (((((((((((x.setCell ⟨w.heap.size + 1, 0, none⟩ (v0)).setCell ⟨w.heap.size + 1, 1, none⟩ (v1)).setCell ⟨w.heap.size + 1, 2, none⟩ (v2)).setCell ⟨w.heap.size + 1, 3, none⟩ (v3)).setCell ⟨w.heap.size + 1, 4, none⟩ (v4)).setCell ⟨w.heap.size + 1, 5, none⟩ (v5)).setCell ⟨w.heap.size + 1, 6, none⟩ (v6)).setCell ⟨w.heap.size + 1, 7, none⟩ (v7)).setCell ⟨w.heap.size + 1, 8, none⟩ (v8)).setCell ⟨w.heap.size + 1, 9, none⟩ (v9))) := by
  have h0 : Bx2 w b T #[v0, u1, u2, u3, u4, u5, u6, u7, u8, u9] U _ := h.set 0 v0
  have h1 : Bx2 w b T #[v0, v1, u2, u3, u4, u5, u6, u7, u8, u9] U _ := h0.set 1 v1
  have h2 : Bx2 w b T #[v0, v1, v2, u3, u4, u5, u6, u7, u8, u9] U _ := h1.set 2 v2
  have h3 : Bx2 w b T #[v0, v1, v2, v3, u4, u5, u6, u7, u8, u9] U _ := h2.set 3 v3
  have h4 : Bx2 w b T #[v0, v1, v2, v3, v4, u5, u6, u7, u8, u9] U _ := h3.set 4 v4
  have h5 : Bx2 w b T #[v0, v1, v2, v3, v4, v5, u6, u7, u8, u9] U _ := h4.set 5 v5
  have h6 : Bx2 w b T #[v0, v1, v2, v3, v4, v5, v6, u7, u8, u9] U _ := h5.set 6 v6
  have h7 : Bx2 w b T #[v0, v1, v2, v3, v4, v5, v6, v7, u8, u9] U _ := h6.set 7 v7
  have h8 : Bx2 w b T #[v0, v1, v2, v3, v4, v5, v6, v7, v8, u9] U _ := h7.set 8 v8
  have h9 : Bx2 w b T #[v0, v1, v2, v3, v4, v5, v6, v7, v8, v9] U _ := h8.set 9 v9
  exact h9
theorem store10f {x : World} {G R : Nat} {o : Obj} {v0 v1 v2 v3 v4 v5 v6 v7 v8 v9 : Value} (h : x.heap[G]? = some o) (hne : G ≠ R) : (((((((((((x.setCell ⟨R, 0, none⟩ (v0)).setCell ⟨R, 1, none⟩ (v1)).setCell ⟨R, 2, none⟩ (v2)).setCell ⟨R, 3, none⟩ (v3)).setCell ⟨R, 4, none⟩ (v4)).setCell ⟨R, 5, none⟩ (v5)).setCell ⟨R, 6, none⟩ (v6)).setCell ⟨R, 7, none⟩ (v7)).setCell ⟨R, 8, none⟩ (v8)).setCell ⟨R, 9, none⟩ (v9))).heap[G]? = some o :=
  heap_set_far (heap_set_far (heap_set_far (heap_set_far (heap_set_far (heap_set_far (heap_set_far (heap_set_far (heap_set_far (heap_set_far h hne) hne) hne) hne) hne) hne) hne) hne) hne) hne
theorem froz10 {w : World} {G : Nat} {T : TypeId} {c : Array Value} (h : w.heap[G]? = some (.cells c T (0, 0))) :
    w.frozen? ⟨G, 0, none⟩ = false ∧ w.frozen? ⟨G, 1, none⟩ = false ∧ w.frozen? ⟨G, 2, none⟩ = false ∧ w.frozen? ⟨G, 3, none⟩ = false ∧ w.frozen? ⟨G, 4, none⟩ = false ∧ w.frozen? ⟨G, 5, none⟩ = false ∧ w.frozen? ⟨G, 6, none⟩ = false ∧ w.frozen? ⟨G, 7, none⟩ = false ∧ w.frozen? ⟨G, 8, none⟩ = false ∧ w.frozen? ⟨G, 9, none⟩ = false :=
  ⟨froz_of h, froz_of h, froz_of h, froz_of h, froz_of h, froz_of h, froz_of h, froz_of h, froz_of h, froz_of h⟩
/-- A batch's box, the answer's block, the first record's time. -/
structure FO (w : World) (bx r : Array Value) (B off : Nat) (T0 : Int) (l : List RI) (x : World) : Prop where
  p : Bx2 w bx 24 r 59 x
  v : Rcs x (some ⟨B, off, none⟩) l
  t : x.cell? ⟨B, off, none⟩ = some (.int .i64 T0)
  lt : B < w.heap.size
theorem FO.call {w : World} {bx r : Array Value} {B off : Nat} {T0 : Int} {l : List RI} {x x' : World} (h : FO w bx r B off T0 l x) (k : Below x.heap.size x x') : FO w bx r B off T0 l x' :=
  ⟨h.p.call k, h.v.below k, (k.cell (p := ⟨B, off, none⟩) (Nat.lt_of_lt_of_le h.lt h.p.b.size)).trans h.t, h.lt⟩
theorem FO.drew {w : World} {bx r : Array Value} {B off : Nat} {T0 : Int} {l : List RI} {x : World} (h : FO w bx r B off T0 l x) : FO w bx r B off T0 l x.drew := h.call ⟨rfl, rfl, rfl, Nat.le_refl _, fun _ _ => rfl⟩
theorem FO.six {w : World} {v0 v1 v2 v3 v4 : Value} {r : Array Value} {B off : Nat} {T0 : Int} {l : List RI} {x : World} (h : FO w #[v0, v1, v2, v3, v4] r B off T0 l x) :
    x.cell? ⟨w.heap.size, 0, none⟩ = some v0 ∧ x.cell? ⟨w.heap.size, 1, none⟩ = some v1 ∧ x.cell? ⟨w.heap.size, 2, none⟩ = some v2 ∧ x.cell? ⟨w.heap.size, 3, none⟩ = some v3 ∧ x.cell? ⟨w.heap.size, 4, none⟩ = some v4 ∧ x.cell? ⟨B, off, none⟩ = some (.int .i64 T0) := by
  obtain ⟨a, b, c, d, e⟩ := cells5 h.p.p
  exact ⟨a, b, c, d, e, h.t⟩
theorem FO.sixS {w : World} {v0 v1 v2 v3 v4 : Value} {r : Array Value} {B off : Nat} {T0 : Int} {l : List RI} {x : World} {q0 q1 q2 q3 q4 q5 q6 q7 q8 q9 : Value} (h : FO w #[v0, v1, v2, v3, v4] r B off T0 l x) :
    (((((((((((x.setCell ⟨w.heap.size + 1, 0, none⟩ (q0)).setCell ⟨w.heap.size + 1, 1, none⟩ (q1)).setCell ⟨w.heap.size + 1, 2, none⟩ (q2)).setCell ⟨w.heap.size + 1, 3, none⟩ (q3)).setCell ⟨w.heap.size + 1, 4, none⟩ (q4)).setCell ⟨w.heap.size + 1, 5, none⟩ (q5)).setCell ⟨w.heap.size + 1, 6, none⟩ (q6)).setCell ⟨w.heap.size + 1, 7, none⟩ (q7)).setCell ⟨w.heap.size + 1, 8, none⟩ (q8)).setCell ⟨w.heap.size + 1, 9, none⟩ (q9))).cell? ⟨w.heap.size, 0, none⟩ = some v0 ∧ (((((((((((x.setCell ⟨w.heap.size + 1, 0, none⟩ (q0)).setCell ⟨w.heap.size + 1, 1, none⟩ (q1)).setCell ⟨w.heap.size + 1, 2, none⟩ (q2)).setCell ⟨w.heap.size + 1, 3, none⟩ (q3)).setCell ⟨w.heap.size + 1, 4, none⟩ (q4)).setCell ⟨w.heap.size + 1, 5, none⟩ (q5)).setCell ⟨w.heap.size + 1, 6, none⟩ (q6)).setCell ⟨w.heap.size + 1, 7, none⟩ (q7)).setCell ⟨w.heap.size + 1, 8, none⟩ (q8)).setCell ⟨w.heap.size + 1, 9, none⟩ (q9))).cell? ⟨w.heap.size, 1, none⟩ = some v1 ∧ (((((((((((x.setCell ⟨w.heap.size + 1, 0, none⟩ (q0)).setCell ⟨w.heap.size + 1, 1, none⟩ (q1)).setCell ⟨w.heap.size + 1, 2, none⟩ (q2)).setCell ⟨w.heap.size + 1, 3, none⟩ (q3)).setCell ⟨w.heap.size + 1, 4, none⟩ (q4)).setCell ⟨w.heap.size + 1, 5, none⟩ (q5)).setCell ⟨w.heap.size + 1, 6, none⟩ (q6)).setCell ⟨w.heap.size + 1, 7, none⟩ (q7)).setCell ⟨w.heap.size + 1, 8, none⟩ (q8)).setCell ⟨w.heap.size + 1, 9, none⟩ (q9))).cell? ⟨w.heap.size, 2, none⟩ = some v2 ∧ (((((((((((x.setCell ⟨w.heap.size + 1, 0, none⟩ (q0)).setCell ⟨w.heap.size + 1, 1, none⟩ (q1)).setCell ⟨w.heap.size + 1, 2, none⟩ (q2)).setCell ⟨w.heap.size + 1, 3, none⟩ (q3)).setCell ⟨w.heap.size + 1, 4, none⟩ (q4)).setCell ⟨w.heap.size + 1, 5, none⟩ (q5)).setCell ⟨w.heap.size + 1, 6, none⟩ (q6)).setCell ⟨w.heap.size + 1, 7, none⟩ (q7)).setCell ⟨w.heap.size + 1, 8, none⟩ (q8)).setCell ⟨w.heap.size + 1, 9, none⟩ (q9))).cell? ⟨w.heap.size, 3, none⟩ = some v3 ∧ (((((((((((x.setCell ⟨w.heap.size + 1, 0, none⟩ (q0)).setCell ⟨w.heap.size + 1, 1, none⟩ (q1)).setCell ⟨w.heap.size + 1, 2, none⟩ (q2)).setCell ⟨w.heap.size + 1, 3, none⟩ (q3)).setCell ⟨w.heap.size + 1, 4, none⟩ (q4)).setCell ⟨w.heap.size + 1, 5, none⟩ (q5)).setCell ⟨w.heap.size + 1, 6, none⟩ (q6)).setCell ⟨w.heap.size + 1, 7, none⟩ (q7)).setCell ⟨w.heap.size + 1, 8, none⟩ (q8)).setCell ⟨w.heap.size + 1, 9, none⟩ (q9))).cell? ⟨w.heap.size, 4, none⟩ = some v4 ∧ (((((((((((x.setCell ⟨w.heap.size + 1, 0, none⟩ (q0)).setCell ⟨w.heap.size + 1, 1, none⟩ (q1)).setCell ⟨w.heap.size + 1, 2, none⟩ (q2)).setCell ⟨w.heap.size + 1, 3, none⟩ (q3)).setCell ⟨w.heap.size + 1, 4, none⟩ (q4)).setCell ⟨w.heap.size + 1, 5, none⟩ (q5)).setCell ⟨w.heap.size + 1, 6, none⟩ (q6)).setCell ⟨w.heap.size + 1, 7, none⟩ (q7)).setCell ⟨w.heap.size + 1, 8, none⟩ (q8)).setCell ⟨w.heap.size + 1, 9, none⟩ (q9))).cell? ⟨B, off, none⟩ = some (.int .i64 T0) := by
  obtain ⟨a, b, c, d, e⟩ := cells5 (store10f (R := w.heap.size + 1) h.p.p (by omega) (v0 := q0) (v1 := q1) (v2 := q2) (v3 := q3) (v4 := q4) (v5 := q5) (v6 := q6) (v7 := q7) (v8 := q8) (v9 := q9))
  refine ⟨a, b, c, d, e, ?_⟩
  have hlt := h.lt
  rw [← h.t]
  simp only [World.cell?]
  rw [Below.heap_setCell _ _ _ _ (by show B ≠ w.heap.size + 1; omega), Below.heap_setCell _ _ _ _ (by show B ≠ w.heap.size + 1; omega), Below.heap_setCell _ _ _ _ (by show B ≠ w.heap.size + 1; omega), Below.heap_setCell _ _ _ _ (by show B ≠ w.heap.size + 1; omega), Below.heap_setCell _ _ _ _ (by show B ≠ w.heap.size + 1; omega), Below.heap_setCell _ _ _ _ (by show B ≠ w.heap.size + 1; omega), Below.heap_setCell _ _ _ _ (by show B ≠ w.heap.size + 1; omega), Below.heap_setCell _ _ _ _ (by show B ≠ w.heap.size + 1; omega), Below.heap_setCell _ _ _ _ (by show B ≠ w.heap.size + 1; omega), Below.heap_setCell _ _ _ _ (by show B ≠ w.heap.size + 1; omega)]
set_option maxHeartbeats 2000000 in
set_option maxRecDepth 20000 in
theorem fieldsOf_any (b : Bt) (n : Nat) (w : World) (V : Rcs w b.a b.l) (h1 : 1 ≤ b.l.length) (h2 : b.l.length ≤ 65536) (hn : n ≤ 16777216) :
    Calls Tryz.prog 26 #[btV b, .int .i64 n] w fun e w' => e = .returned (fsV (fsB b n)) ∧ Below w.heap.size w w' := by
  have cs := fun w => stateOf_any b w
  have cg := fun w (V : Rcs w b.a b.l) => greatest_any b.l b.a b.cap w V (by omega)
  unfold fsV fsA fsB
  dsimp only
  generalize hst : (if b.pk = true then 1 else 0 : Nat) = ST at *
  generalize hG : grt b.l = G at *
  obtain ⟨base, pk, prod, seq, l, a, cap⟩ := b
  unfold btV btA at *
  dsimp only at *
  rcases id V.2 with h | ⟨B, off, rfl, hlt, hc⟩
  · rw [h] at h1; simp at h1
  have t0 := (hc 0 (by omega)).1
  rw [Nat.zero_mul, Nat.add_zero] at t0
  generalize (l.getD 0 dri).r.t = T0 at *
  generalize hN : l.length = N at *
  clear hc hst hG
  have N0 : FO w #[.int .i64 base, .bool pk, .int .i64 prod, .int .i32 seq, .slice (some ⟨B, off, none⟩) N cap] #[.int .i64 0, .int .u32 0, .int .u8 0, .int .u32 0, .int .u16 0, .int .u32 0, .int .i64 0, .int .i64 0, .int .i64 0, .int .i32 0] B off T0 l ((w.alloc (.cells #[.int .i64 base, .bool pk, .int .i64 prod, .int .i32 seq, .slice (some ⟨B, off, none⟩) N cap] 24)).alloc (.cells #[.int .i64 0, .int .u32 0, .int .u8 0, .int .u32 0, .int .u16 0, .int .u32 0, .int .i64 0, .int .i64 0, .int .i64 0, .int .i32 0] 59)) := by
    have P := Bx2.new w #[.int .i64 base, .bool pk, .int .i64 prod, .int .i32 seq, .slice (some ⟨B, off, none⟩) N cap] 24 #[.int .i64 0, .int .u32 0, .int .u8 0, .int .u32 0, .int .u16 0, .int .u32 0, .int .i64 0, .int .i64 0, .int .i64 0, .int .i32 0] 59
    exact ⟨P, V.below P.b, (P.b.cell (p := ⟨B, off, none⟩) hlt).trans t0, hlt⟩
  have CS : Hid (∀ x, FO w #[.int .i64 base, .bool pk, .int .i64 prod, .int .i32 seq, .slice (some ⟨B, off, none⟩) N cap] #[.int .i64 0, .int .u32 0, .int .u8 0, .int .u32 0, .int .u16 0, .int .u32 0, .int .i64 0, .int .i64 0, .int .i64 0, .int .i32 0] B off T0 l x → Calls Tryz.prog 47 #[.agg #[.int .i64 base, .bool pk, .int .i64 prod, .int .i32 seq, .slice (some ⟨B, off, none⟩) N cap]] x fun e w' => e = .returned (.int .u16 ST) ∧ FO w #[.int .i64 base, .bool pk, .int .i64 prod, .int .i32 seq, .slice (some ⟨B, off, none⟩) N cap] #[.int .i64 0, .int .u32 0, .int .u8 0, .int .u32 0, .int .u16 0, .int .u32 0, .int .i64 0, .int .i64 0, .int .i64 0, .int .i32 0] B off T0 l w') := fun x hx => (cs x).mono fun e w' h => ⟨h.1, hx.call h.2⟩
  have CG : Hid (∀ x, FO w #[.int .i64 base, .bool pk, .int .i64 prod, .int .i32 seq, .slice (some ⟨B, off, none⟩) N cap] #[.int .i64 0, .int .u32 0, .int .u8 0, .int .u32 0, .int .u16 0, .int .u32 0, .int .i64 0, .int .i64 0, .int .i64 0, .int .i32 0] B off T0 l x → Calls Tryz.prog 48 #[.slice (some ⟨B, off, none⟩) N cap] x fun e w' => e = .returned (.int .i64 G) ∧ FO w #[.int .i64 base, .bool pk, .int .i64 prod, .int .i32 seq, .slice (some ⟨B, off, none⟩) N cap] #[.int .i64 0, .int .u32 0, .int .u8 0, .int .u32 0, .int .u16 0, .int .u32 0, .int .i64 0, .int .i64 0, .int .i64 0, .int .i32 0] B off T0 l w') := fun x hx => (cg x hx.v).mono fun e w' h => ⟨h.1, hx.call h.2⟩
  clear cs cg V t0
  have e1 : IntKind.i64.wrap (39 + (n : Int)) = ((39 + n : Nat) : Int) := by rw [wrap_in (by omega) (by omega)]; omega
  have HE1 : Hid ((39 + (n : Int)) = ((39 + n : Nat) : Int)) := by show _ = _; omega
  have e2 : IntKind.u32.wrap ((39 + n : Nat) : Int) = ((39 + n : Nat) : Int) := by rw [IntKind.wrap_u32]; omega
  have e3 : IntKind.u32.wrap (N : Int) = (N : Int) := by rw [IntKind.wrap_u32]; omega
  have i0 : (0 : Int) < N := by omega
  have i0n : 0 < N := by omega
  have i0d : ¬ N = 0 := by omega
  obtain ⟨W, hW⟩ : ∃ x, (w.alloc (.cells #[.int .i64 base, .bool pk, .int .i64 prod, .int .i32 seq, .slice (some ⟨B, off, none⟩) N cap] 24)).alloc (.cells #[.int .i64 0, .int .u32 0, .int .u8 0, .int .u32 0, .int .u16 0, .int .u32 0, .int .i64 0, .int .i64 0, .int .i64 0, .int .i32 0] 59) = x := ⟨_, rfl⟩
  rw [hW] at N0
  go_enter Tryz.func26, Tryz.ntmps26
  go_wp2_with fail
  go_region_held3 (fun x => x.cell? ⟨w.heap.size, 0, none⟩ = some (.int .i64 base) ∧ x.cell? ⟨w.heap.size, 1, none⟩ = some (.bool pk) ∧ x.cell? ⟨w.heap.size, 2, none⟩ = some (.int .i64 prod) ∧ x.cell? ⟨w.heap.size, 3, none⟩ = some (.int .i32 seq) ∧ x.cell? ⟨w.heap.size, 4, none⟩ = some (.slice (some ⟨B, off, none⟩) N cap) ∧ x.cell? ⟨B, off, none⟩ = some (.int .i64 T0)) (first | with_reducible exact N0.six | with_reducible exact N0.drew.six | with_reducible exact FO.six (by assumption) | with_reducible exact FO.sixS (by assumption)) (first | (go_at_call 47; with_reducible refine (CS.out _ ?_).mono ?_; (first | exact N0.drew | exact N0); rintro e w2 ⟨rfl, N2⟩) | (go_at_call 48; with_reducible refine (CG.out _ ?_).mono ?_; (first | exact N2 | exact N2.drew); rintro e w3 ⟨rfl, N3⟩; obtain ⟨q0, q1, q2, q3, q4, q5, q6, q7, q8, q9⟩ := cells10 N3.p.q; obtain ⟨z0, z1, z2, z3, z4, z5, z6, z7, z8, z9⟩ := froz10 N3.p.q))
  rw [HE1.out, e2]
  have P := put10 N3.p (.int .i64 base) (.int .u32 (39 + n : Nat)) (.int .u8 71) (.int .u32 0) (.int .u16 ST) (.int .u32 N) (.int .i64 T0) (.int .i64 G) (.int .i64 prod) (.int .i32 seq)
  clear q0 q1 q2 q3 q4 q5 q6 q7 q8 q9 z0 z1 z2 z3 z4 z5 z6 z7 z8 z9
  generalize ((((((((((w3.setCell ⟨w.heap.size + 1, 0, none⟩ (.int .i64 base)).setCell ⟨w.heap.size + 1, 1, none⟩ (.int .u32 (39 + n : Nat))).setCell ⟨w.heap.size + 1, 2, none⟩ (.int .u8 71)).setCell ⟨w.heap.size + 1, 3, none⟩ (.int .u32 0)).setCell ⟨w.heap.size + 1, 4, none⟩ (.int .u16 ST)).setCell ⟨w.heap.size + 1, 5, none⟩ (.int .u32 N)).setCell ⟨w.heap.size + 1, 6, none⟩ (.int .i64 T0)).setCell ⟨w.heap.size + 1, 7, none⟩ (.int .i64 G)).setCell ⟨w.heap.size + 1, 8, none⟩ (.int .i64 prod)).setCell ⟨w.heap.size + 1, 9, none⟩ (.int .i32 seq)) = WF at *
  obtain ⟨q0, q1, q2, q3, q4, q5, q6, q7, q8, q9⟩ := cells10 P.q
  have HP := hid P.b
  clear P N3 N2 N0 hW
  go_wp2_with fail
  exact bodyPost_ret (v := .agg #[.int .i64 base, .int .u32 (39 + n : Nat), .int .u8 (71 : Nat), .int .u32 (0 : Nat), .int .u16 ST, .int .u32 N, .int .i64 T0, .int .i64 G, .int .i64 prod, .int .i32 seq]) (by simp [results, Tryz.results26, go_sem, q0, q1, q2, q3, q4, q5, q6, q7, q8, q9]) rfl ⟨rfl, HP.out⟩
end Go.Proofs.YtihokphamgkkcaaGreat
namespace Go.Proofs.YtihokphamgkkcaaGreat
open Go.RowKit
/-- What is stored of a body. -/
def sto (b : Bt) (S : ByteArray) : ByteArray := if b.pk = true then pck S else S
/-- Why a batch has no frame, or 0; and what is stored. -/
inductive StoP (b : Bt) : Nat → ByteArray → Prop
  | head : rfh b ≠ 0 → StoP b (rfh b) ⟨#[]⟩
  | body (E : Nat) : rfh b = 0 → E ≠ 0 → BodyP b.l E ⟨#[]⟩ → StoP b E ⟨#[]⟩
  | big (S : ByteArray) : rfh b = 0 → BodyP b.l 0 S → 16777165 < (sto b S).size → StoP b 66 ⟨#[]⟩
  | ok (S : ByteArray) : rfh b = 0 → BodyP b.l 0 S → (sto b S).size ≤ 16777165 → StoP b 0 (sto b S)
theorem body_size {l : List RI} {S : ByteArray} (h : BodyP l 0 S) : S.size ≤ 16777216 := by
  obtain ⟨h1, _, h3⟩ := h
  rw [h3 rfl, bs_size]
  rcases h1 with ⟨_, h⟩ | ⟨_, h⟩
  · cases h
  · exact ((fit_zero h).1 rfl).2
set_option maxHeartbeats 2000000 in
set_option maxRecDepth 20000 in
theorem store_any (b : Bt) (w : World) (V : Rcs w b.a b.l) (hT : ∀ x ∈ b.l, I64 x.r.t) (hM : ∀ x ∈ b.l, Mod x.r) (hL : b.l.length ≤ 9223372036854775807) :
    Calls Tryz.prog 25 #[btV b] w fun e w' => (∃ (E : Nat) (S : ByteArray), e = .returned (.tuple #[.string S, .int .i64 E]) ∧ StoP b E S) ∧ Below w.heap.size w w' := by
  have cr := fun w => refuseHead_any b w hL
  have cb := fun w (V : Rcs w b.a b.l) => body_any b.l b.a b.cap w V hT hM
  have cp := fun S w hs => pack6_any S w hs
  by_cases h0 : rfh b = 0
  · obtain ⟨base, pk, prod, seq, l, a, cap⟩ := b
    rw [h0] at cr
    unfold btV btA at *
    dsimp only at *
    generalize hN : l.length = N at *
    have CR := hid cr
    have CB := hid cb
    have cp := hid cp
    clear cr cb
    cases pk with
    | true =>
      go_enter Tryz.func25, Tryz.ntmps25
      go_wp2_with fail
      refine (CR.out _).mono ?_
      rintro e w1 ⟨rfl, b1⟩
      have N1 := (Bx1.new w #[.int .i64 base, .bool true, .int .i64 prod, .int .i32 seq, .slice a N cap] 24).call b1
      have V1 := V.below N1.b
      obtain ⟨k0, k1, k2, k3, k4⟩ := cells5 N1.p
      go_wp2_with fail
      refine (CB.out _ V1).mono ?_
      rintro e w2 ⟨⟨E, S, rfl, HB⟩, b2⟩
      have N2 := N1.call b2
      clear k0 k1 k2 k3 k4 N1 V1 b1 b2
      obtain ⟨k0, k1, k2, k3, k4⟩ := cells5 N2.p
      by_cases hE : E = 0
      · subst hE
        have hS := body_size HB
        have hS' : (S.size : Int) ≤ 16777216 := by omega
        have HO := hid (fun (h : (sto ⟨base, true, prod, seq, l, a, cap⟩ S).size ≤ 16777165) => StoP.ok (b := ⟨base, true, prod, seq, l, a, cap⟩) S h0 HB h)
        have HG := hid (fun (h : 16777165 < (sto ⟨base, true, prod, seq, l, a, cap⟩ S).size) => StoP.big (b := ⟨base, true, prod, seq, l, a, cap⟩) S h0 HB h)
        clear HB
        have CP2 := hid (fun w => cp.out S w hS)
        unfold sto at HO HG
        rw [if_pos rfl] at HO HG
        generalize pck S = P at *
        by_cases hp : P.size ≤ 16777165
        · have hp' : (P.size : Int) ≤ 16777165 := by omega
          go_wp2_with (go_at_call 46; refine (CP2.out _).mono ?_; rintro e w3 ⟨rfl, b3⟩)
          go_ret2
          exact ⟨⟨0, P, rfl, HO.out hp⟩, (N2.call b3).b⟩
        · have hp' : (16777165 : Int) < P.size := by omega
          go_wp2_with (go_at_call 46; refine (CP2.out _).mono ?_; rintro e w3 ⟨rfl, b3⟩)
          go_ret2
          exact ⟨⟨66, _, rfl, HG.out (by omega)⟩, (N2.call b3).b⟩
      · have HS := hid (StoP.body (b := ⟨base, true, prod, seq, l, a, cap⟩) E h0 hE (by have := HB.2.1 hE; rw [this] at HB; exact HB))
        have hE' : ¬ (E : Int) = 0 := by omega
        clear HB
        go_wp2_with fail
        go_ret2
        exact ⟨⟨E, _, rfl, HS.out⟩, N2.b⟩
    | false =>
      go_enter Tryz.func25, Tryz.ntmps25
      go_wp2_with fail
      refine (CR.out _).mono ?_
      rintro e w1 ⟨rfl, b1⟩
      have N1 := (Bx1.new w #[.int .i64 base, .bool false, .int .i64 prod, .int .i32 seq, .slice a N cap] 24).call b1
      have V1 := V.below N1.b
      obtain ⟨k0, k1, k2, k3, k4⟩ := cells5 N1.p
      go_wp2_with fail
      refine (CB.out _ V1).mono ?_
      rintro e w2 ⟨⟨E, S, rfl, HB⟩, b2⟩
      have N2 := N1.call b2
      clear k0 k1 k2 k3 k4 N1 V1 b1 b2
      obtain ⟨k0, k1, k2, k3, k4⟩ := cells5 N2.p
      by_cases hE : E = 0
      · subst hE
        have hS := body_size HB
        have hS' : (S.size : Int) ≤ 16777216 := by omega
        have HO := hid (fun (h : (sto ⟨base, false, prod, seq, l, a, cap⟩ S).size ≤ 16777165) => StoP.ok (b := ⟨base, false, prod, seq, l, a, cap⟩) S h0 HB h)
        have HG := hid (fun (h : 16777165 < (sto ⟨base, false, prod, seq, l, a, cap⟩ S).size) => StoP.big (b := ⟨base, false, prod, seq, l, a, cap⟩) S h0 HB h)
        clear HB
        unfold sto at HO HG
        rw [if_neg (by simp)] at HO HG
        by_cases hp : S.size ≤ 16777165
        · have hp' : (S.size : Int) ≤ 16777165 := by omega
          go_wp2_with fail
          go_ret2
          exact ⟨⟨0, S, rfl, HO.out hp⟩, N2.b⟩
        · have hp' : (16777165 : Int) < S.size := by omega
          go_wp2_with fail
          go_ret2
          exact ⟨⟨66, _, rfl, HG.out (by omega)⟩, N2.b⟩
      · have HS := hid (StoP.body (b := ⟨base, false, prod, seq, l, a, cap⟩) E h0 hE (by have := HB.2.1 hE; rw [this] at HB; exact HB))
        have hE' : ¬ (E : Int) = 0 := by omega
        clear HB
        go_wp2_with fail
        go_ret2
        exact ⟨⟨E, _, rfl, HS.out⟩, N2.b⟩
  · have HP := hid (StoP.head h0)
    have h0' : ¬ (rfh b : Int) = 0 := by omega
    generalize rfh b = E at *
    unfold btV btA at *
    have CR := hid cr
    clear cr cb cp
    go_enter Tryz.func25, Tryz.ntmps25
    go_wp2_with fail
    refine (CR.out _).mono ?_
    rintro e w1 ⟨rfl, b1⟩
    go_wp2_with fail
    go_ret2
    exact ⟨⟨E, _, rfl, HP.out⟩, ((Bx1.new w _ _).call b1).b⟩
end Go.Proofs.YtihokphamgkkcaaGreat
namespace Go.Proofs.YtihokphamgkkcaaGreat
open Go.RowKit
/-- What Encode answers. -/
def EncP (b : Bt) (E : Nat) (S : ByteArray) : Prop := (E ≠ 0 ∧ StoP b E ⟨#[]⟩ ∧ S = ⟨#[]⟩) ∨ (E = 0 ∧ ∃ T, StoP b 0 T ∧ S = frm (fsB b T.size) T)
theorem sto_zero {b : Bt} {E : Nat} {T : ByteArray} (h : StoP b E T) : (E ≠ 0 → T = ⟨#[]⟩) ∧ (E = 0 → rfh b = 0 ∧ T.size ≤ 16777165) := by
  cases h with
  | head h => exact ⟨fun _ => rfl, fun e => absurd e h⟩
  | body E h1 h2 h3 => exact ⟨fun _ => rfl, fun e => absurd e h2⟩
  | big S h1 h2 h3 => exact ⟨fun _ => rfl, fun e => by cases e⟩
  | ok S h1 h2 h3 => exact ⟨fun e => absurd rfl e, fun _ => ⟨h1, h3⟩⟩
theorem rfh_zero {b : Bt} (h : rfh b = 0) : (1 ≤ b.l.length ∧ b.l.length ≤ 65536) ∧ (0 ≤ b.base ∧ b.base < 4611686018427387904) ∧ isPr b.prod b.seq = true ∧ b.base ≤ 4611686018427387904 - b.l.length := by
  unfold rfh at h
  split at h
  · cases h
  split at h
  · cases h
  split at h
  · cases h
  split at h
  · cases h
  rename_i h1 h2 h3 h4
  refine ⟨by omega, ?_, ?_, Classical.not_not.1 h4⟩
  · exact Classical.not_not.1 (fun h => h3 (Or.inl h))
  · cases h5 : isPr b.prod b.seq with
    | true => rfl
    | false => exact absurd (Or.inr h5) h3
theorem gm_in {l : List RI} (h : 1 ≤ l.length) (hT : ∀ x ∈ l, I64 x.r.t) : ∀ j, j ≤ l.length → I64 (gm l j)
  | 0, _ => hT _ (riD_mem (by omega))
  | j + 1, hj => by
    have h1 := gm_in h hT j (by omega)
    have h2 := hT _ (riD_mem (l := l) (j := j) (by omega))
    show I64 (if gm l j < (l.getD j dri).r.t then (l.getD j dri).r.t else gm l j)
    split
    · exact h2
    · exact h1
theorem fsB_ok {b : Bt} {n : Nat} (h : rfh b = 0) (hT : ∀ x ∈ b.l, I64 x.r.t) (hn : n ≤ 16777216) : FsOk (fsB b n) := by
  obtain ⟨h1, h2, h3, h4⟩ := rfh_zero h
  have ht := hT _ (riD_mem (l := b.l) (j := 0) (by omega))
  have hg := gm_in (l := b.l) (by omega) hT b.l.length (Nat.le_refl _)
  have eg : grt b.l = gm b.l b.l.length := by unfold grt; rw [if_neg (by omega)]
  refine ⟨?_, ?_, ?_, ?_, ?_, ?_, ?_, ht.1, ht.2, ?_, ?_⟩
  · show 39 + n < _; omega
  · show 71 < 256; omega
  · show 0 < _; omega
  · show (if b.pk = true then 1 else 0) < _
    split <;> omega
  · show b.l.length < _; omega
  · show _ ≤ b.base; omega
  · show b.base ≤ _; omega
  · show _ ≤ grt b.l; rw [eg]; exact hg.1
  · show grt b.l ≤ _; rw [eg]; exact hg.2
set_option maxHeartbeats 2000000 in
set_option maxRecDepth 20000 in
theorem encode_any (b : Bt) (w : World) (V : Rcs w b.a b.l) (hT : ∀ x ∈ b.l, I64 x.r.t) (hM : ∀ x ∈ b.l, Mod x.r) (hL : b.l.length ≤ 9223372036854775807) :
    Calls Tryz.prog 9 #[btV b] w fun e w' => (∃ (E : Nat) (S : ByteArray), e = .returned (.tuple #[.string S, .int .i64 E]) ∧ EncP b E S) ∧ Below w.heap.size w w' := by
  have CS := hid (fun w V => store_any b w V hT hM hL)
  have CF := hid (fun w (T : ByteArray) V (h : rfh b = 0) hn => fieldsOf_any b T.size w V (rfh_zero h).1.1 (rfh_zero h).1.2 hn)
  have CM := hid (fun w (T : ByteArray) (h : rfh b = 0) (hn : T.size ≤ 16777216) => frame_any (fsB b T.size) T w (fsB_ok h hT hn) (by omega))
  clear hT hM hL
  unfold btV btA at *
  go_enter Tryz.func9, Tryz.ntmps9
  go_wp2_with fail
  have N0 := Bx1.new w #[.int .i64 b.base, .bool b.pk, .int .i64 b.prod, .int .i32 b.seq, .slice b.a b.l.length b.cap] 24
  have V0 := V.below N0.b
  refine (CS.out _ V0).mono ?_
  rintro e w1 ⟨⟨E, T, rfl, HS⟩, b1⟩
  have N1 := N0.call b1
  have V1 := V0.below b1
  obtain ⟨z1, z2⟩ := sto_zero HS
  obtain ⟨k0, k1, k2, k3, k4⟩ := cells5 N1.p
  clear N0 V0 b1 CS
  by_cases hE : E = 0
  · subst hE
    obtain ⟨hr, hn⟩ := z2 rfl
    have CF2 := hid (fun w V => CF.out w T V hr (by omega))
    have CM2 := hid (fun w => CM.out w T hr (by omega))
    have HP := hid (show EncP b 0 (frm (fsB b T.size) T) from Or.inr ⟨rfl, T, HS, rfl⟩)
    clear z1 z2 HS CF CM hr
    generalize frm (fsB b T.size) T = R at *
    generalize fsV (fsB b T.size) = FV at *
    go_wp2_with fail
    refine (CF2.out _ V1).mono ?_
    rintro e w2 ⟨rfl, b2⟩
    have N2 := N1.call b2
    go_wp2_with fail
    refine (CM2.out _).mono ?_
    rintro e w3 ⟨rfl, b3⟩
    go_wp2_with fail
    go_ret2
    exact ⟨⟨0, R, rfl, HP.out⟩, (N2.call b3).b⟩
  · obtain rfl := z1 hE
    have hE' : ¬ (E : Int) = 0 := by omega
    have HP := hid (show EncP b E ⟨#[]⟩ from Or.inl ⟨hE, HS, rfl⟩)
    clear z1 z2 HS CF CM
    go_wp2_with fail
    go_ret2
    exact ⟨⟨E, _, rfl, HP.out⟩, N1.b⟩
end Go.Proofs.YtihokphamgkkcaaGreat
