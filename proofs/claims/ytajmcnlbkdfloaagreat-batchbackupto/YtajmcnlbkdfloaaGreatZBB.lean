/- Texts of the proof, put together: Bfx, Bfy, Bfw, Bfz, Bpq, Bbk, Bbm. -/
import Derived.Test.YtajmcnlbkdfloaaGreatMB6
import Derived.Test.YtajmcnlbkdfloaaGreatMB7
import Derived.Deep.LoopGhost
import Derived.Deep.QuietTactic
import Derived.BigQuiet
namespace Go.Proofs.YtajmcnlbkdfloaaGreat
open Go.RowKit
theorem nb_be6 : ∀ (n : Nat) (l : List Nat), l.length = n → (∀ b ∈ l, b < 256) → nb n (be l) = l
  | 0, l, h, _ => by rw [List.eq_nil_of_length_eq_zero h]; rfl
  | n + 1, l, h, hb => by
    rcases List.eq_nil_or_concat l with rfl | ⟨l', b, rfl⟩
    · simp at h
    · have h' : l'.length = n := by simpa using h
      have hb1 := hb b (by simp)
      rw [List.concat_eq_append] at hb ⊢
      rw [be_snoc, nb]
      have e1 : (be l' * 256 + b) / 256 = be l' := by omega
      have e2 : (be l' * 256 + b) % 256 = b := by omega
      rw [e1, e2, nb_be6 n l' h' (fun c hc => hb c (by simp [hc]))]
theorem nb_num {s : ByteArray} {k n : Nat} (h : k + n ≤ s.size) : nb n (num s k n) = ((bl s).drop k).take n := by
  unfold num
  rw [nb_be6 n _ (by rw [bl_len, ByteArray.size_extract]; omega) (bl_byte _), bl_ext, show k + n - k = n by omega]
theorem u64_wrap {v : Nat} (h : v < 18446744073709551616) : u64 (wrap64 (v : Int)) = v := by unfold u64 wrap64; omega
theorem u32_wrap {v : Nat} (h : v < 4294967296) : u32 (wrap32 (v : Int)) = v := by unfold u32 wrap32; omega
theorem take_more {l : List Nat} (k n : Nat) : l.take k ++ (l.drop k).take n = l.take (k + n) := by rw [← List.take_add]
/-- A head is its numbers' bytes. -/
theorem head_bytes {s : ByteArray} (h : 51 ≤ s.size) : usm (fsOf s) ++ smd (fsOf s) = (bl s).take 51 := by
  unfold usm smd fsOf
  dsimp only
  rw [u64_wrap (num_lt8 (by omega)), u64_wrap (num_lt8 (by omega)), u64_wrap (num_lt8 (by omega)), u64_wrap (num_lt8 (by omega)), u32_wrap (num_lt4 (by omega))]
  rw [nb_num (by omega), nb_num (by omega), nb_num (by omega), nb_num (by omega), nb_num (by omega), nb_num (by omega), nb_num (by omega), nb_num (by omega), nb_num (by omega), nb_num (by omega)]
  rw [List.drop_zero, ← List.append_assoc, ← List.append_assoc, ← List.append_assoc, ← List.append_assoc, ← List.append_assoc, take_more, take_more, take_more, take_more, take_more, take_more, take_more, take_more, take_more]
/-- What is known of a frame that is taken. -/
structure Tkn (s : ByteArray) (f : Fs) (L : List Rec) (b : ByteArray) : Prop where
  fs : f = fsOf s
  r : Right f
  ok : FsOk f
  n : 12 + f.len ≤ s.size
  sum : crcOf (s.extract 17 (12 + f.len)) = f.sum
  rb : rbd b f.first f.cnt = .ok L
  gr : gr L = f.grt
  bz : b.size ≤ 16777216
theorem ite_pos {α : Type} {x e : Nat} {F : Except Nat α} (h : (if x ≠ 0 then .error x else F) = .error e) : e ≠ 0 ∨ F = .error e := by
  by_cases hx : x ≠ 0
  · rw [if_pos hx] at h
    injection h with h
    exact Or.inl (h ▸ hx)
  · rw [if_neg hx] at h
    exact Or.inr h
theorem pre_err {l : List Hdr} {x : Except Nat (List Hdr × Nat)} {e : Nat} (h : pre l x = .error e) : x = .error e := by
  cases x with
  | error y => exact h
  | ok y => obtain ⟨a, b⟩ := y; cases h
theorem hdq_pos {p : ByteArray} : ∀ {c k e : Nat}, hdq p c k = .error e → e ≠ 0
  | 0, k, e, h => by unfold hdq at h; cases h
  | c + 1, k, e, h => by
    unfold hdq at h
    rcases ite_pos h with h | h
    · exact h
    · rcases ite_pos h with h | h
      · exact h
      · exact hdq_pos (pre_err h)
theorem r7_pos {p : ByteArray} {t : Int} {kh vh : Bool} {kd vd : ByteArray} {c k e : Nat} (h : r7 p t kh kd vh vd c k = .error e) : e ≠ 0 := by
  unfold r7 at h
  split at h
  · rename_i hh; injection h with h; subst h; exact hdq_pos hh
  · split at h
    · injection h with h; omega
    · cases h
theorem r6_pos {p : ByteArray} {t : Int} {kh vh : Bool} {kd vd : ByteArray} {k e : Nat} (h : r6 p t kh kd vh vd k = .error e) : e ≠ 0 := by
  unfold r6 at h
  rcases ite_pos h with h | h
  · exact h
  · dsimp only at h
    split at h
    · injection h with h; omega
    · exact r7_pos h
theorem r5_pos {p : ByteArray} {t : Int} {kh : Bool} {kd : ByteArray} {k e : Nat} (h : r5 p t kh kd k = .error e) : e ≠ 0 := by
  unfold r5 at h
  rcases ite_pos h with h | h
  · exact h
  · exact r6_pos h
theorem r4_pos {p : ByteArray} {t : Int} {k e : Nat} (h : r4 p t k = .error e) : e ≠ 0 := by
  unfold r4 at h
  rcases ite_pos h with h | h
  · exact h
  · exact r5_pos h
theorem r3_pos {p : ByteArray} {t : Int} {n k e : Nat} (h : r3 p t n k = .error e) : e ≠ 0 := by
  unfold r3 at h
  rcases ite_pos h with h | h
  · exact h
  · dsimp only at h
    split at h
    · injection h with h; omega
    · exact r4_pos h
theorem r2_pos {p : ByteArray} {first : Int} {n k e : Nat} (h : r2 p first n k = .error e) : e ≠ 0 := by
  unfold r2 at h
  rcases ite_pos h with h | h
  · exact h
  · dsimp only at h
    split at h
    · injection h with h; omega
    · exact r3_pos h
theorem r1_pos {p : ByteArray} {first : Int} {n e : Nat} (h : r1 p first n = .error e) : e ≠ 0 := by
  unfold r1 at h
  rcases ite_pos h with h | h
  · exact h
  · dsimp only at h
    split at h
    · injection h with h; omega
    · exact r2_pos h
theorem nx2_pos {s : ByteArray} {k : Nat} {first : Int} {n L k1 e : Nat} (h : nx2 s k first n L k1 = .error e) : e ≠ 0 := by
  unfold nx2 at h
  split at h
  · injection h with h; omega
  · split at h
    · rename_i hh; injection h with h; subst h; exact r1_pos hh
    · split at h
      · injection h with h; omega
      · cases h
theorem nxt_pos {s : ByteArray} {k : Nat} {first : Int} {n e : Nat} (h : nxt s k first n = .error e) : e ≠ 0 := by
  unfold nxt at h
  rcases ite_pos h with h | h
  · exact h
  · exact nx2_pos h
theorem rd5_pos {s : ByteArray} {first n : Int} {e : Nat} (h : rd5 s first n = .error e) : e ≠ 0 := by
  unfold rd5 at h
  split at h
  · injection h with h; omega
  · exact nxt_pos h
theorem crunG_pos (rd : Nat → Nat → Except Nat (Rec × Nat)) (hp : ∀ k j e, rd k j = .error e → e ≠ 0) (j : Nat) : ∀ e, crunG rd j = .error e → e ≠ 0 := by
  induction j with
  | zero => intro e h; rw [crunG] at h; cases h
  | succ j ih =>
    intro e h
    rw [crunG_succ] at h
    cases hr : crunG rd j with
    | error x => rw [hr] at h; injection h with h; subst h; exact ih x hr
    | ok y =>
      obtain ⟨l, k⟩ := y
      rw [hr] at h
      dsimp only at h
      cases hn : rd k j with
      | error x => rw [hn] at h; injection h with h; subst h; exact hp k j x hn
      | ok z => rw [hn] at h; cases h
theorem crun_pos {s : ByteArray} {first : Int} : ∀ (j e : Nat), crun s first j = .error e → e ≠ 0 := by
  exact crunG_pos _ (fun _ _ _ h => rd5_pos h)
theorem taken {s : ByteArray} {frame plain : Int} {f : Fs} {b : ByteArray} (h : opn s frame plain = .ok (f, b)) : ∃ L, Tkn s f L b ∧ bod (s.extract 51 (12 + f.len)) f.st (wth plain 7 16777216) = .ok b := by
  obtain ⟨h1, h2, h3, h4, h5⟩ := opn_ok h
  have hz : ¬ s.size < 51 := by intro h; rw [pke_short h] at h1; cases h1
  have hr : rgt (fsOf s) = true := by
    cases hh : rgt (fsOf s) with
    | true => rfl
    | false => rw [pke_no hz hh] at h1; cases h1
  have R := rgt_iff.1 hr
  obtain ⟨w1, w2⟩ := whe_zero h3
  have hsum : crcOf (s.extract 17 (12 + (fsOf s).len)) = (fsOf s).sum := by
    unfold whe at h3
    rw [if_neg w1, if_neg w2] at h3
    split at h3
    · cases h3
    · rename_i h; exact Classical.not_not.1 h
  have hm2 := wth_in plain 7 16777216 (by omega)
  have hbz : b.size ≤ 16777216 := by
    have hb := h4
    unfold bod at hb
    split at hb
    · split at hb
      · cases hb
      · split at hb
        · cases hb
        · rename_i hn
          split at hb
          · cases hb
          · rename_i T hu
            cases hb
            rw [Lz.ba_size]
            have := un_len hu
            omega
    · split at hb
      · cases hb
      · injection hb with hb
        rw [← hb]
        omega
  obtain ⟨L, l1, l2⟩ := (cbe_iff ⟨R.c1, R.c2⟩ hbz (fun j e => crun_pos j e)).1 h5
  subst h2
  exact ⟨L, ⟨rfl, R, fsOf_ok (by omega), by omega, hsum, l1, l2, hbz⟩, h4⟩
end Go.Proofs.YtajmcnlbkdfloaaGreat
namespace Go.Proofs.YtajmcnlbkdfloaaGreat
open Go.RowKit
theorem Fs.ext' {f g : Fs} (h0 : f.base = g.base) (h1 : f.len = g.len) (h2 : f.mark = g.mark) (h3 : f.sum = g.sum) (h4 : f.st = g.st) (h5 : f.cnt = g.cnt) (h6 : f.first = g.first) (h7 : f.grt = g.grt) (h8 : f.prod = g.prod) (h9 : f.seq = g.seq) : f = g := by
  cases f; cases g; simp_all
theorem rfh_of {s : ByteArray} {f : Fs} {L : List Rec} {b : ByteArray} (T : Tkn s f L b) (pk : Bool) (l : List RI) (hl : l.length = f.cnt) (a : Option Addr) (cap : Nat) : rfh ⟨f.base, pk, f.prod, f.seq, l, a, cap⟩ = 0 := by
  have R := T.r
  have h1 := R.c1
  have h2 := R.c2
  have h3 := R.o
  unfold rfh
  dsimp only
  rw [hl, if_neg (by omega), if_neg (by omega), if_neg (by rw [R.p]; simpa using R.b), if_neg (by omega)]
theorem grt_list {l : List RI} (h : 1 ≤ l.length) : grt l = gr (l.map RI.r) := by
  unfold grt
  rw [if_neg (by omega), gm_gr l RI.r (fun x => rfl) l.length h (Nat.le_refl _), List.take_length]
theorem head_two {s : ByteArray} (h : 51 ≤ s.size) : usm (fsOf s) = (bl s).take 17 ∧ smd (fsOf s) = ((bl s).drop 17).take 34 := by
  have e := head_bytes h
  have e2 : (bl s).take 51 = (bl s).take 17 ++ ((bl s).drop 17).take 34 := (take_more 17 34).symm
  rw [e2] at e
  exact List.append_inj e (by rw [usm_len, List.length_take, bl_len]; omega)
theorem form_bytes {s : ByteArray} {f : Fs} {L : List Rec} {b : ByteArray} (T : Tkn s f L b) (hb : s.extract 51 (12 + f.len) = b) (hst : f.st = 0) (l : List RI) (hl : l.map RI.r = L) (a : Option Addr) (cap : Nat) (E : Nat) (S : ByteArray) (h : EncP ⟨f.base, false, f.prod, f.seq, l, a, cap⟩ E S) : E = 0 ∧ S = s.extract 0 (12 + f.len) := by
  have hrb := T.rb
  rw [← hl] at hrb
  obtain ⟨_, b2, b3, b4, b5, b6⟩ := body_again hrb
  have hlen : l.length = f.cnt := by omega
  have h0 := rfh_of T false l hlen a cap
  have hl1 := T.r.l1
  have hl2 := T.r.l2
  have hn := T.n
  have hbz : b.size = f.len - 39 := by rw [← hb, ByteArray.size_extract]; omega
  have main : S = frm (fsB ⟨f.base, false, f.prod, f.seq, l, a, cap⟩ b.size) b → S = s.extract 0 (12 + f.len) := by
    intro hS
    have hF : fsB ⟨f.base, false, f.prod, f.seq, l, a, cap⟩ b.size = { f with sum := 0 } := by
      apply Fs.ext'
      · rfl
      · show 39 + b.size = f.len; omega
      · exact T.r.mark.symm
      · rfl
      · exact hst.symm
      · exact hlen
      · exact b4
      · show grt l = f.grt
        rw [grt_list (by omega), hl]
        exact T.gr
      · rfl
      · rfl
    have h51 : 51 ≤ s.size := by omega
    obtain ⟨u1, u2⟩ := head_two h51
    rw [← T.fs] at u1 u2
    have ed : (bl s).drop 51 = ((bl s).drop 17).drop 34 := by rw [List.drop_drop]
    have hbb : bl b = ((bl s).drop 51).take (12 + f.len - 51) := by rw [← hb, bl_ext]
    have hsm : bs (smd f) ++ b = s.extract 17 (12 + f.len) := by
      apply bl_inj
      rw [bl_app, bl_bs _ (smd_byte _), u2, hbb, bl_ext, ed, take_more, show 34 + (12 + f.len - 51) = 12 + f.len - 17 by omega]
    have hsmo : smo { f with sum := 0 } b = f.sum := by
      show crcOf (bs (smd f) ++ b) = _
      rw [hsm]
      exact T.sum
    rw [hS, hF]
    apply bl_inj
    unfold frm
    rw [hsmo, bl_app, bl_app]
    show bl (bs (usm f)) ++ bl (bs (smd f)) ++ bl b = _
    rw [bl_bs _ (usm_byte _), bl_bs _ (smd_byte _), u1, u2, hbb, bl_ext, List.drop_zero, take_more, take_more, show 17 + 34 + (12 + f.len - 51) = 12 + f.len - 0 by omega]
  rcases h with ⟨h1, h2, _⟩ | ⟨h1, T', h2, h3⟩
  · exfalso
    generalize (⟨#[]⟩ : ByteArray) = Z at h2
    cases h2 with
    | head h => exact h h0
    | body E h4 h5 h6 => exact h5 (b6 _ _ h6).1
    | big S0 h4 h5 h6 =>
      rw [(b6 _ _ h5).2] at h6
      have : sto ⟨f.base, false, f.prod, f.seq, l, a, cap⟩ b = b := rfl
      rw [this] at h6
      omega
    | ok S0 h4 h5 h6 => exact h1 rfl
  · refine ⟨h1, main ?_⟩
    obtain ⟨_, S0, h5, h6, h7⟩ := sto_ok h2
    rw [(b6 _ _ h5).2] at h6
    have e : T' = b := h6
    rw [h3, e]
end Go.Proofs.YtajmcnlbkdfloaaGreat
namespace Go.Proofs.YtajmcnlbkdfloaaGreat
open Go.RowKit
set_option maxHeartbeats 1000000 in
set_option maxRecDepth 20000 in
theorem form_err (s : ByteArray) (fr pl : Int) (x : Nat) (w : World) (hx : x ≠ 0) (CD : Hid (∀ w, Calls Tryz.prog 17 #[.string s, .int .i64 fr, .int .i64 pl] w fun e w' => e = .returned (.tuple #[noBt, .int .i64 0, .int .i64 x]) ∧ Below w.heap.size w w')) :
    Calls Tryz.prog 8 #[.string s, .agg #[.int .i64 fr, .int .i64 pl]] w fun e w' => e = .returned (.bool true) ∧ Below w.heap.size w w' := by
  have CA := hid (fun w => awake6_any w)
  unfold noBt at CD
  have hx' : ¬ (x : Int) = 0 := by omega
  have N0 := Bx1.new w #[.int .i64 fr, .int .i64 pl] 33
  go_enter Tryz.func8, Tryz.ntmps8
  go_wp2_with fail
  refine (CA.out _).mono ?_
  rintro e w1 ⟨rfl, b1⟩
  have N1 := N0.call b1
  have k0 : w1.cell? ⟨w.heap.size, 0, none⟩ = some (.int .i64 fr) := (cell_of N1.p).trans rfl
  have k1 : w1.cell? ⟨w.heap.size, 1, none⟩ = some (.int .i64 pl) := (cell_of N1.p).trans rfl
  clear b1 N0
  go_wp2_with fail
  refine (CD.out _).mono ?_
  rintro e w2 ⟨rfl, b2⟩
  have N2 := N1.call b2
  clear b2 N1 k0 k1
  go_wp2_with fail
  go_ret
  exact ⟨rfl, N2.b.alloc N2.b.size _⟩
set_option maxHeartbeats 2000000 in
set_option maxRecDepth 20000 in
theorem form_plain (s : ByteArray) (fr pl : Int) (f : Fs) (L : List Rec) (w : World) (hn1 : 58 ≤ 12 + f.len) (hn2 : 12 + f.len ≤ s.size) (hn3 : 12 + f.len ≤ 16777216)
    (CD : Hid (∀ w, Calls Tryz.prog 17 #[.string s, .int .i64 fr, .int .i64 pl] w fun e w' => ∃ l a cap, e = .returned (.tuple #[.agg #[.int .i64 f.base, .bool false, .int .i64 f.prod, .int .i32 f.seq, .slice a l.length cap], .int .i64 (12 + f.len : Nat), .int .i64 0]) ∧ Rcs w' a l ∧ l.map RI.r = L ∧ Below w.heap.size w w'))
    (CE : Hid (∀ (l : List RI) a cap w, Rcs w a l → l.map RI.r = L → Calls Tryz.prog 10 #[.agg #[.int .i64 f.base, .bool false, .int .i64 f.prod, .int .i32 f.seq, .slice a l.length cap]] w fun e w' => e = .returned (.tuple #[.string (s.extract 0 (12 + f.len)), .int .i64 0]) ∧ Below w.heap.size w w')) :
    Calls Tryz.prog 8 #[.string s, .agg #[.int .i64 fr, .int .i64 pl]] w fun e w' => e = .returned (.bool true) ∧ Below w.heap.size w w' := by
  have CA := hid (fun w => awake6_any w)
  have N0 := Bx1.new w #[.int .i64 fr, .int .i64 pl] 33
  generalize hN : 12 + f.len = N at *
  have d1 : (58 : Int) ≤ N := by omega
  have d2 : (N : Int) ≤ s.size := by omega
  obtain ⟨base, len, mark, sum, st, cnt, first, grt, prod, seq⟩ := f
  dsimp only at *
  go_enter Tryz.func8, Tryz.ntmps8
  go_wp2_with fail
  refine (CA.out _).mono ?_
  rintro e w1 ⟨rfl, b1⟩
  have N1 := N0.call b1
  have k0 : w1.cell? ⟨w.heap.size, 0, none⟩ = some (.int .i64 fr) := (cell_of N1.p).trans rfl
  have k1 : w1.cell? ⟨w.heap.size, 1, none⟩ = some (.int .i64 pl) := (cell_of N1.p).trans rfl
  clear b1 N0
  go_wp2_with fail
  refine (CD.out _).mono ?_
  rintro e w2 ⟨l, a, cap, rfl, V2, hl, b2⟩
  have N2 := (N1.call b2).alloc (.cells #[.int .i64 base, .bool false, .int .i64 prod, .int .i32 seq, .slice a l.length cap] 24)
  have V3 := V2.below ((Below.refl w2.heap.size w2).alloc (Nat.le_refl _) (.cells #[.int .i64 base, .bool false, .int .i64 prod, .int .i32 seq, .slice a l.length cap] 24))
  clear b2 N1 k0 k1 V2
  go_wp2_with fail
  refine (CE.out l a cap _ V3 hl).mono ?_
  rintro e w3 ⟨rfl, b3⟩
  have N3 := N2.call b3
  clear b3 N2 V3
  go_wp2_with fail
  go_ret
  exact ⟨rfl, N3.b⟩
set_option maxHeartbeats 2000000 in
set_option maxRecDepth 20000 in
theorem form_packed (s : ByteArray) (fr pl : Int) (f : Fs) (L : List Rec) (w : World) (hn1 : 58 ≤ 12 + f.len) (hn2 : 12 + f.len ≤ s.size) (hn3 : 12 + f.len ≤ 16777216)
    (CD : Hid (∀ w, Calls Tryz.prog 17 #[.string s, .int .i64 fr, .int .i64 pl] w fun e w' => ∃ l a cap, e = .returned (.tuple #[.agg #[.int .i64 f.base, .bool true, .int .i64 f.prod, .int .i32 f.seq, .slice a l.length cap], .int .i64 (12 + f.len : Nat), .int .i64 0]) ∧ Rcs w' a l ∧ l.map RI.r = L ∧ Below w.heap.size w w'))
    (CE : Hid (∀ (l : List RI) a cap w, Rcs w a l → l.map RI.r = L → Calls Tryz.prog 10 #[.agg #[.int .i64 f.base, .bool false, .int .i64 f.prod, .int .i32 f.seq, .slice a l.length cap]] w fun e w' => (∃ (E : Nat) (S : ByteArray), e = .returned (.tuple #[.string S, .int .i64 E]) ∧ EncP ⟨f.base, false, f.prod, f.seq, l, a, cap⟩ E S) ∧ Below w.heap.size w w'))
    (CN : Hid (∀ w, Calls Tryz.prog 17 #[.string ⟨#[]⟩, .int .i64 16777216, .int .i64 16777216] w fun e w' => e = .returned (.tuple #[.agg #[.int .i64 0, .bool false, .int .i64 0, .int .i32 0, .slice none 0 0], .int .i64 0, .int .i64 20]) ∧ Below w.heap.size w w'))
    (CY : Hid (∀ (l : List RI) a cap S w, l.map RI.r = L → EncP ⟨f.base, false, f.prod, f.seq, l, a, cap⟩ 0 S → Calls Tryz.prog 17 #[.string S, .int .i64 16777216, .int .i64 16777216] w fun e w' => ∃ l2 a2 cap2 n, e = .returned (.tuple #[.agg #[.int .i64 f.base, .bool false, .int .i64 f.prod, .int .i32 f.seq, .slice a2 l2.length cap2], .int .i64 n, .int .i64 0]) ∧ Rcs w' a2 l2 ∧ l2.map RI.r = L.map cln ∧ Below w.heap.size w w'))
    (CM : Hid (∀ (l l2 : List RI) a a2 cap cap2 w, Rcs w a l → Rcs w a2 l2 → l.map RI.r = L → l2.map RI.r = L.map cln → Calls Tryz.prog 23 #[.agg #[.int .i64 f.base, .bool false, .int .i64 f.prod, .int .i32 f.seq, .slice a l.length cap], .agg #[.int .i64 f.base, .bool false, .int .i64 f.prod, .int .i32 f.seq, .slice a2 l2.length cap2]] w fun e w' => e = .returned (.bool true) ∧ Below w.heap.size w w')) :
    Calls Tryz.prog 8 #[.string s, .agg #[.int .i64 fr, .int .i64 pl]] w fun e w' => e = .returned (.bool true) ∧ Below w.heap.size w w' := by
  have CA := hid (fun w => awake6_any w)
  have N0 := Bx1.new w #[.int .i64 fr, .int .i64 pl] 33
  generalize hN : 12 + f.len = N at *
  have d1 : (58 : Int) ≤ N := by omega
  have d2 : (N : Int) ≤ s.size := by omega
  obtain ⟨base, len, mark, sum, st, cnt, first, grt, prod, seq⟩ := f
  dsimp only at *
  go_enter Tryz.func8, Tryz.ntmps8
  go_wp2_with fail
  refine (CA.out _).mono ?_
  rintro e w1 ⟨rfl, b1⟩
  have N1 := N0.call b1
  have k0 : w1.cell? ⟨w.heap.size, 0, none⟩ = some (.int .i64 fr) := (cell_of N1.p).trans rfl
  have k1 : w1.cell? ⟨w.heap.size, 1, none⟩ = some (.int .i64 pl) := (cell_of N1.p).trans rfl
  clear b1 N0
  go_wp2_with fail
  refine (CD.out _).mono ?_
  rintro e w2 ⟨l, a, cap, rfl, V2, hl, b2⟩
  have N2 := (N1.call b2).alloc (.cells #[.int .i64 base, .bool false, .int .i64 prod, .int .i32 seq, .slice a l.length cap] 24)
  have H2 : (w2.alloc (.cells #[.int .i64 base, .bool false, .int .i64 prod, .int .i32 seq, .slice a l.length cap] 24)).heap[w2.heap.size]? = some (.cells #[.int .i64 base, .bool false, .int .i64 prod, .int .i32 seq, .slice a l.length cap] 24 (0, 0)) := heap_new _ _
  have V3 := V2.below ((Below.refl w2.heap.size w2).alloc (Nat.le_refl _) (.cells #[.int .i64 base, .bool false, .int .i64 prod, .int .i32 seq, .slice a l.length cap] 24))
  clear b2 N1 k0 k1 V2
  go_wp2_with fail
  generalize w2.alloc (.cells #[.int .i64 base, .bool false, .int .i64 prod, .int .i32 seq, .slice a l.length cap] 24) = W2 at *
  refine (CE.out l a cap _ V3 hl).mono ?_
  rintro e w3 ⟨⟨E, S, rfl, hE⟩, b3⟩
  have N3 := N2.call b3
  have H3 := keep H2 b3
  have V4 := V3.below b3
  clear b3 N2 V3 H2
  by_cases hE0 : E = 0
  · subst hE0
    go_wp2_with fail
    refine (CY.out l a cap S _ hl hE).mono ?_
    rintro e w4 ⟨l2, a2, cap2, n2, rfl, V5, hl2, b4⟩
    have N4 := N3.call b4
    have H4 := keep H3 b4
    have V6 := V4.below b4
    have BA := (Below.refl w4.heap.size w4).alloc (Nat.le_refl _) (.cells #[.int .i64 base, .bool false, .int .i64 prod, .int .i32 seq, .slice a2 l2.length cap2] 24)
    have N5 := N4.alloc (.cells #[.int .i64 base, .bool false, .int .i64 prod, .int .i32 seq, .slice a2 l2.length cap2] 24)
    have V7 := V6.below BA
    have V8 := V5.below BA
    obtain ⟨k0, k1, k2, k3, k4⟩ := cells5 (heap_alloc_at (o' := .cells #[.int .i64 base, .bool false, .int .i64 prod, .int .i32 seq, .slice a2 l2.length cap2] 24) H4)
    clear b4 N4 V6 V5 BA H4 H3 V4
    go_wp2_with fail
    refine (CM.out l l2 a a2 cap cap2 _ V7 V8 hl hl2).mono ?_
    rintro e w5 ⟨rfl, b5⟩
    have N6 := N5.call b5
    clear b5
    go_wp2_with fail
    go_ret
    exact ⟨rfl, N6.b⟩
  · have hE' : ¬ (E : Int) = 0 := by omega
    obtain rfl : S = ⟨#[]⟩ := by
      rcases hE with ⟨_, _, h⟩ | ⟨h, _⟩
      · exact h
      · exact absurd h hE0
    clear hE
    go_wp2_with fail
    refine (CN.out _).mono ?_
    rintro e w4 ⟨rfl, b4⟩
    have N4 := N3.call b4
    clear b4
    go_wp2_with fail
    go_ret
    exact ⟨rfl, N4.b.alloc N4.b.size _⟩
end Go.Proofs.YtajmcnlbkdfloaaGreat
namespace Go.Proofs.YtajmcnlbkdfloaaGreat
open Go.RowKit
theorem cln_cln (r : Rec) : cln (cln r) = cln r := by
  unfold cln
  simp only [bd_bd, List.map_map]
  congr 1
  apply List.map_congr_left
  intro x _
  simp [bd_bd]
theorem dec_empty : dcd ⟨#[]⟩ 16777216 16777216 = .error 20 := by rfl
theorem form_walk (s : ByteArray) (fr pl : Int) (w : World) (hs : s.size ≤ 9223372036854775807) :
    Calls Tryz.prog 8 #[.string s, .agg #[.int .i64 fr, .int .i64 pl]] w fun e w' => e = .returned (.bool true) ∧ Below w.heap.size w w' := by
  have cd := fun w => decode_any s fr pl w hs
  cases hd : dcd s fr pl with
  | error x =>
    have hx : x ≠ 0 := by
      unfold dcd at hd
      split at hd
      · rename_i h; injection hd with hd; subst hd; exact opn_err h
      · rename_i f b h
        obtain ⟨L, T, _⟩ := taken h
        rw [T.rb] at hd
        cases hd
    refine form_err s fr pl x w hx (hid fun w => ?_)
    have c := cd w
    rw [hd] at c
    exact c.mono fun e w' h => ⟨h.2.1, h.1⟩
  | ok y =>
    obtain ⟨f, L⟩ := y
    have hop : ∃ b, opn s fr pl = .ok (f, b) ∧ rbd b f.first f.cnt = .ok L := by
      unfold dcd at hd
      split at hd
      · cases hd
      · rename_i f' b h
        split at hd
        · cases hd
        · rename_i L' hr
          injection hd with hd
          injection hd with e1 e2
          subst e1 e2
          exact ⟨b, h, hr⟩
    obtain ⟨b, ho, hrb⟩ := hop
    obtain ⟨L2, T, hbod⟩ := taken ho
    have hLL : L2 = L := by have := T.rb; rw [hrb] at this; injection this with h; exact h.symm
    subst hLL
    have hl1 := T.r.l1
    have hl2 := T.r.l2
    have hn := T.n
    have hst := T.r.st
    have fact : ∀ l : List RI, l.map RI.r = L2 → (∀ x ∈ l, I64 x.r.t ∧ Mod x.r) ∧ l.length = f.cnt := fun l hl => by
      rw [← hl] at hrb
      obtain ⟨b1, b2, _⟩ := body_again hrb
      exact ⟨b1, by omega⟩
    have ce : ∀ (l : List RI) a cap w, Rcs w a l → l.map RI.r = L2 → Calls Tryz.prog 10 #[.agg #[.int .i64 f.base, .bool false, .int .i64 f.prod, .int .i32 f.seq, .slice a l.length cap]] w fun e w' => (∃ (E : Nat) (S : ByteArray), e = .returned (.tuple #[.string S, .int .i64 E]) ∧ EncP ⟨f.base, false, f.prod, f.seq, l, a, cap⟩ E S) ∧ Below w.heap.size w w' := fun l a cap w V hl =>
      encode_any ⟨f.base, false, f.prod, f.seq, l, a, cap⟩ w V (fun x hx => ((fact l hl).1 x hx).1) (fun x hx => ((fact l hl).1 x hx).2) (by have := (fact l hl).2; have := T.r.c2; show l.length ≤ _; omega)
    have cdo : ∀ (pk : Bool), decide (f.st = 1) = pk → ∀ w, Calls Tryz.prog 17 #[.string s, .int .i64 fr, .int .i64 pl] w fun e w' => ∃ l a cap, e = .returned (.tuple #[.agg #[.int .i64 f.base, .bool pk, .int .i64 f.prod, .int .i32 f.seq, .slice a l.length cap], .int .i64 (12 + f.len : Nat), .int .i64 0]) ∧ Rcs w' a l ∧ l.map RI.r = L2 ∧ Below w.heap.size w w' := fun pk hpk w => by
      have c := cd w
      rw [hd] at c
      refine c.mono ?_
      rintro e w' ⟨hb, v, l, rfl, hH, hl⟩
      obtain ⟨a, cap, rfl, hV⟩ := hH.slice
      dsimp only
      rw [hpk]
      exact ⟨l, a, cap, rfl, hV, hl, hb⟩
    by_cases hs0 : f.st = 0
    · have hex : s.extract 51 (12 + f.len) = b := by
        unfold bod at hbod
        rw [if_neg (by omega)] at hbod
        split at hbod
        · cases hbod
        · injection hbod
      refine form_plain s fr pl f L2 w (by omega) hn (by omega) (hid (cdo false (decide_eq_false (by omega)))) (hid fun l a cap w V hl => ?_)
      refine (ce l a cap w V hl).mono ?_
      rintro e w' ⟨⟨E, S, rfl, hE⟩, hb⟩
      obtain ⟨rfl, rfl⟩ := form_bytes T hex hs0 l hl a cap E S hE
      exact ⟨rfl, hb⟩
    · have hs1 : f.st = 1 := by omega
      have hpr : -9223372036854775808 ≤ f.prod ∧ f.prod ≤ 9223372036854775807 := by rw [T.fs]; exact wrap64_in _
      have hsq : -2147483648 ≤ f.seq ∧ f.seq ≤ 2147483647 := by rw [T.fs]; show _ ≤ wrap32 _ ∧ wrap32 _ ≤ _; unfold wrap32; omega
      refine form_packed s fr pl f L2 w (by omega) hn (by omega) (hid (cdo true (decide_eq_true hs1))) (hid ce) (hid fun w => ?_) (hid fun l a cap S w hl hE => ?_) (hid fun l l2 a a2 cap cap2 w V1 V2 h1 h2 => ?_)
      · have c := decode_any ⟨#[]⟩ 16777216 16777216 w (by decide)
        rw [dec_empty] at c
        exact c.mono fun e w' h => ⟨h.2.1, h.1⟩
      · have hB : BtOk ⟨f.base, false, f.prod, f.seq, l, a, cap⟩ := ⟨fun x hx => ((fact l hl).1 x hx).1, fun x hx => ((fact l hl).1 x hx).2, by have := (fact l hl).2; have := T.r.c2; show l.length ≤ _; omega, hpr.1, hpr.2, hsq.1, hsq.2⟩
        have hS : ∃ S0, BodyP l 0 S0 ∧ S = frm (fsB ⟨f.base, false, f.prod, f.seq, l, a, cap⟩ S0.size) S0 ∧ S0.size ≤ 16777165 := by
          rcases hE with ⟨h, _⟩ | ⟨_, T', h2, h3⟩
          · exact absurd rfl h
          · obtain ⟨_, S0, h5, h6, h7⟩ := sto_ok h2
            have e : T' = S0 := h6
            subst e
            exact ⟨T', h5, h3, h7⟩
        obtain ⟨S0, q1, q2, q3⟩ := hS
        have hop := opn_frame (b := ⟨f.base, false, f.prod, f.seq, l, a, cap⟩) hB (rfh_of T false l (fact l hl).2 a cap) q1 (show (sto ⟨f.base, false, f.prod, f.seq, l, a, cap⟩ S0).size ≤ 16777165 from q3) ⟨#[]⟩ 16777216 16777216 (by show ((51 + S0.size : Nat) : Int) ≤ wth 16777216 58 16777216; unfold wth; omega) (by unfold wth; omega)
        rw [app_emp] at hop
        have hop2 : opn S 16777216 16777216 = .ok (hdB ⟨f.base, false, f.prod, f.seq, l, a, cap⟩ S0, S0) := by rw [q2]; exact hop
        have hbk := (body_back (fun x hx => ((fact l hl).1 x hx).1) (fun x hx => ((fact l hl).1 x hx).2) q1).2.2.2.2.1
        have hdd : dcd S 16777216 16777216 = .ok (hdB ⟨f.base, false, f.prod, f.seq, l, a, cap⟩ S0, (l.map RI.r).map cln) := by
          unfold dcd
          rw [hop2]
          dsimp only
          rw [show rbd S0 (hdB ⟨f.base, false, f.prod, f.seq, l, a, cap⟩ S0).first (hdB ⟨f.base, false, f.prod, f.seq, l, a, cap⟩ S0).cnt = .ok ((l.map RI.r).map cln) from hbk]
        have c := decode_any S 16777216 16777216 w (by rw [q2, frm_size]; omega)
        rw [hdd] at c
        refine c.mono ?_
        rintro e w' ⟨hb, v, l2, rfl, hH, hl2⟩
        obtain ⟨a2, cap2, rfl, hV⟩ := hH.slice
        exact ⟨l2, a2, cap2, _, rfl, hV, by rw [hl2, hl], hb⟩
      · refine sameB_yes ⟨f.base, false, f.prod, f.seq, l, a, cap⟩ ⟨f.base, false, f.prod, f.seq, l2, a2, cap2⟩ w V1 V2 ⟨rfl, rfl, rfl, rfl, ?_⟩ (by have := (fact l h1).2; have := T.r.c2; show l.length ≤ _; omega) (fun x hx => ((fact l h1).1 x hx).2.n)
        show l.map (fun x => cln x.r) = l2.map (fun x => cln x.r)
        have e1 : l.map (fun x => cln x.r) = (l.map RI.r).map cln := by rw [List.map_map]; rfl
        have e2 : l2.map (fun x => cln x.r) = (l2.map RI.r).map cln := by rw [List.map_map]; rfl
        have e3 : ∀ M : List Rec, (M.map cln).map cln = M.map cln := fun M => by rw [List.map_map]; exact List.map_congr_left (fun x _ => cln_cln x)
        rw [e1, e2, h2, e3, h1]
end Go.Proofs.YtajmcnlbkdfloaaGreat
namespace Go.Proofs.YtajmcnlbkdfloaaGreat
open Go.RowKit
set_option maxHeartbeats 1000000 in
set_option maxRecDepth 20000 in
theorem peekH_no (s : ByteArray) (E : Nat) (w : World) (h0 : ¬ E = 0) (CP : Hid (∀ w, Calls Tryz.prog 35 #[.string s] w fun e w' => e = .returned (.tuple #[.agg #[.int .i64 0, .int .u32 0, .int .u8 0, .int .u32 0, .int .u16 0, .int .u32 0, .int .i64 0, .int .i64 0, .int .i64 0, .int .i32 0], .int .i64 E]) ∧ Below w.heap.size w w')) :
    Calls Tryz.prog 13 #[.string s] w fun e w' => e = .returned (.tuple #[.agg #[.int .i64 0, .int .i64 0, .bool false, .int .i64 0, .int .i64 0, .int .i64 0, .int .i64 0, .int .i32 0], .int .i64 E]) ∧ Below w.heap.size w w' := by
  have h0' : ¬ (E : Int) = 0 := by omega
  go_enter Tryz.func13, Tryz.ntmps13
  go_wp2_with fail
  refine (CP.out _).mono ?_
  rintro e w1 ⟨rfl, b1⟩
  have X1 := ((Bx1.new w #[.int .i64 0, .int .i64 0, .bool false, .int .i64 0, .int .i64 0, .int .i64 0, .int .i64 0, .int .i32 0] 35).call b1).alloc (.cells #[.int .i64 0, .int .u32 0, .int .u8 0, .int .u32 0, .int .u16 0, .int .u32 0, .int .i64 0, .int .i64 0, .int .i64 0, .int .i32 0] 57)
  obtain ⟨r0, r1, r2, r3, r4, r5, r6, r7⟩ := cells8 X1.p
  obtain ⟨z0, z1, z2, z3, z4, z5, z6, z7⟩ := froz8 X1.p
  clear b1
  go_wp2_with fail
  clear r0 r1 r2 r3 r4 r5 r6 r7 z0 z1 z2 z3 z4 z5 z6 z7
  have P := put8' X1 (.int .i64 0) (.int .i64 0) (.bool false) (.int .i64 0) (.int .i64 0) (.int .i64 0) (.int .i64 0) (.int .i32 0)
  generalize (((((((((w1.alloc (.cells #[.int .i64 0, .int .u32 0, .int .u8 0, .int .u32 0, .int .u16 0, .int .u32 0, .int .i64 0, .int .i64 0, .int .i64 0, .int .i32 0] 57)).setCell ⟨w.heap.size, 0, none⟩ (.int .i64 0)).setCell ⟨w.heap.size, 1, none⟩ (.int .i64 0)).setCell ⟨w.heap.size, 2, none⟩ (.bool false)).setCell ⟨w.heap.size, 3, none⟩ (.int .i64 0)).setCell ⟨w.heap.size, 4, none⟩ (.int .i64 0)).setCell ⟨w.heap.size, 5, none⟩ (.int .i64 0)).setCell ⟨w.heap.size, 6, none⟩ (.int .i64 0)).setCell ⟨w.heap.size, 7, none⟩ (.int .i32 0)) = WF at *
  obtain ⟨e0, e1, e2, e3, e4, e5, e6, e7⟩ := cells8 P.p
  exact bodyPost_ret (v := .tuple #[.agg #[.int .i64 0, .int .i64 0, .bool false, .int .i64 0, .int .i64 0, .int .i64 0, .int .i64 0, .int .i32 0], .int .i64 E]) (by simp [results, Tryz.results13, go_sem, e0, e1, e2, e3, e4, e5, e6, e7]) rfl ⟨rfl, P.b⟩
set_option maxHeartbeats 1000000 in
set_option maxRecDepth 20000 in
theorem peekH_yes (s : ByteArray) (c0 c6 c7 c8 c9 : Int) (c1 c2 c3 c4 c5 : Nat) (b0 b1 : Int) (b2 : Bool) (b3 b4 b5 b6 b7 : Int) (w : World)
    (CP : Hid (∀ w, Calls Tryz.prog 35 #[.string s] w fun e w' => e = .returned (.tuple #[.agg #[.int .i64 c0, .int .u32 c1, .int .u8 c2, .int .u32 c3, .int .u16 c4, .int .u32 c5, .int .i64 c6, .int .i64 c7, .int .i64 c8, .int .i32 c9], .int .i64 0]) ∧ Below w.heap.size w w'))
    (CH : Hid (∀ w, Calls Tryz.prog 36 #[.agg #[.int .i64 c0, .int .u32 c1, .int .u8 c2, .int .u32 c3, .int .u16 c4, .int .u32 c5, .int .i64 c6, .int .i64 c7, .int .i64 c8, .int .i32 c9]] w fun e w' => e = .returned (.agg #[.int .i64 b0, .int .i64 b1, .bool b2, .int .i64 b3, .int .i64 b4, .int .i64 b5, .int .i64 b6, .int .i32 b7]) ∧ Below w.heap.size w w')) :
    Calls Tryz.prog 13 #[.string s] w fun e w' => e = .returned (.tuple #[.agg #[.int .i64 b0, .int .i64 b1, .bool b2, .int .i64 b3, .int .i64 b4, .int .i64 b5, .int .i64 b6, .int .i32 b7], .int .i64 0]) ∧ Below w.heap.size w w' := by
  go_enter Tryz.func13, Tryz.ntmps13
  go_wp2_with fail
  refine (CP.out _).mono ?_
  rintro e w1 ⟨rfl, b1'⟩
  have X1 := ((Bx1.new w #[.int .i64 0, .int .i64 0, .bool false, .int .i64 0, .int .i64 0, .int .i64 0, .int .i64 0, .int .i32 0] 35).call b1').alloc (.cells #[.int .i64 c0, .int .u32 c1, .int .u8 c2, .int .u32 c3, .int .u16 c4, .int .u32 c5, .int .i64 c6, .int .i64 c7, .int .i64 c8, .int .i32 c9] 57)
  have F1 : (w1.alloc (.cells #[.int .i64 c0, .int .u32 c1, .int .u8 c2, .int .u32 c3, .int .u16 c4, .int .u32 c5, .int .i64 c6, .int .i64 c7, .int .i64 c8, .int .i32 c9] 57)).heap[w1.heap.size]? = some (.cells #[.int .i64 c0, .int .u32 c1, .int .u8 c2, .int .u32 c3, .int .u16 c4, .int .u32 c5, .int .i64 c6, .int .i64 c7, .int .i64 c8, .int .i32 c9] 57 (0, 0)) := heap_new _ _
  obtain ⟨W1, hW1⟩ : ∃ x, (w1.alloc (.cells #[.int .i64 c0, .int .u32 c1, .int .u8 c2, .int .u32 c3, .int .u16 c4, .int .u32 c5, .int .i64 c6, .int .i64 c7, .int .i64 c8, .int .i32 c9] 57)) = x := ⟨_, rfl⟩
  rw [hW1] at X1 F1
  obtain ⟨f0, f1, f2, f3, f4, f5, f6, f7, f8, f9⟩ := cells10 F1
  clear b1'
  go_wp2_with fail
  refine (CH.out _).mono ?_
  rintro e w2 ⟨rfl, b2'⟩
  have X2 := X1.call b2'
  clear f0 f1 f2 f3 f4 f5 f6 f7 f8 f9 b2' X1 F1
  obtain ⟨r0, r1, r2, r3, r4, r5, r6, r7⟩ := cells8 X2.p
  obtain ⟨z0, z1, z2, z3, z4, z5, z6, z7⟩ := froz8 X2.p
  go_wp2_with fail
  clear r0 r1 r2 r3 r4 r5 r6 r7 z0 z1 z2 z3 z4 z5 z6 z7
  have P := put8' X2 (.int .i64 b0) (.int .i64 b1) (.bool b2) (.int .i64 b3) (.int .i64 b4) (.int .i64 b5) (.int .i64 b6) (.int .i32 b7)
  generalize ((((((((w2.setCell ⟨w.heap.size, 0, none⟩ (.int .i64 b0)).setCell ⟨w.heap.size, 1, none⟩ (.int .i64 b1)).setCell ⟨w.heap.size, 2, none⟩ (.bool b2)).setCell ⟨w.heap.size, 3, none⟩ (.int .i64 b3)).setCell ⟨w.heap.size, 4, none⟩ (.int .i64 b4)).setCell ⟨w.heap.size, 5, none⟩ (.int .i64 b5)).setCell ⟨w.heap.size, 6, none⟩ (.int .i64 b6)).setCell ⟨w.heap.size, 7, none⟩ (.int .i32 b7)) = WF at *
  obtain ⟨e0, e1, e2, e3, e4, e5, e6, e7⟩ := cells8 P.p
  exact bodyPost_ret (v := .tuple #[.agg #[.int .i64 b0, .int .i64 b1, .bool b2, .int .i64 b3, .int .i64 b4, .int .i64 b5, .int .i64 b6, .int .i32 b7], .int .i64 0]) (by simp [results, Tryz.results13, go_sem, e0, e1, e2, e3, e4, e5, e6, e7]) rfl ⟨rfl, P.b⟩
/-- What Peek answers. -/
def PkV (s : ByteArray) : Value := if pke s = 0 then .tuple #[hdV (fsOf s), .int .i64 0] else .tuple #[noHd, .int .i64 (pke s)]
theorem peekH_any (s : ByteArray) (w : World) (hs : s.size ≤ 9223372036854775807) : Calls Tryz.prog 13 #[.string s] w fun e w' => e = .returned (PkV s) ∧ Below w.heap.size w w' := by
  have cp := fun w => peek_any s w hs
  unfold PeekP at cp
  unfold PkV
  by_cases h0 : pke s = 0
  · rw [if_pos h0] at cp ⊢
    have hz : ¬ s.size < 51 := by intro h; rw [pke_short h] at h0; cases h0
    have ch := fun w => b6head_any (fsOf s) w (fsOf_ok (by omega))
    unfold hdV fsV fsA at *
    exact peekH_yes s _ _ _ _ _ _ _ _ _ _ _ _ _ _ _ _ _ _ w (hid cp) (hid ch)
  · rw [if_neg h0] at cp ⊢
    exact peekH_no s _ w h0 (hid cp)
set_option maxHeartbeats 1000000 in
set_option maxRecDepth 20000 in
theorem size_any6 (b : Bt) (w : World) (V : Rcs w b.a b.l) (hT : ∀ x ∈ b.l, I64 x.r.t) (hM : ∀ x ∈ b.l, Mod x.r) (hL : b.l.length ≤ 9223372036854775807) :
    Calls Tryz.prog 11 #[btV b] w fun e w' => (∃ (E n : Nat) (T : ByteArray), e = .returned (.tuple #[.int .i64 n, .int .i64 E]) ∧ StoP b E T ∧ n = if E = 0 then 51 + T.size else 0) ∧ Below w.heap.size w w' := by
  have CS := hid (fun w V => store_any b w V hT hM hL)
  clear hT hM hL
  unfold btV btA at *
  go_enter Tryz.func11, Tryz.ntmps11
  go_wp2_with fail
  have N0 := Bx1.new w #[.int .i64 b.base, .bool b.pk, .int .i64 b.prod, .int .i32 b.seq, .slice b.a b.l.length b.cap] 24
  refine (CS.out _ (V.below N0.b)).mono ?_
  rintro e w1 ⟨⟨E, T, rfl, HS⟩, b1⟩
  have N1 := N0.call b1
  obtain ⟨z1, z2⟩ := sto_zero HS
  clear N0 b1 CS
  by_cases hE : E = 0
  · subst hE
    obtain ⟨hr, hn⟩ := z2 rfl
    have hn' : (T.size : Int) ≤ 16777165 := by omega
    have HP := hid HS
    clear z1 z2 HS hr
    go_wp2_with fail
    go_ret2
    exact ⟨⟨0, 51 + T.size, T, by simp, HP.out, by rw [if_pos rfl]⟩, N1.b⟩
  · have hE' : ¬ (E : Int) = 0 := by omega
    have HP := hid HS
    clear z1 z2 HS
    go_wp2_with fail
    go_ret2
    exact ⟨⟨E, 0, T, rfl, HP.out, by rw [if_neg hE]⟩, N1.b⟩
end Go.Proofs.YtajmcnlbkdfloaaGreat
namespace Go.Proofs.YtajmcnlbkdfloaaGreat
open Go.RowKit
set_option maxHeartbeats 1000000 in
set_option maxRecDepth 20000 in
theorem back_err (b : Bt) (more : ByteArray) (E : Nat) (w : World) (hx : E ≠ 0) (V : Rcs w b.a b.l)
    (CE : Hid (∀ w, Rcs w b.a b.l → Calls Tryz.prog 10 #[.agg #[.int .i64 b.base, .bool b.pk, .int .i64 b.prod, .int .i32 b.seq, .slice b.a b.l.length b.cap]] w fun e w' => e = .returned (.tuple #[.string ⟨#[]⟩, .int .i64 E]) ∧ Below w.heap.size w w')) :
    Calls Tryz.prog 7 #[.agg #[.int .i64 b.base, .bool b.pk, .int .i64 b.prod, .int .i32 b.seq, .slice b.a b.l.length b.cap], .string more] w fun e w' => e = .returned (.bool true) ∧ Below w.heap.size w w' := by
  have CA := hid (fun w => awake6_any w)
  have hx' : ¬ (E : Int) = 0 := by omega
  have N0 := Bx1.new w #[.int .i64 b.base, .bool b.pk, .int .i64 b.prod, .int .i32 b.seq, .slice b.a b.l.length b.cap] 24
  go_enter Tryz.func7, Tryz.ntmps7
  go_wp2_with fail
  refine (CA.out _).mono ?_
  rintro e w1 ⟨rfl, b1⟩
  have N1 := N0.call b1
  obtain ⟨k0, k1, k2, k3, k4⟩ := cells5 N1.p
  clear b1 N0
  go_wp2_with fail
  refine (CE.out _ (V.below N1.b)).mono ?_
  rintro e w2 ⟨rfl, b2⟩
  have N2 := N1.call b2
  clear b2 N1 k0 k1 k2 k3 k4
  go_wp2_with fail
  go_ret
  exact ⟨rfl, N2.b⟩
set_option maxRecDepth 20000 in
theorem neq_head (b0 b1 : Int) (b2 : Bool) (b3 b4 b5 b6 b7 : Int) (w : World) : (binOp .neq 35 (.agg #[.int .i64 b0, .int .i64 b1, .bool b2, .int .i64 b3, .int .i64 b4, .int .i64 b5, .int .i64 b6, .int .i32 b7]) (.agg #[.int .i64 b0, .int .i64 b1, .bool b2, .int .i64 b3, .int .i64 b4, .int .i64 b5, .int .i64 b6, .int .i32 b7])).run Tryz.prog w = .ok (.bool false) w := by
  rw [run_neq_struct, run_equalIn_agg w 9999 _ _ _ Tryz.headStruct Tryz.headHeld]
  have hf : (Tryz.prog.fieldsOf 35) = (match Tryz.prog.underlying 35 with | some (.struct fs) => fs | _ => #[]) := rfl
  rw [hf, Tryz.underlying35]
  simp [go_sem, Op.eqFields, Tryz.underlying4, Tryz.underlying3, Tryz.underlying2, Tryz.underlying21]
/-- The boxes on the way, and both lists of records. -/
structure BK (w : World) (B5 : Array Value) (a : Option Addr) (l : List RI) (g3 : Nat) (C5 : Array Value) (a2 : Option Addr) (l2 : List RI) (y : World) : Prop where
  n : Bx1 w B5 24 y
  c : y.heap[g3]? = some (.cells C5 24 (0, 0))
  v : Rcs y a l
  u : Rcs y a2 l2
theorem BK.call {w : World} {B5 : Array Value} {a : Option Addr} {l : List RI} {g3 : Nat} {C5 : Array Value} {a2 : Option Addr} {l2 : List RI} {y y' : World} (h : BK w B5 a l g3 C5 a2 l2 y) (k : Below y.heap.size y y') : BK w B5 a l g3 C5 a2 l2 y' := ⟨h.n.call k, keep h.c k, h.v.below k, h.u.below k⟩
theorem BK.alloc {w : World} {B5 : Array Value} {a : Option Addr} {l : List RI} {g3 : Nat} {C5 : Array Value} {a2 : Option Addr} {l2 : List RI} {y : World} (h : BK w B5 a l g3 C5 a2 l2 y) (o : Obj) : BK w B5 a l g3 C5 a2 l2 (y.alloc o) := h.call ((Below.refl _ _).alloc (Nat.le_refl _) o)
theorem BK.drew {w : World} {B5 : Array Value} {a : Option Addr} {l : List RI} {g3 : Nat} {C5 : Array Value} {a2 : Option Addr} {l2 : List RI} {y : World} (h : BK w B5 a l g3 C5 a2 l2 y) : BK w B5 a l g3 C5 a2 l2 y.drew := h.call ⟨rfl, rfl, rfl, Nat.le_refl _, fun _ _ => rfl⟩
/-- The batch's box, the head's, the first record's time. -/
structure BR (w : World) (g4 : Nat) (HD B5 : Array Value) (B off : Nat) (F0 : Int) (y : World) : Prop where
  n : Bx1 w B5 24 y
  h : y.heap[g4]? = some (.cells HD 35 (0, 0))
  t : y.cell? ⟨B, off, none⟩ = some (.int .i64 F0)
  lt : B < w.heap.size
theorem BR.call {w : World} {g4 : Nat} {HD B5 : Array Value} {B off : Nat} {F0 : Int} {y y' : World} (h : BR w g4 HD B5 B off F0 y) (k : Below y.heap.size y y') : BR w g4 HD B5 B off F0 y' := ⟨h.n.call k, keep h.h k, (k.cell (p := ⟨B, off, none⟩) (Nat.lt_of_lt_of_le h.lt h.n.b.size)).trans h.t, h.lt⟩
theorem BR.drew {w : World} {g4 : Nat} {HD B5 : Array Value} {B off : Nat} {F0 : Int} {y : World} (h : BR w g4 HD B5 B off F0 y) : BR w g4 HD B5 B off F0 y.drew := h.call ⟨rfl, rfl, rfl, Nat.le_refl _, fun _ _ => rfl⟩
theorem BR.all {w : World} {g4 : Nat} {v0 v1 v2 v3 v4 v5 v6 v7 u0 u1 u2 u3 u4 : Value} {B off : Nat} {F0 : Int} {y : World} (h : BR w g4 #[v0, v1, v2, v3, v4, v5, v6, v7] #[u0, u1, u2, u3, u4] B off F0 y) : y.cell? ⟨g4, 0, none⟩ = some v0 ∧ y.cell? ⟨g4, 1, none⟩ = some v1 ∧ y.cell? ⟨g4, 2, none⟩ = some v2 ∧ y.cell? ⟨g4, 3, none⟩ = some v3 ∧ y.cell? ⟨g4, 4, none⟩ = some v4 ∧ y.cell? ⟨g4, 5, none⟩ = some v5 ∧ y.cell? ⟨g4, 6, none⟩ = some v6 ∧ y.cell? ⟨g4, 7, none⟩ = some v7 ∧ y.cell? ⟨w.heap.size, 0, none⟩ = some u0 ∧ y.cell? ⟨w.heap.size, 1, none⟩ = some u1 ∧ y.cell? ⟨w.heap.size, 2, none⟩ = some u2 ∧ y.cell? ⟨w.heap.size, 3, none⟩ = some u3 ∧ y.cell? ⟨w.heap.size, 4, none⟩ = some u4 ∧ y.cell? ⟨B, off, none⟩ = some (.int .i64 F0) := by
  obtain ⟨a0, a1, a2, a3, a4, a5, a6, a7⟩ := cells8 h.h
  obtain ⟨c0, c1, c2, c3, c4⟩ := cells5 h.n.p
  exact ⟨a0, a1, a2, a3, a4, a5, a6, a7, c0, c1, c2, c3, c4, h.t⟩
/-- The boxes, and the records' times, while the list is gone through. -/
structure LW (w : World) (g4 : Nat) (HD B5 : Array Value) (B off : Nat) (l : List RI) (y : World) : Prop where
  n : Bx1 w B5 24 y
  h : y.heap[g4]? = some (.cells HD 35 (0, 0))
  t : ∀ j, j < l.length → y.cell? ⟨B, off + j * 6, none⟩ = some (.int .i64 (l.getD j dri).r.t)
theorem LW.drewN {w : World} {g4 : Nat} {HD B5 : Array Value} {B off : Nat} {l : List RI} {y : World} (h : LW w g4 HD B5 B off l y) (n : Nat) : LW w g4 HD B5 B off l (y.drewN n) := ⟨h.n.drewN n, h.h, h.t⟩
/-- Was the greatest time met among the first j? -/
def mt (l : List RI) (G : Int) : Nat → Bool
  | 0 => false
  | j + 1 => mt l G j || decide ((l.getD j dri).r.t = G)
theorem mt_succ (l : List RI) (G : Int) (j : Nat) : mt l G (j + 1) = (mt l G j || decide ((l.getD j dri).r.t = G)) := rfl
theorem mt_mono {l : List RI} {G : Int} {j : Nat} (h : mt l G j = true) : ∀ n, mt l G (j + n) = true
  | 0 => h
  | n + 1 => by rw [← Nat.add_assoc, mt_succ, mt_mono h n]; rfl
theorem mt_all {l : List RI} {G : Int} (h : ∃ j, j < l.length ∧ (l.getD j dri).r.t = G) : mt l G l.length = true := by
  obtain ⟨j, h1, h2⟩ := h
  have := mt_mono (l := l) (G := G) (j := j + 1) (by rw [mt_succ, decide_eq_true h2, Bool.or_true]) (l.length - (j + 1))
  rwa [show j + 1 + (l.length - (j + 1)) = l.length by omega] at this
set_option maxHeartbeats 2000000 in
set_option maxRecDepth 20000 in
theorem back_yes (base : Int) (pk : Bool) (prod seq : Int) (l : List RI) (B off : Nat) (cap : Nat) (more S : ByteArray) (F0 G : Int) (w : World) (V : Rcs w (some ⟨B, off, none⟩) l) (hB : B < w.heap.size) (hl0 : 1 ≤ l.length) (hl1 : l.length ≤ 65536) (hb0 : 0 ≤ base ∧ base ≤ 4611686018427387904) (hF : w.cell? ⟨B, off, none⟩ = some (.int .i64 F0)) (HT : Hid (∀ j, j < l.length → w.cell? ⟨B, off + j * 6, none⟩ = some (.int .i64 (l.getD j dri).r.t))) (hG : ∀ j, j < l.length → (l.getD j dri).r.t ≤ G) (hM : ∃ j, j < l.length ∧ (l.getD j dri).r.t = G) (hS : 51 ≤ S.size) (hS2 : S.size ≤ 16777216) (hm : more.size ≤ 9223372036800000000)
    (CE : Hid (∀ w, Rcs w (some ⟨B, off, none⟩) l → Calls Tryz.prog 10 #[.agg #[.int .i64 base, .bool pk, .int .i64 prod, .int .i32 seq, .slice (some ⟨B, off, none⟩) l.length cap]] w fun e w' => e = .returned (.tuple #[.string S, .int .i64 0]) ∧ Below w.heap.size w w'))
    (CD : Hid (∀ w, Calls Tryz.prog 17 #[.string (S ++ more), .int .i64 16777216, .int .i64 16777216] w fun e w' => ∃ l2 a2 cap2, e = .returned (.tuple #[.agg #[.int .i64 base, .bool pk, .int .i64 prod, .int .i32 seq, .slice a2 l2.length cap2], .int .i64 S.size, .int .i64 0]) ∧ Rcs w' a2 l2 ∧ l2.map RI.r = (l.map RI.r).map cln ∧ Below w.heap.size w w'))
    (CC : Hid (∀ w, Calls Tryz.prog 15 #[.string (S ++ more), .int .i64 16777216, .int .i64 16777216] w fun e w' => e = .returned (.tuple #[.agg #[.int .i64 base, .int .i64 S.size, .bool pk, .int .i64 l.length, .int .i64 F0, .int .i64 G, .int .i64 prod, .int .i32 seq], .int .i64 0]) ∧ Below w.heap.size w w'))
    (CP : Hid (∀ w, Calls Tryz.prog 13 #[.string (S.extract 0 51)] w fun e w' => e = .returned (.tuple #[.agg #[.int .i64 base, .int .i64 S.size, .bool pk, .int .i64 l.length, .int .i64 F0, .int .i64 G, .int .i64 prod, .int .i32 seq], .int .i64 0]) ∧ Below w.heap.size w w'))
    (CZ : Hid (∀ w, Rcs w (some ⟨B, off, none⟩) l → Calls Tryz.prog 11 #[.agg #[.int .i64 base, .bool pk, .int .i64 prod, .int .i32 seq, .slice (some ⟨B, off, none⟩) l.length cap]] w fun e w' => e = .returned (.tuple #[.int .i64 S.size, .int .i64 0]) ∧ Below w.heap.size w w'))
    (CM : Hid (∀ (l2 : List RI) a2 cap2 w, Rcs w (some ⟨B, off, none⟩) l → Rcs w a2 l2 → l2.map RI.r = (l.map RI.r).map cln → Calls Tryz.prog 23 #[.agg #[.int .i64 base, .bool pk, .int .i64 prod, .int .i32 seq, .slice (some ⟨B, off, none⟩) l.length cap], .agg #[.int .i64 base, .bool pk, .int .i64 prod, .int .i32 seq, .slice a2 l2.length cap2]] w fun e w' => e = .returned (.bool true) ∧ Below w.heap.size w w'))
    (CB : Hid (∀ w, Calls Tryz.prog 24 #[.agg #[.int .i64 base, .int .i64 S.size, .bool pk, .int .i64 l.length, .int .i64 F0, .int .i64 G, .int .i64 prod, .int .i32 seq]] w fun e w' => e = .returned (.int .i64 (base + l.length)) ∧ Below w.heap.size w w')) :
    Calls Tryz.prog 7 #[.agg #[.int .i64 base, .bool pk, .int .i64 prod, .int .i32 seq, .slice (some ⟨B, off, none⟩) l.length cap], .string more] w fun e w' => e = .returned (.bool true) ∧ Below w.heap.size w w' := by
  have CA := hid (fun w => awake6_any w)
  have N0 := Bx1.new w #[.int .i64 base, .bool pk, .int .i64 prod, .int .i32 seq, .slice (some ⟨B, off, none⟩) l.length cap] 24
  have d1 : (51 : Int) ≤ S.size := by omega
  have hcat : ¬ 9223372036854775807 < S.size + more.size := by omega
  go_enter Tryz.func7, Tryz.ntmps7
  go_wp2_with fail
  refine (CA.out _).mono ?_
  rintro e w1 ⟨rfl, b1⟩
  have N1 := N0.call b1
  have V1 := V.below N1.b
  obtain ⟨k0, k1, k2, k3, k4⟩ := cells5 N1.p
  clear b1 N0
  go_wp2_with fail
  refine (CE.out _ V1).mono ?_
  rintro e w2 ⟨rfl, b2⟩
  have N2 := N1.call b2
  have V2 := V1.below b2
  clear b2 N1 k0 k1 k2 k3 k4
  go_wp2_with fail
  refine (CD.out _).mono ?_
  rintro e w3 ⟨l2, a2, cap2, rfl, U3, hl2, b3⟩
  have N3 := N2.call b3
  have V3 := V2.below b3
  have Q3 : BK w #[.int .i64 base, .bool pk, .int .i64 prod, .int .i32 seq, .slice (some ⟨B, off, none⟩) l.length cap] (some ⟨B, off, none⟩) l w3.heap.size #[.int .i64 base, .bool pk, .int .i64 prod, .int .i32 seq, .slice a2 l2.length cap2] a2 l2 (w3.alloc (.cells #[.int .i64 base, .bool pk, .int .i64 prod, .int .i32 seq, .slice a2 l2.length cap2] 24)) := by
    have BA := (Below.refl w3.heap.size w3).alloc (Nat.le_refl _) (.cells #[.int .i64 base, .bool pk, .int .i64 prod, .int .i32 seq, .slice a2 l2.length cap2] 24)
    exact ⟨N3.alloc _, heap_new _ _, V3.below BA, U3.below BA⟩
  clear b3 N2 V2 N3 V3 U3
  go_wp2_with fail
  generalize w3.alloc (.cells #[.int .i64 base, .bool pk, .int .i64 prod, .int .i32 seq, .slice a2 l2.length cap2] 24) = W3 at *
  generalize w3.heap.size = g3 at *
  refine (CC.out _).mono ?_
  rintro e w4 ⟨rfl, b4⟩
  have Q4 := (Q3.call b4).alloc (.cells #[.int .i64 base, .int .i64 S.size, .bool pk, .int .i64 l.length, .int .i64 F0, .int .i64 G, .int .i64 prod, .int .i32 seq] 35)
  have H4 : (w4.alloc (.cells #[.int .i64 base, .int .i64 S.size, .bool pk, .int .i64 l.length, .int .i64 F0, .int .i64 G, .int .i64 prod, .int .i32 seq] 35)).heap[w4.heap.size]? = some (.cells #[.int .i64 base, .int .i64 S.size, .bool pk, .int .i64 l.length, .int .i64 F0, .int .i64 G, .int .i64 prod, .int .i32 seq] 35 (0, 0)) := heap_new _ _
  clear b4 Q3
  go_wp2_with fail
  generalize w4.alloc (.cells #[.int .i64 base, .int .i64 S.size, .bool pk, .int .i64 l.length, .int .i64 F0, .int .i64 G, .int .i64 prod, .int .i32 seq] 35) = W4 at *
  generalize w4.heap.size = g4 at *
  refine (CP.out _).mono ?_
  rintro e w5 ⟨rfl, b5⟩
  have Q5 := (Q4.call b5).alloc (.cells #[.int .i64 base, .int .i64 S.size, .bool pk, .int .i64 l.length, .int .i64 F0, .int .i64 G, .int .i64 prod, .int .i32 seq] 35)
  have H5 : (w5.alloc (.cells #[.int .i64 base, .int .i64 S.size, .bool pk, .int .i64 l.length, .int .i64 F0, .int .i64 G, .int .i64 prod, .int .i32 seq] 35)).heap[g4]? = some (.cells #[.int .i64 base, .int .i64 S.size, .bool pk, .int .i64 l.length, .int .i64 F0, .int .i64 G, .int .i64 prod, .int .i32 seq] 35 (0, 0)) := heap_alloc_at (keep H4 b5)
  have P5 : (w5.alloc (.cells #[.int .i64 base, .int .i64 S.size, .bool pk, .int .i64 l.length, .int .i64 F0, .int .i64 G, .int .i64 prod, .int .i32 seq] 35)).heap[w5.heap.size]? = some (.cells #[.int .i64 base, .int .i64 S.size, .bool pk, .int .i64 l.length, .int .i64 F0, .int .i64 G, .int .i64 prod, .int .i32 seq] 35 (0, 0)) := heap_new _ _
  clear b5 Q4 H4
  obtain ⟨k0, k1, k2, k3, k4⟩ := cells5 Q5.n.p
  go_wp2_with fail
  generalize w5.alloc (.cells #[.int .i64 base, .int .i64 S.size, .bool pk, .int .i64 l.length, .int .i64 F0, .int .i64 G, .int .i64 prod, .int .i32 seq] 35) = W5 at *
  generalize w5.heap.size = g5 at *
  refine (CZ.out _ Q5.v).mono ?_
  rintro e w6 ⟨rfl, b6⟩
  have Q6 := Q5.call b6
  have H6 := keep H5 b6
  have P6 := keep P5 b6
  clear b6 Q5 H5 P5 k0 k1 k2 k3 k4
  obtain ⟨k0, k1, k2, k3, k4⟩ := cells5 Q6.n.p
  obtain ⟨c0, c1, c2, c3, c4⟩ := cells5 Q6.c
  go_wp2_with fail
  refine (CM.out l2 a2 cap2 _ Q6.v Q6.u hl2).mono ?_
  rintro e w7 ⟨rfl, b7⟩
  have Q7 := Q6.call b7
  have H7 := keep H6 b7
  have P7 := keep P6 b7
  clear b7 Q6 H6 P6 k0 k1 k2 k3 k4 c0 c1 c2 c3 c4
  obtain ⟨k0, k1, k2, k3, k4⟩ := cells5 Q7.n.p
  obtain ⟨h0, h1, h2, h3, h4, h5, h6, h7⟩ := cells8 H7
  obtain ⟨p0, p1, p2, p3, p4, p5, p6, p7⟩ := cells8 P7
  have EN := fun w => neq_head base S.size pk l.length F0 G prod seq w
  go_wp2_with fail
  have T7 : w7.cell? ⟨B, off, none⟩ = some (.int .i64 F0) := (Q7.n.b.cell (p := ⟨B, off, none⟩) hB).trans hF
  have R7 : BR w g4 #[.int .i64 base, .int .i64 S.size, .bool pk, .int .i64 l.length, .int .i64 F0, .int .i64 G, .int .i64 prod, .int .i32 seq] #[.int .i64 base, .bool pk, .int .i64 prod, .int .i32 seq, .slice (some ⟨B, off, none⟩) l.length cap] B off F0 w7 := ⟨Q7.n, H7, T7, hB⟩
  have CB7 : Hid (∀ y, BR w g4 #[.int .i64 base, .int .i64 S.size, .bool pk, .int .i64 l.length, .int .i64 F0, .int .i64 G, .int .i64 prod, .int .i32 seq] #[.int .i64 base, .bool pk, .int .i64 prod, .int .i32 seq, .slice (some ⟨B, off, none⟩) l.length cap] B off F0 y → Calls Tryz.prog 24 #[.agg #[.int .i64 base, .int .i64 S.size, .bool pk, .int .i64 l.length, .int .i64 F0, .int .i64 G, .int .i64 prod, .int .i32 seq]] y fun e w' => e = .returned (.int .i64 (base + l.length)) ∧ BR w g4 #[.int .i64 base, .int .i64 S.size, .bool pk, .int .i64 l.length, .int .i64 F0, .int .i64 G, .int .i64 prod, .int .i32 seq] #[.int .i64 base, .bool pk, .int .i64 prod, .int .i32 seq, .slice (some ⟨B, off, none⟩) l.length cap] B off F0 w') := fun y hy => (CB.out y).mono fun e w' h => ⟨h.1, hy.call h.2⟩
  clear k0 k1 k2 k3 k4 h0 h1 h2 h3 h4 h5 h6 h7 p0 p1 p2 p3 p4 p5 p6 p7 EN P7 H7 T7
  have e1 : IntKind.i64.wrap (l.length : Int) = (l.length : Int) := wrap_in (by omega) (by omega)
  have e2 : IntKind.i64.wrap (base + (l.length : Int)) = base + (l.length : Int) := wrap_in (by omega) (by omega)
  have i0 : (0 : Int) < l.length := by omega
  have i0n : 0 < l.length := by omega
  have i0d : ¬ l.length = 0 := by omega
  have HV := hid Q7.v
  clear Q7
  go_region_held3 (fun y => y.cell? ⟨g4, 0, none⟩ = some (.int .i64 base) ∧ y.cell? ⟨g4, 1, none⟩ = some (.int .i64 S.size) ∧ y.cell? ⟨g4, 2, none⟩ = some (.bool pk) ∧ y.cell? ⟨g4, 3, none⟩ = some (.int .i64 l.length) ∧ y.cell? ⟨g4, 4, none⟩ = some (.int .i64 F0) ∧ y.cell? ⟨g4, 5, none⟩ = some (.int .i64 G) ∧ y.cell? ⟨g4, 6, none⟩ = some (.int .i64 prod) ∧ y.cell? ⟨g4, 7, none⟩ = some (.int .i32 seq) ∧ y.cell? ⟨w.heap.size, 0, none⟩ = some (.int .i64 base) ∧ y.cell? ⟨w.heap.size, 1, none⟩ = some (.bool pk) ∧ y.cell? ⟨w.heap.size, 2, none⟩ = some (.int .i64 prod) ∧ y.cell? ⟨w.heap.size, 3, none⟩ = some (.int .i32 seq) ∧ y.cell? ⟨w.heap.size, 4, none⟩ = some (.slice (some ⟨B, off, none⟩) l.length cap) ∧ y.cell? ⟨B, off, none⟩ = some (.int .i64 F0)) (first | with_reducible exact R7.all | with_reducible exact R7.drew.all | with_reducible exact BR.all (by assumption)) (first | (go_at_call 24; with_reducible refine (CB7.out _ ?_).mono ?_; (first | exact R7.drew | exact R7); rintro e w8 ⟨rfl, R8⟩))
  have L8 : LW w g4 #[.int .i64 base, .int .i64 S.size, .bool pk, .int .i64 l.length, .int .i64 F0, .int .i64 G, .int .i64 prod, .int .i32 seq] #[.int .i64 base, .bool pk, .int .i64 prod, .int .i32 seq, .slice (some ⟨B, off, none⟩) l.length cap] B off l w8 := ⟨R8.n, R8.h, fun j hj => (R8.n.b.cell (p := ⟨B, off + j * 6, none⟩) hB).trans (HT.out j hj)⟩
  clear R8 R7 e1 e2 i0 i0n i0d hF HV
  have HMT := hid (mt_all hM)
  have HG := hid hG
  clear hM hG
  go_wp2_with fail
  go_loopg [16, 17] l.length (fun k mv i wr => ∃ j : Nat, j + k = l.length ∧ i = .int .i64 j ∧ mv = .bool (mt l G j) ∧ Hid (LW w g4 #[.int .i64 base, .int .i64 S.size, .bool pk, .int .i64 l.length, .int .i64 F0, .int .i64 G, .int .i64 prod, .int .i32 seq] #[.int .i64 base, .bool pk, .int .i64 prod, .int .i32 seq, .slice (some ⟨B, off, none⟩) l.length cap] B off l wr))
  case atStart => exact ⟨0, by omega, rfl, rfl, L8⟩
  case round =>
    obtain ⟨j, hk, rfl, rfl, HL⟩ := hrel
    have k4 := (cells5 HL.out.n.p).2.2.2.2
    have h5 := (cells8 HL.out.h).2.2.2.2.2.1
    by_cases hlt : j < l.length
    · obtain ⟨k, rfl⟩ : ∃ k, gk = k + 1 := ⟨gk - 1, by omega⟩
      have t0 := HL.out.t j hlt
      have hTG := HG.out j hlt
      have HST := hid (mt_succ l G j)
      have i1 : (0 : Int) ≤ (j : Int) := by omega
      have i2 : (j : Int) < l.length := by omega
      have hj63 : j < 9223372036854775806 := by omega
      generalize (l.getD j dri).r.t = T at *
      cases hmj : mt l G j with
      | true =>
        rw [hmj] at HST
        go_wp2_with fail
        go_quiet ((fail))
        go_wp2_with fail
        go_quiet ((fail))
        go_wp2_with fail
        go_roundg k
        case measure => omega
        case rel => exact ⟨j + 1, by omega, by go_num, by rw [HST.out]; rfl, HL.out.drewN _⟩
      | false =>
        rw [hmj] at HST
        by_cases hT : T = G
        · subst hT
          go_wp2_with fail
          go_quiet ((fail))
          go_wp2_with fail
          go_quiet ((fail))
          go_wp2_with fail
          go_roundg k
          case measure => omega
          case rel => exact ⟨j + 1, by omega, by go_num, by rw [HST.out]; simp, HL.out.drewN _⟩
        · have hT' : decide (T = G) = false := decide_eq_false hT
          rw [hT'] at HST
          have hTb : (T == G) = false := by simpa using hT
          go_wp2_with fail
          go_quiet ((fail))
          go_wp2_with fail
          go_quiet ((fail))
          go_wp2_with fail
          go_roundg k
          case measure => omega
          case rel => exact ⟨j + 1, by omega, by go_num, by rw [HST.out]; simp, HL.out.drewN _⟩
    · have hj : j = l.length := by omega
      subst hj
      go_wp2_with fail
      go_ret
      exact ⟨by rw [HMT.out]; rfl, HL.out.n.b⟩
end Go.Proofs.YtajmcnlbkdfloaaGreat
namespace Go.Proofs.YtajmcnlbkdfloaaGreat
open Go.RowKit
theorem sto_det {b : Bt} {E E' : Nat} {T T' : ByteArray} (h : StoP b E T) (h' : StoP b E' T') (hd : ∀ E E' S S', BodyP b.l E S → BodyP b.l E' S' → E = E') : E = 0 → E' = 0 ∧ T' = T := by
  intro hE
  subst hE
  obtain ⟨r0, S, q1, q2, q3⟩ := sto_ok h
  cases h' with
  | head h => exact absurd r0 h
  | body E h1 h2 h3 => exact absurd (hd _ _ _ _ h3 q1) h2
  | big S' h1 h2 h3 =>
    have e : S' = S := by rw [h2.2.2 rfl, q1.2.2 rfl]
    subst e
    rw [← q2] at h3
    omega
  | ok S' h1 h2 h3 =>
    have e : S' = S := by rw [h2.2.2 rfl, q1.2.2 rfl]
    subst e
    exact ⟨rfl, q2.symm⟩
theorem body_det {l : List RI} {E E' : Nat} {S S' : ByteArray} (h : BodyP l E S) (h' : BodyP l E' S') : E = E' := by
  rcases h.1 with ⟨a1, a2⟩ | ⟨a1, a2⟩
  · rcases h'.1 with ⟨b1, b2⟩ | ⟨b1, b2⟩
    · rw [a2, b2]
    · exact absurd b1 a1
  · rcases h'.1 with ⟨b1, b2⟩ | ⟨b1, b2⟩
    · exact absurd a1 b1
    · unfold FitE at a2 b2
      rcases a2 with ⟨j, c1, c2, c3, c4⟩ | ⟨c1, c2⟩
      · rcases b2 with ⟨k, d1, d2, d3, d4⟩ | ⟨d1, d2⟩
        · have : j = k := by
            rcases Nat.lt_trichotomy j k with h | h | h
            · exact absurd (d2 j h) c3
            · exact h
            · exact absurd (c2 k h) d3
          subst this
          rw [c4, d4]
        · exact absurd (d1 j c1) c3
      · rcases b2 with ⟨k, d1, d2, d3, d4⟩ | ⟨d1, d2⟩
        · exact absurd (c1 k d1) d3
        · rw [c2, d2]
theorem gm_le (l : List RI) : ∀ j k, k < j → (l.getD k dri).r.t ≤ gm l j
  | 0, k, h => by omega
  | j + 1, k, h => by
    show _ ≤ (if gm l j < (l.getD j dri).r.t then (l.getD j dri).r.t else gm l j)
    by_cases hk : k = j
    · subst hk; split <;> omega
    · have := gm_le l j k (by omega)
      split <;> omega
theorem gm_met (l : List RI) : ∀ j, 1 ≤ j → j ≤ l.length → ∃ k, k < j ∧ (l.getD k dri).r.t = gm l j
  | 0, h, _ => by omega
  | j + 1, _, hj => by
    show ∃ k, k < j + 1 ∧ _ = (if gm l j < (l.getD j dri).r.t then (l.getD j dri).r.t else gm l j)
    by_cases hlt : gm l j < (l.getD j dri).r.t
    · rw [if_pos hlt]; exact ⟨j, by omega, rfl⟩
    · rw [if_neg hlt]
      cases j with
      | zero => exact ⟨0, by omega, rfl⟩
      | succ j =>
        obtain ⟨k, h1, h2⟩ := gm_met l (j + 1) (by omega) (by omega)
        exact ⟨k, by omega, h2⟩
theorem sto_same {b : Bt} {E E' : Nat} {T T' : ByteArray} (h : StoP b E T) (h' : StoP b E' T') : E = E' := by
  cases h with
  | head h1 =>
    cases h' with
    | head _ => rfl
    | body _ h2 _ _ => exact absurd h2 h1
    | big _ h2 _ _ => exact absurd h2 h1
    | ok _ h2 _ _ => exact absurd h2 h1
  | body E h1 h2 h3 =>
    cases h' with
    | head h => exact absurd h1 h
    | body E' _ _ h6 => exact body_det h3 h6
    | big S _ h6 _ => exact absurd (body_det h3 h6) h2
    | ok S _ h6 _ => exact absurd (body_det h3 h6) h2
  | big S h1 h2 h3 =>
    cases h' with
    | head h => exact absurd h1 h
    | body E' _ h5 h6 => exact absurd (body_det h6 h2) h5
    | big S' _ _ _ => rfl
    | ok S' _ h6 h7 =>
      have e : S' = S := by rw [h6.2.2 rfl, h2.2.2 rfl]
      subst e
      omega
  | ok S h1 h2 h3 =>
    cases h' with
    | head h => exact absurd h1 h
    | body E' _ h5 h6 => exact absurd (body_det h6 h2) h5
    | big S' _ h6 h7 =>
      have e : S' = S := by rw [h6.2.2 rfl, h2.2.2 rfl]
      subst e
      omega
    | ok S' _ _ _ => rfl
theorem body_some {l : List RI} : ∃ E S, BodyP l E S := by
  by_cases h : 1 ≤ l.length ∧ l.length ≤ 65536
  · by_cases hz : ∀ i, i < l.length → sze (l.getD i dri).r (l.getD 0 dri).r.t i = 0
    · by_cases hb : 16777216 < (bdy (l.getD 0 dri).r.t 0 (l.map RI.r)).length
      · exact ⟨66, ⟨#[]⟩, Or.inr ⟨h, Or.inr ⟨hz, by rw [if_pos hb]⟩⟩, fun _ => rfl, fun h => by cases h⟩
      · exact ⟨0, _, Or.inr ⟨h, Or.inr ⟨hz, by rw [if_neg hb]⟩⟩, fun h => absurd rfl h, fun _ => rfl⟩
    · have hex : ∃ j, j < l.length ∧ sze (l.getD j dri).r (l.getD 0 dri).r.t j ≠ 0 := Classical.byContradiction fun hn => hz fun i hi => Classical.byContradiction fun hh => hn ⟨i, hi, hh⟩
      have hmin : ∃ j, (j < l.length ∧ sze (l.getD j dri).r (l.getD 0 dri).r.t j ≠ 0) ∧ ∀ i, i < j → sze (l.getD i dri).r (l.getD 0 dri).r.t i = 0 := by
        obtain ⟨j, hj⟩ := hex
        induction j using Nat.strongRecOn with
        | ind j ih =>
          by_cases hall : ∀ i, i < j → sze (l.getD i dri).r (l.getD 0 dri).r.t i = 0
          · exact ⟨j, hj, hall⟩
          · have : ∃ i, i < j ∧ sze (l.getD i dri).r (l.getD 0 dri).r.t i ≠ 0 := Classical.byContradiction fun hn => hall fun i hi => Classical.byContradiction fun hh => hn ⟨i, hi, hh⟩
            obtain ⟨i, h1, h2⟩ := this
            exact ih i h1 ⟨by omega, h2⟩
      obtain ⟨j, ⟨h1, h2⟩, h3⟩ := hmin
      exact ⟨_, ⟨#[]⟩, Or.inr ⟨h, Or.inl ⟨j, h1, h3, h2, rfl⟩⟩, fun _ => rfl, fun h => absurd h h2⟩
  · exact ⟨28, ⟨#[]⟩, Or.inl ⟨h, rfl⟩, fun _ => rfl, fun h => by cases h⟩
theorem sto_some {b : Bt} (hn : ∀ T, ¬ StoP b 0 T) : ∃ E, E ≠ 0 ∧ StoP b E ⟨#[]⟩ := by
  by_cases h0 : rfh b = 0
  · obtain ⟨E, S, h⟩ := body_some (l := b.l)
    by_cases hE : E = 0
    · subst hE
      by_cases hs : (sto b S).size ≤ 16777165
      · exact absurd (StoP.ok S h0 h hs) (hn _)
      · exact ⟨66, by decide, StoP.big S h0 h (by omega)⟩
    · exact ⟨E, hE, StoP.body E h0 hE (by have := h.2.1 hE; rwa [this] at h)⟩
  · exact ⟨_, h0, StoP.head h0⟩
theorem back_walk (b : Bt) (more : ByteArray) (w : World) (hb : BtOk b) (V : Rcs w b.a b.l) (hm : more.size ≤ 9223372036800000000) :
    Calls Tryz.prog 7 #[.agg #[.int .i64 b.base, .bool b.pk, .int .i64 b.prod, .int .i32 b.seq, .slice b.a b.l.length b.cap], .string more] w fun e w' => e = .returned (.bool true) ∧ Below w.heap.size w w' := by
  have ce := fun w V => encode_any b w V hb.t hb.m hb.l
  have cz := fun w V => size_any6 b w V hb.t hb.m hb.l
  unfold btV btA at ce cz
  by_cases hz : ∃ T, StoP b 0 T
  · obtain ⟨T, hT⟩ := hz
    obtain ⟨r0, S0, q1, q2, q3⟩ := sto_ok hT
    obtain ⟨f1, f2, f3, f4⟩ := rfh_zero r0
    have det : ∀ E T', StoP b E T' → E = 0 ∧ T' = T := fun E T' h => sto_det hT h (fun _ _ _ _ h h' => body_det h h') rfl
    have hR := frm_right hb hT
    have hbk := body_back hb.t hb.m q1
    generalize hS : frm (fsB b T.size) T = S at *
    have hSz : S.size = 51 + T.size := by rw [← hS, frm_size]
    have hlen : ((12 + (hdB b T).len : Nat) : Int) = (S.size : Int) := by show ((12 + (39 + T.size) : Nat) : Int) = _; omega
    have hpk : decide ((hdB b T).st = 1) = b.pk := by
      show decide ((if b.pk = true then 1 else 0) = 1) = b.pk
      by_cases hp : b.pk = true
      · simp [hp]
      · simp [hp]
    have hhd : hdV (hdB b T) = .agg #[.int .i64 b.base, .int .i64 S.size, .bool b.pk, .int .i64 b.l.length, .int .i64 (b.l.getD 0 dri).r.t, .int .i64 (grt b.l), .int .i64 b.prod, .int .i32 b.seq] := by
      unfold hdV
      rw [hlen, hpk]
      rfl
    have h7 : T.size = (sto b S0).size := by rw [q2]
    have hop : ∀ m, opn (S ++ m) 16777216 16777216 = .ok (hdB b T, S0) := fun m => by
      have := opn_frame hb r0 q1 (by rw [← q2]; exact q3) m 16777216 16777216 (by rw [← q2]; unfold wth; omega) (by have := hbk.2.1; unfold wth; omega)
      rw [← q2, hS] at this
      exact this
    have hpe : pke (S.extract 0 51) = 0 ∧ fsOf (S.extract 0 51) = hdB b T := by
      have hz51 : (S.extract 0 51).size = 51 := by rw [ByteArray.size_extract]; omega
      have hbl : bl (S.extract 0 51) = usm (hdB b T) ++ (smd (hdB b T) ++ []) := by
        have e0 := bl_frm (fsB b T.size) T ⟨#[]⟩
        rw [app_emp, hS] at e0
        rw [bl_ext, e0, List.drop_zero, ← List.append_assoc, List.take_append, List.take_of_length_le (by rw [List.length_append, usm_len, smd_len]; omega), List.length_append, usm_len, smd_len, Nat.sub_self, List.take_zero, List.append_assoc]
        rfl
      have hf : fsOf (S.extract 0 51) = hdB b T := fsOf_head hR.2 hb.p1 hb.p2 hb.q1 hb.q2 hbl
      exact ⟨pke_ok (by omega) (by rw [hf]; exact rgt_iff.2 hR.1), hf⟩
    rcases id V.2 with h | ⟨B, off, ha, hB, hc⟩
    · rw [h] at f1; simp at f1
    have hcap : b = ⟨b.base, b.pk, b.prod, b.seq, b.l, b.a, b.cap⟩ := rfl
    rw [ha] at V
    have ce2 : ∀ w, Rcs w (some ⟨B, off, none⟩) b.l → Calls Tryz.prog 10 #[.agg #[.int .i64 b.base, .bool b.pk, .int .i64 b.prod, .int .i32 b.seq, .slice (some ⟨B, off, none⟩) b.l.length b.cap]] w fun e w' => e = .returned (.tuple #[.string S, .int .i64 0]) ∧ Below w.heap.size w w' := fun w V => by
      have c := ce w (by rw [ha]; exact V)
      rw [ha] at c
      refine c.mono ?_
      rintro e w' ⟨⟨E, S', rfl, hE⟩, hbl⟩
      rcases hE with ⟨h1, h2, _⟩ | ⟨rfl, T', h2, h3⟩
      · exact absurd (det _ _ h2).1 h1
      · have := (det _ _ h2).2
        subst this
        rw [h3, hS]
        exact ⟨rfl, hbl⟩
    have cz2 : ∀ w, Rcs w (some ⟨B, off, none⟩) b.l → Calls Tryz.prog 11 #[.agg #[.int .i64 b.base, .bool b.pk, .int .i64 b.prod, .int .i32 b.seq, .slice (some ⟨B, off, none⟩) b.l.length b.cap]] w fun e w' => e = .returned (.tuple #[.int .i64 S.size, .int .i64 0]) ∧ Below w.heap.size w w' := fun w V => by
      have c := cz w (by rw [ha]; exact V)
      rw [ha] at c
      refine c.mono ?_
      rintro e w' ⟨⟨E, n, T', rfl, h2, h3⟩, hbl⟩
      obtain ⟨rfl, rfl⟩ := det _ _ h2
      rw [if_pos rfl] at h3
      rw [h3, hSz]
      exact ⟨rfl, hbl⟩
    have hsm : (S ++ more).size ≤ 9223372036854775807 := by rw [ByteArray.size_append]; omega
    rw [ha]
    refine back_yes b.base b.pk b.prod b.seq b.l B off b.cap more S (b.l.getD 0 dri).r.t (grt b.l) w V hB f1.1 f1.2 ⟨f2.1, by omega⟩ (by have := (hc 0 (by omega)).1; rwa [Nat.zero_mul, Nat.add_zero] at this) (hid fun j hj => (hc j hj).1) ?_ ?_ (by omega) (by omega) hm (hid ce2) (hid fun w => ?_) (hid fun w => ?_) (hid fun w => ?_) (hid cz2) (hid fun l2 a2 cap2 w V1 V2 hl2 => ?_) (hid fun w => ?_)
    · intro j hj
      unfold grt
      rw [if_neg (by omega)]
      exact gm_le b.l _ j hj
    · unfold grt
      rw [if_neg (by omega)]
      exact gm_met b.l _ f1.1 (Nat.le_refl _)
    · have c := decode_any (S ++ more) 16777216 16777216 w hsm
      have hd : dcd (S ++ more) 16777216 16777216 = .ok (hdB b T, (b.l.map RI.r).map cln) := by
        unfold dcd
        rw [hop]
        dsimp only
        rw [show rbd S0 (hdB b T).first (hdB b T).cnt = .ok ((b.l.map RI.r).map cln) from hbk.2.2.2.2.1]
      rw [hd] at c
      refine c.mono ?_
      rintro e w' ⟨hbl, v, l2, rfl, hH, hl2⟩
      obtain ⟨a2, cap2, rfl, hV⟩ := hH.slice
      dsimp only
      rw [hpk, hlen]
      exact ⟨l2, a2, cap2, rfl, hV, hl2, hbl⟩
    · have c := check6_any (S ++ more) 16777216 16777216 w hsm
      rw [hop] at c
      unfold ChkV at c
      dsimp only at c
      rw [hhd] at c
      exact c
    · have c := peekH_any (S.extract 0 51) w (by rw [ByteArray.size_extract]; omega)
      unfold PkV at c
      rw [if_pos hpe.1, hpe.2, hhd] at c
      exact c
    · refine sameB_yes ⟨b.base, b.pk, b.prod, b.seq, b.l, some ⟨B, off, none⟩, b.cap⟩ ⟨b.base, b.pk, b.prod, b.seq, l2, a2, cap2⟩ w V1 V2 ⟨rfl, rfl, rfl, rfl, ?_⟩ (by show b.l.length ≤ _; omega) (fun x hx => (hb.m x hx).n)
      show b.l.map (fun x => cln x.r) = l2.map (fun x => cln x.r)
      have e1 : b.l.map (fun x => cln x.r) = (b.l.map RI.r).map cln := by rw [List.map_map]; rfl
      have e2 : l2.map (fun x => cln x.r) = (l2.map RI.r).map cln := by rw [List.map_map]; rfl
      have e3 : ∀ M : List Rec, (M.map cln).map cln = M.map cln := fun M => by rw [List.map_map]; exact List.map_congr_left (fun x _ => cln_cln x)
      rw [e1, e2, hl2, e3]
    · have c := behind_any (hdB b T) w hR.1
      rw [hhd] at c
      exact c
  · have hno : ∀ E S, EncP b E S → E ≠ 0 ∧ S = ⟨#[]⟩ := fun E S h => by
      rcases h with ⟨h1, _, h3⟩ | ⟨_, T, h2, _⟩
      · exact ⟨h1, h3⟩
      · exact absurd ⟨T, h2⟩ hz
    obtain ⟨E, hE1, hE2⟩ : ∃ E, E ≠ 0 ∧ StoP b E ⟨#[]⟩ := sto_some (fun T h => hz ⟨T, h⟩)
    refine back_err b more E w hE1 V (hid fun w V => ?_)
    refine (ce w V).mono ?_
    rintro e w' ⟨⟨E', S', rfl, hE⟩, hbl⟩
    obtain ⟨h1, rfl⟩ := hno _ _ hE
    have : E' = E := by
      rcases hE with ⟨_, h2, _⟩ | ⟨h2, _⟩
      · exact sto_same h2 hE2
      · exact absurd h2 h1
    subst this
    exact ⟨rfl, hbl⟩
end Go.Proofs.YtajmcnlbkdfloaaGreat
