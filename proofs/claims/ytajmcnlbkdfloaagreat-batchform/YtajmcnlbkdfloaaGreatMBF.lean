/- Texts of the proof, put together: Bfx, Bfy, Bfw. -/
import Derived.Test.YtajmcnlbkdfloaaGreatMB6
import Derived.Test.YtajmcnlbkdfloaaGreatMB7
namespace Go.Proofs.YtajmcnlbkdfloaaGreat
open Go.RowKit
theorem nb_be6 : ∀ (n : Nat) (l : List Nat), l.length = n → (∀ b ∈ l, b < 256) → nb n (be l) = l
  | 0, l, h, _ => by rw [List.eq_nil_of_length_eq_zero h]; rfl
  | n + 1, l, h, hb => by
    rcases List.eq_nil_or_concat l with rfl | ⟨l', b, rfl⟩
    · simp at h
    · have h' : l'.length = n := by simpa using h
      have hb1 := hb b (by simp)
      rw [List.concat_eq_append] at hb ⊢
      rw [be_snoc, nb]
      have e1 : (be l' * 256 + b) / 256 = be l' := by omega
      have e2 : (be l' * 256 + b) % 256 = b := by omega
      rw [e1, e2, nb_be6 n l' h' (fun c hc => hb c (by simp [hc]))]
theorem nb_num {s : ByteArray} {k n : Nat} (h : k + n ≤ s.size) : nb n (num s k n) = ((bl s).drop k).take n := by
  unfold num
  rw [nb_be6 n _ (by rw [bl_len, ByteArray.size_extract]; omega) (bl_byte _), bl_ext, show k + n - k = n by omega]
theorem u64_wrap {v : Nat} (h : v < 18446744073709551616) : u64 (wrap64 (v : Int)) = v := by unfold u64 wrap64; omega
theorem u32_wrap {v : Nat} (h : v < 4294967296) : u32 (wrap32 (v : Int)) = v := by unfold u32 wrap32; omega
theorem take_more {l : List Nat} (k n : Nat) : l.take k ++ (l.drop k).take n = l.take (k + n) := by rw [← List.take_add]
/-- A head is its numbers' bytes. -/
theorem head_bytes {s : ByteArray} (h : 51 ≤ s.size) : usm (fsOf s) ++ smd (fsOf s) = (bl s).take 51 := by
  unfold usm smd fsOf
  dsimp only
  rw [u64_wrap (num_lt8 (by omega)), u64_wrap (num_lt8 (by omega)), u64_wrap (num_lt8 (by omega)), u64_wrap (num_lt8 (by omega)), u32_wrap (num_lt4 (by omega))]
  rw [nb_num (by omega), nb_num (by omega), nb_num (by omega), nb_num (by omega), nb_num (by omega), nb_num (by omega), nb_num (by omega), nb_num (by omega), nb_num (by omega), nb_num (by omega)]
  rw [List.drop_zero, ← List.append_assoc, ← List.append_assoc, ← List.append_assoc, ← List.append_assoc, ← List.append_assoc, take_more, take_more, take_more, take_more, take_more, take_more, take_more, take_more, take_more]
/-- What is known of a frame that is taken. -/
structure Tkn (s : ByteArray) (f : Fs) (L : List Rec) (b : ByteArray) : Prop where
  fs : f = fsOf s
  r : Right f
  ok : FsOk f
  n : 12 + f.len ≤ s.size
  sum : crcOf (s.extract 17 (12 + f.len)) = f.sum
  rb : rbd b f.first f.cnt = .ok L
  gr : gr L = f.grt
  bz : b.size ≤ 16777216
theorem ite_pos {α : Type} {x e : Nat} {F : Except Nat α} (h : (if x ≠ 0 then .error x else F) = .error e) : e ≠ 0 ∨ F = .error e := by
  by_cases hx : x ≠ 0
  · rw [if_pos hx] at h
    injection h with h
    exact Or.inl (h ▸ hx)
  · rw [if_neg hx] at h
    exact Or.inr h
theorem pre_err {l : List Hdr} {x : Except Nat (List Hdr × Nat)} {e : Nat} (h : pre l x = .error e) : x = .error e := by
  cases x with
  | error y => exact h
  | ok y => obtain ⟨a, b⟩ := y; cases h
theorem hdq_pos {p : ByteArray} : ∀ {c k e : Nat}, hdq p c k = .error e → e ≠ 0
  | 0, k, e, h => by unfold hdq at h; cases h
  | c + 1, k, e, h => by
    unfold hdq at h
    rcases ite_pos h with h | h
    · exact h
    · rcases ite_pos h with h | h
      · exact h
      · exact hdq_pos (pre_err h)
theorem r7_pos {p : ByteArray} {t : Int} {kh vh : Bool} {kd vd : ByteArray} {c k e : Nat} (h : r7 p t kh kd vh vd c k = .error e) : e ≠ 0 := by
  unfold r7 at h
  split at h
  · rename_i hh; injection h with h; subst h; exact hdq_pos hh
  · split at h
    · injection h with h; omega
    · cases h
theorem r6_pos {p : ByteArray} {t : Int} {kh vh : Bool} {kd vd : ByteArray} {k e : Nat} (h : r6 p t kh kd vh vd k = .error e) : e ≠ 0 := by
  unfold r6 at h
  rcases ite_pos h with h | h
  · exact h
  · dsimp only at h
    split at h
    · injection h with h; omega
    · exact r7_pos h
theorem r5_pos {p : ByteArray} {t : Int} {kh : Bool} {kd : ByteArray} {k e : Nat} (h : r5 p t kh kd k = .error e) : e ≠ 0 := by
  unfold r5 at h
  rcases ite_pos h with h | h
  · exact h
  · exact r6_pos h
theorem r4_pos {p : ByteArray} {t : Int} {k e : Nat} (h : r4 p t k = .error e) : e ≠ 0 := by
  unfold r4 at h
  rcases ite_pos h with h | h
  · exact h
  · exact r5_pos h
theorem r3_pos {p : ByteArray} {t : Int} {n k e : Nat} (h : r3 p t n k = .error e) : e ≠ 0 := by
  unfold r3 at h
  rcases ite_pos h with h | h
  · exact h
  · dsimp only at h
    split at h
    · injection h with h; omega
    · exact r4_pos h
theorem r2_pos {p : ByteArray} {first : Int} {n k e : Nat} (h : r2 p first n k = .error e) : e ≠ 0 := by
  unfold r2 at h
  rcases ite_pos h with h | h
  · exact h
  · dsimp only at h
    split at h
    · injection h with h; omega
    · exact r3_pos h
theorem r1_pos {p : ByteArray} {first : Int} {n e : Nat} (h : r1 p first n = .error e) : e ≠ 0 := by
  unfold r1 at h
  rcases ite_pos h with h | h
  · exact h
  · dsimp only at h
    split at h
    · injection h with h; omega
    · exact r2_pos h
theorem nx2_pos {s : ByteArray} {k : Nat} {first : Int} {n L k1 e : Nat} (h : nx2 s k first n L k1 = .error e) : e ≠ 0 := by
  unfold nx2 at h
  split at h
  · injection h with h; omega
  · split at h
    · rename_i hh; injection h with h; subst h; exact r1_pos hh
    · split at h
      · injection h with h; omega
      · cases h
theorem nxt_pos {s : ByteArray} {k : Nat} {first : Int} {n e : Nat} (h : nxt s k first n = .error e) : e ≠ 0 := by
  unfold nxt at h
  rcases ite_pos h with h | h
  · exact h
  · exact nx2_pos h
theorem rd5_pos {s : ByteArray} {first n : Int} {e : Nat} (h : rd5 s first n = .error e) : e ≠ 0 := by
  unfold rd5 at h
  split at h
  · injection h with h; omega
  · exact nxt_pos h
theorem crunG_pos (rd : Nat → Nat → Except Nat (Rec × Nat)) (hp : ∀ k j e, rd k j = .error e → e ≠ 0) (j : Nat) : ∀ e, crunG rd j = .error e → e ≠ 0 := by
  induction j with
  | zero => intro e h; rw [crunG] at h; cases h
  | succ j ih =>
    intro e h
    rw [crunG_succ] at h
    cases hr : crunG rd j with
    | error x => rw [hr] at h; injection h with h; subst h; exact ih x hr
    | ok y =>
      obtain ⟨l, k⟩ := y
      rw [hr] at h
      dsimp only at h
      cases hn : rd k j with
      | error x => rw [hn] at h; injection h with h; subst h; exact hp k j x hn
      | ok z => rw [hn] at h; cases h
theorem crun_pos {s : ByteArray} {first : Int} : ∀ (j e : Nat), crun s first j = .error e → e ≠ 0 := by
  exact crunG_pos _ (fun _ _ _ h => rd5_pos h)
theorem taken {s : ByteArray} {frame plain : Int} {f : Fs} {b : ByteArray} (h : opn s frame plain = .ok (f, b)) : ∃ L, Tkn s f L b ∧ bod (s.extract 51 (12 + f.len)) f.st (wth plain 7 16777216) = .ok b := by
  obtain ⟨h1, h2, h3, h4, h5⟩ := opn_ok h
  have hz : ¬ s.size < 51 := by intro h; rw [pke_short h] at h1; cases h1
  have hr : rgt (fsOf s) = true := by
    cases hh : rgt (fsOf s) with
    | true => rfl
    | false => rw [pke_no hz hh] at h1; cases h1
  have R := rgt_iff.1 hr
  obtain ⟨w1, w2⟩ := whe_zero h3
  have hsum : crcOf (s.extract 17 (12 + (fsOf s).len)) = (fsOf s).sum := by
    unfold whe at h3
    rw [if_neg w1, if_neg w2] at h3
    split at h3
    · cases h3
    · rename_i h; exact Classical.not_not.1 h
  have hm2 := wth_in plain 7 16777216 (by omega)
  have hbz : b.size ≤ 16777216 := by
    have hb := h4
    unfold bod at hb
    split at hb
    · split at hb
      · cases hb
      · split at hb
        · cases hb
        · rename_i hn
          split at hb
          · cases hb
          · rename_i T hu
            cases hb
            rw [Lz.ba_size]
            have := un_len hu
            omega
    · split at hb
      · cases hb
      · injection hb with hb
        rw [← hb]
        omega
  obtain ⟨L, l1, l2⟩ := (cbe_iff ⟨R.c1, R.c2⟩ hbz (fun j e => crun_pos j e)).1 h5
  subst h2
  exact ⟨L, ⟨rfl, R, fsOf_ok (by omega), by omega, hsum, l1, l2, hbz⟩, h4⟩
end Go.Proofs.YtajmcnlbkdfloaaGreat
namespace Go.Proofs.YtajmcnlbkdfloaaGreat
open Go.RowKit
theorem Fs.ext' {f g : Fs} (h0 : f.base = g.base) (h1 : f.len = g.len) (h2 : f.mark = g.mark) (h3 : f.sum = g.sum) (h4 : f.st = g.st) (h5 : f.cnt = g.cnt) (h6 : f.first = g.first) (h7 : f.grt = g.grt) (h8 : f.prod = g.prod) (h9 : f.seq = g.seq) : f = g := by
  cases f; cases g; simp_all
theorem rfh_of {s : ByteArray} {f : Fs} {L : List Rec} {b : ByteArray} (T : Tkn s f L b) (pk : Bool) (l : List RI) (hl : l.length = f.cnt) (a : Option Addr) (cap : Nat) : rfh ⟨f.base, pk, f.prod, f.seq, l, a, cap⟩ = 0 := by
  have R := T.r
  have h1 := R.c1
  have h2 := R.c2
  have h3 := R.o
  unfold rfh
  dsimp only
  rw [hl, if_neg (by omega), if_neg (by omega), if_neg (by rw [R.p]; simpa using R.b), if_neg (by omega)]
theorem grt_list {l : List RI} (h : 1 ≤ l.length) : grt l = gr (l.map RI.r) := by
  unfold grt
  rw [if_neg (by omega), gm_gr l RI.r (fun x => rfl) l.length h (Nat.le_refl _), List.take_length]
theorem head_two {s : ByteArray} (h : 51 ≤ s.size) : usm (fsOf s) = (bl s).take 17 ∧ smd (fsOf s) = ((bl s).drop 17).take 34 := by
  have e := head_bytes h
  have e2 : (bl s).take 51 = (bl s).take 17 ++ ((bl s).drop 17).take 34 := (take_more 17 34).symm
  rw [e2] at e
  exact List.append_inj e (by rw [usm_len, List.length_take, bl_len]; omega)
theorem form_bytes {s : ByteArray} {f : Fs} {L : List Rec} {b : ByteArray} (T : Tkn s f L b) (hb : s.extract 51 (12 + f.len) = b) (hst : f.st = 0) (l : List RI) (hl : l.map RI.r = L) (a : Option Addr) (cap : Nat) (E : Nat) (S : ByteArray) (h : EncP ⟨f.base, false, f.prod, f.seq, l, a, cap⟩ E S) : E = 0 ∧ S = s.extract 0 (12 + f.len) := by
  have hrb := T.rb
  rw [← hl] at hrb
  obtain ⟨_, b2, b3, b4, b5, b6⟩ := body_again hrb
  have hlen : l.length = f.cnt := by omega
  have h0 := rfh_of T false l hlen a cap
  have hl1 := T.r.l1
  have hl2 := T.r.l2
  have hn := T.n
  have hbz : b.size = f.len - 39 := by rw [← hb, ByteArray.size_extract]; omega
  have main : S = frm (fsB ⟨f.base, false, f.prod, f.seq, l, a, cap⟩ b.size) b → S = s.extract 0 (12 + f.len) := by
    intro hS
    have hF : fsB ⟨f.base, false, f.prod, f.seq, l, a, cap⟩ b.size = { f with sum := 0 } := by
      apply Fs.ext'
      · rfl
      · show 39 + b.size = f.len; omega
      · exact T.r.mark.symm
      · rfl
      · exact hst.symm
      · exact hlen
      · exact b4
      · show grt l = f.grt
        rw [grt_list (by omega), hl]
        exact T.gr
      · rfl
      · rfl
    have h51 : 51 ≤ s.size := by omega
    obtain ⟨u1, u2⟩ := head_two h51
    rw [← T.fs] at u1 u2
    have ed : (bl s).drop 51 = ((bl s).drop 17).drop 34 := by rw [List.drop_drop]
    have hbb : bl b = ((bl s).drop 51).take (12 + f.len - 51) := by rw [← hb, bl_ext]
    have hsm : bs (smd f) ++ b = s.extract 17 (12 + f.len) := by
      apply bl_inj
      rw [bl_app, bl_bs _ (smd_byte _), u2, hbb, bl_ext, ed, take_more, show 34 + (12 + f.len - 51) = 12 + f.len - 17 by omega]
    have hsmo : smo { f with sum := 0 } b = f.sum := by
      show crcOf (bs (smd f) ++ b) = _
      rw [hsm]
      exact T.sum
    rw [hS, hF]
    apply bl_inj
    unfold frm
    rw [hsmo, bl_app, bl_app]
    show bl (bs (usm f)) ++ bl (bs (smd f)) ++ bl b = _
    rw [bl_bs _ (usm_byte _), bl_bs _ (smd_byte _), u1, u2, hbb, bl_ext, List.drop_zero, take_more, take_more, show 17 + 34 + (12 + f.len - 51) = 12 + f.len - 0 by omega]
  rcases h with ⟨h1, h2, _⟩ | ⟨h1, T', h2, h3⟩
  · exfalso
    generalize (⟨#[]⟩ : ByteArray) = Z at h2
    cases h2 with
    | head h => exact h h0
    | body E h4 h5 h6 => exact h5 (b6 _ _ h6).1
    | big S0 h4 h5 h6 =>
      rw [(b6 _ _ h5).2] at h6
      have : sto ⟨f.base, false, f.prod, f.seq, l, a, cap⟩ b = b := rfl
      rw [this] at h6
      omega
    | ok S0 h4 h5 h6 => exact h1 rfl
  · refine ⟨h1, main ?_⟩
    obtain ⟨_, S0, h5, h6, h7⟩ := sto_ok h2
    rw [(b6 _ _ h5).2] at h6
    have e : T' = b := h6
    rw [h3, e]
end Go.Proofs.YtajmcnlbkdfloaaGreat
namespace Go.Proofs.YtajmcnlbkdfloaaGreat
open Go.RowKit
set_option maxHeartbeats 1000000 in
set_option maxRecDepth 20000 in
theorem form_err (s : ByteArray) (fr pl : Int) (x : Nat) (w : World) (hx : x ≠ 0) (CD : Hid (∀ w, Calls Tryz.prog 17 #[.string s, .int .i64 fr, .int .i64 pl] w fun e w' => e = .returned (.tuple #[noBt, .int .i64 0, .int .i64 x]) ∧ Below w.heap.size w w')) :
    Calls Tryz.prog 8 #[.string s, .agg #[.int .i64 fr, .int .i64 pl]] w fun e w' => e = .returned (.bool true) ∧ Below w.heap.size w w' := by
  have CA := hid (fun w => awake6_any w)
  unfold noBt at CD
  have hx' : ¬ (x : Int) = 0 := by omega
  have N0 := Bx1.new w #[.int .i64 fr, .int .i64 pl] 33
  go_enter Tryz.func8, Tryz.ntmps8
  go_wp2_with fail
  refine (CA.out _).mono ?_
  rintro e w1 ⟨rfl, b1⟩
  have N1 := N0.call b1
  have k0 : w1.cell? ⟨w.heap.size, 0, none⟩ = some (.int .i64 fr) := (cell_of N1.p).trans rfl
  have k1 : w1.cell? ⟨w.heap.size, 1, none⟩ = some (.int .i64 pl) := (cell_of N1.p).trans rfl
  clear b1 N0
  go_wp2_with fail
  refine (CD.out _).mono ?_
  rintro e w2 ⟨rfl, b2⟩
  have N2 := N1.call b2
  clear b2 N1 k0 k1
  go_wp2_with fail
  go_ret
  exact ⟨rfl, N2.b.alloc N2.b.size _⟩
set_option maxHeartbeats 2000000 in
set_option maxRecDepth 20000 in
theorem form_plain (s : ByteArray) (fr pl : Int) (f : Fs) (L : List Rec) (w : World) (hn1 : 58 ≤ 12 + f.len) (hn2 : 12 + f.len ≤ s.size) (hn3 : 12 + f.len ≤ 16777216)
    (CD : Hid (∀ w, Calls Tryz.prog 17 #[.string s, .int .i64 fr, .int .i64 pl] w fun e w' => ∃ l a cap, e = .returned (.tuple #[.agg #[.int .i64 f.base, .bool false, .int .i64 f.prod, .int .i32 f.seq, .slice a l.length cap], .int .i64 (12 + f.len : Nat), .int .i64 0]) ∧ Rcs w' a l ∧ l.map RI.r = L ∧ Below w.heap.size w w'))
    (CE : Hid (∀ (l : List RI) a cap w, Rcs w a l → l.map RI.r = L → Calls Tryz.prog 10 #[.agg #[.int .i64 f.base, .bool false, .int .i64 f.prod, .int .i32 f.seq, .slice a l.length cap]] w fun e w' => e = .returned (.tuple #[.string (s.extract 0 (12 + f.len)), .int .i64 0]) ∧ Below w.heap.size w w')) :
    Calls Tryz.prog 8 #[.string s, .agg #[.int .i64 fr, .int .i64 pl]] w fun e w' => e = .returned (.bool true) ∧ Below w.heap.size w w' := by
  have CA := hid (fun w => awake6_any w)
  have N0 := Bx1.new w #[.int .i64 fr, .int .i64 pl] 33
  generalize hN : 12 + f.len = N at *
  have d1 : (58 : Int) ≤ N := by omega
  have d2 : (N : Int) ≤ s.size := by omega
  obtain ⟨base, len, mark, sum, st, cnt, first, grt, prod, seq⟩ := f
  dsimp only at *
  go_enter Tryz.func8, Tryz.ntmps8
  go_wp2_with fail
  refine (CA.out _).mono ?_
  rintro e w1 ⟨rfl, b1⟩
  have N1 := N0.call b1
  have k0 : w1.cell? ⟨w.heap.size, 0, none⟩ = some (.int .i64 fr) := (cell_of N1.p).trans rfl
  have k1 : w1.cell? ⟨w.heap.size, 1, none⟩ = some (.int .i64 pl) := (cell_of N1.p).trans rfl
  clear b1 N0
  go_wp2_with fail
  refine (CD.out _).mono ?_
  rintro e w2 ⟨l, a, cap, rfl, V2, hl, b2⟩
  have N2 := (N1.call b2).alloc (.cells #[.int .i64 base, .bool false, .int .i64 prod, .int .i32 seq, .slice a l.length cap] 24)
  have V3 := V2.below ((Below.refl w2.heap.size w2).alloc (Nat.le_refl _) (.cells #[.int .i64 base, .bool false, .int .i64 prod, .int .i32 seq, .slice a l.length cap] 24))
  clear b2 N1 k0 k1 V2
  go_wp2_with fail
  refine (CE.out l a cap _ V3 hl).mono ?_
  rintro e w3 ⟨rfl, b3⟩
  have N3 := N2.call b3
  clear b3 N2 V3
  go_wp2_with fail
  go_ret
  exact ⟨rfl, N3.b⟩
set_option maxHeartbeats 2000000 in
set_option maxRecDepth 20000 in
theorem form_packed (s : ByteArray) (fr pl : Int) (f : Fs) (L : List Rec) (w : World) (hn1 : 58 ≤ 12 + f.len) (hn2 : 12 + f.len ≤ s.size) (hn3 : 12 + f.len ≤ 16777216)
    (CD : Hid (∀ w, Calls Tryz.prog 17 #[.string s, .int .i64 fr, .int .i64 pl] w fun e w' => ∃ l a cap, e = .returned (.tuple #[.agg #[.int .i64 f.base, .bool true, .int .i64 f.prod, .int .i32 f.seq, .slice a l.length cap], .int .i64 (12 + f.len : Nat), .int .i64 0]) ∧ Rcs w' a l ∧ l.map RI.r = L ∧ Below w.heap.size w w'))
    (CE : Hid (∀ (l : List RI) a cap w, Rcs w a l → l.map RI.r = L → Calls Tryz.prog 10 #[.agg #[.int .i64 f.base, .bool false, .int .i64 f.prod, .int .i32 f.seq, .slice a l.length cap]] w fun e w' => (∃ (E : Nat) (S : ByteArray), e = .returned (.tuple #[.string S, .int .i64 E]) ∧ EncP ⟨f.base, false, f.prod, f.seq, l, a, cap⟩ E S) ∧ Below w.heap.size w w'))
    (CN : Hid (∀ w, Calls Tryz.prog 17 #[.string ⟨#[]⟩, .int .i64 16777216, .int .i64 16777216] w fun e w' => e = .returned (.tuple #[.agg #[.int .i64 0, .bool false, .int .i64 0, .int .i32 0, .slice none 0 0], .int .i64 0, .int .i64 20]) ∧ Below w.heap.size w w'))
    (CY : Hid (∀ (l : List RI) a cap S w, l.map RI.r = L → EncP ⟨f.base, false, f.prod, f.seq, l, a, cap⟩ 0 S → Calls Tryz.prog 17 #[.string S, .int .i64 16777216, .int .i64 16777216] w fun e w' => ∃ l2 a2 cap2 n, e = .returned (.tuple #[.agg #[.int .i64 f.base, .bool false, .int .i64 f.prod, .int .i32 f.seq, .slice a2 l2.length cap2], .int .i64 n, .int .i64 0]) ∧ Rcs w' a2 l2 ∧ l2.map RI.r = L.map cln ∧ Below w.heap.size w w'))
    (CM : Hid (∀ (l l2 : List RI) a a2 cap cap2 w, Rcs w a l → Rcs w a2 l2 → l.map RI.r = L → l2.map RI.r = L.map cln → Calls Tryz.prog 23 #[.agg #[.int .i64 f.base, .bool false, .int .i64 f.prod, .int .i32 f.seq, .slice a l.length cap], .agg #[.int .i64 f.base, .bool false, .int .i64 f.prod, .int .i32 f.seq, .slice a2 l2.length cap2]] w fun e w' => e = .returned (.bool true) ∧ Below w.heap.size w w')) :
    Calls Tryz.prog 8 #[.string s, .agg #[.int .i64 fr, .int .i64 pl]] w fun e w' => e = .returned (.bool true) ∧ Below w.heap.size w w' := by
  have CA := hid (fun w => awake6_any w)
  have N0 := Bx1.new w #[.int .i64 fr, .int .i64 pl] 33
  generalize hN : 12 + f.len = N at *
  have d1 : (58 : Int) ≤ N := by omega
  have d2 : (N : Int) ≤ s.size := by omega
  obtain ⟨base, len, mark, sum, st, cnt, first, grt, prod, seq⟩ := f
  dsimp only at *
  go_enter Tryz.func8, Tryz.ntmps8
  go_wp2_with fail
  refine (CA.out _).mono ?_
  rintro e w1 ⟨rfl, b1⟩
  have N1 := N0.call b1
  have k0 : w1.cell? ⟨w.heap.size, 0, none⟩ = some (.int .i64 fr) := (cell_of N1.p).trans rfl
  have k1 : w1.cell? ⟨w.heap.size, 1, none⟩ = some (.int .i64 pl) := (cell_of N1.p).trans rfl
  clear b1 N0
  go_wp2_with fail
  refine (CD.out _).mono ?_
  rintro e w2 ⟨l, a, cap, rfl, V2, hl, b2⟩
  have N2 := (N1.call b2).alloc (.cells #[.int .i64 base, .bool false, .int .i64 prod, .int .i32 seq, .slice a l.length cap] 24)
  have H2 : (w2.alloc (.cells #[.int .i64 base, .bool false, .int .i64 prod, .int .i32 seq, .slice a l.length cap] 24)).heap[w2.heap.size]? = some (.cells #[.int .i64 base, .bool false, .int .i64 prod, .int .i32 seq, .slice a l.length cap] 24 (0, 0)) := heap_new _ _
  have V3 := V2.below ((Below.refl w2.heap.size w2).alloc (Nat.le_refl _) (.cells #[.int .i64 base, .bool false, .int .i64 prod, .int .i32 seq, .slice a l.length cap] 24))
  clear b2 N1 k0 k1 V2
  go_wp2_with fail
  generalize w2.alloc (.cells #[.int .i64 base, .bool false, .int .i64 prod, .int .i32 seq, .slice a l.length cap] 24) = W2 at *
  refine (CE.out l a cap _ V3 hl).mono ?_
  rintro e w3 ⟨⟨E, S, rfl, hE⟩, b3⟩
  have N3 := N2.call b3
  have H3 := keep H2 b3
  have V4 := V3.below b3
  clear b3 N2 V3 H2
  by_cases hE0 : E = 0
  · subst hE0
    go_wp2_with fail
    refine (CY.out l a cap S _ hl hE).mono ?_
    rintro e w4 ⟨l2, a2, cap2, n2, rfl, V5, hl2, b4⟩
    have N4 := N3.call b4
    have H4 := keep H3 b4
    have V6 := V4.below b4
    have BA := (Below.refl w4.heap.size w4).alloc (Nat.le_refl _) (.cells #[.int .i64 base, .bool false, .int .i64 prod, .int .i32 seq, .slice a2 l2.length cap2] 24)
    have N5 := N4.alloc (.cells #[.int .i64 base, .bool false, .int .i64 prod, .int .i32 seq, .slice a2 l2.length cap2] 24)
    have V7 := V6.below BA
    have V8 := V5.below BA
    obtain ⟨k0, k1, k2, k3, k4⟩ := cells5 (heap_alloc_at (o' := .cells #[.int .i64 base, .bool false, .int .i64 prod, .int .i32 seq, .slice a2 l2.length cap2] 24) H4)
    clear b4 N4 V6 V5 BA H4 H3 V4
    go_wp2_with fail
    refine (CM.out l l2 a a2 cap cap2 _ V7 V8 hl hl2).mono ?_
    rintro e w5 ⟨rfl, b5⟩
    have N6 := N5.call b5
    clear b5
    go_wp2_with fail
    go_ret
    exact ⟨rfl, N6.b⟩
  · have hE' : ¬ (E : Int) = 0 := by omega
    obtain rfl : S = ⟨#[]⟩ := by
      rcases hE with ⟨_, _, h⟩ | ⟨h, _⟩
      · exact h
      · exact absurd h hE0
    clear hE
    go_wp2_with fail
    refine (CN.out _).mono ?_
    rintro e w4 ⟨rfl, b4⟩
    have N4 := N3.call b4
    clear b4
    go_wp2_with fail
    go_ret
    exact ⟨rfl, N4.b.alloc N4.b.size _⟩
end Go.Proofs.YtajmcnlbkdfloaaGreat
