/- Texts of the proof, put together: Bru, Bmt, Bmu, Baw. -/
import Derived.Test.YtihokphamgkkcaaGreatMB2
import Derived.Test.YtihokphamgkkcaaGreatMR
import Derived.Test.YtihokphamgkkcaaGreatMB4
import Derived.Test.YtihokphamgkkcaaGreatMB3
namespace Go.Proofs.YtihokphamgkkcaaGreat
open Go.RowKit
theorem bl_suf (s : ByteArray) (k : Nat) : bl (s.extract k s.size) = (bl s).drop k := by
  rw [bl_ext, List.take_of_length_le (by rw [List.length_drop, bl_len]; omega)]
theorem stands_suf {s : ByteArray} {k : Nat} {l : List Nat} (hk : k ≤ s.size) : Stands (s.extract k s.size) 0 l ↔ Stands s k l := by
  have hz : (s.extract k s.size).size = s.size - k := by rw [ByteArray.size_extract]; omega
  unfold Stands
  rw [bl_suf, hz, List.drop_zero]
  constructor
  · rintro ⟨h1, h2⟩; exact ⟨by omega, h2⟩
  · rintro ⟨h1, h2⟩; exact ⟨by omega, h2⟩
theorem rd5_nxt {s : ByteArray} {k : Nat} {first : Int} {n : Nat} {r : Rec} {d : Nat} (hs : s.size ≤ 9223372036854775807) (hk : k ≤ s.size) (hn : n < 65536) : rd5 (s.extract k s.size) first n = .ok (r, d) ↔ nxt s k first n = .ok (r, k + d) := by
  have hz : (s.extract k s.size).size = s.size - k := by rw [ByteArray.size_extract]; omega
  unfold rd5
  rw [if_neg (by omega), Int.toNat_natCast, nxt_iff (by omega) (Nat.zero_le _) (by omega), nxt_iff hs hk (by omega), stands_suf hk]
  constructor
  · rintro ⟨h1, h2, h3, h4⟩; exact ⟨h1, by omega, h3, h4⟩
  · rintro ⟨h1, h2, h3, h4⟩; exact ⟨h1, by omega, h3, h4⟩
theorem run_succ (s : ByteArray) (first : Int) (j : Nat) : run s first (j + 1) = match run s first j with
    | .error e => .error e
    | .ok (l, k) => match nxt s k first j with
      | .error e => .error e
      | .ok (r, k') => if j = 0 ∧ r.t ≠ first then .error 27 else .ok (l ++ [r], k') := by
  rw [run]
  cases run s first j with
  | error e => rfl
  | ok y =>
    obtain ⟨l, k⟩ := y
    dsimp only
    cases nxt s k first j <;> rfl
theorem run_crun {s : ByteArray} {first : Int} (hs : s.size ≤ 9223372036854775807) : ∀ {j : Nat} {l : List Rec} {k : Nat}, j ≤ 65536 → run s first j = .ok (l, k) → crun s first j = .ok (l, k)
  | 0, l, k, _, h => h
  | j + 1, l, k, hj, h => by
    rw [run_succ] at h
    cases hr : run s first j with
    | error e => rw [hr] at h; cases h
    | ok y =>
      obtain ⟨l0, k0⟩ := y
      have R := run_ran hs (by omega) hr
      have ih := run_crun hs (by omega) hr
      rw [hr] at h
      dsimp only at h
      cases hn : nxt s k0 first j with
      | error e => rw [hn] at h; cases h
      | ok z =>
        obtain ⟨r, k'⟩ := z
        rw [hn] at h
        dsimp only at h
        split at h
        · cases h
        · injection h with h
          injection h with h1 h2
          subst h1 h2
          have hk : k' = k0 + (k' - k0) := by
            have := (nxt_iff hs R.le (by omega)).1 hn
            omega
          rw [hk] at hn ⊢
          exact crun_yes ih ((rd5_nxt hs R.le (by omega)).2 hn)
theorem crunG_succ (rd : Nat → Nat → Except Nat (Rec × Nat)) (j : Nat) : crunG rd (j + 1) = match crunG rd j with
    | .error e => .error e
    | .ok (l, k) => match rd k j with
      | .error e => .error e
      | .ok (r, d) => .ok (l ++ [r], k + d) := by
  rw [crunG]
  cases crunG rd j with
  | error e => rfl
  | ok y =>
    obtain ⟨l, k⟩ := y
    dsimp only
    cases rd k j <;> rfl
theorem crunG_run {s : ByteArray} {first : Int} (hs : s.size ≤ 9223372036854775807) (rd : Nat → Nat → Except Nat (Rec × Nat)) (hrd : ∀ k n r d, k ≤ s.size → n < 65536 → rd k n = .ok (r, d) → nxt s k first n = .ok (r, k + d)) (j : Nat) : ∀ (l : List Rec) (k : Nat), j ≤ 65536 → crunG rd j = .ok (l, k) → (l = [] ∨ ft l = first) → run s first j = .ok (l, k) ∧ l.length = j ∧ k ≤ s.size := by
  induction j with
  | zero =>
    intro l k _ h _
    rw [crunG] at h
    injection h with h
    injection h with h1 h2
    subst h1 h2
    rw [run]
    exact ⟨rfl, rfl, Nat.zero_le _⟩
  | succ j ih =>
    intro l k hj h' hf
    rw [crunG_succ] at h'
    cases hr : crunG rd j with
    | error e => rw [hr] at h'; cases h'
    | ok y =>
      obtain ⟨l0, k0⟩ := y
      rw [hr] at h'
      dsimp only at h'
      cases hn : rd k0 j with
      | error e => rw [hn] at h'; cases h'
      | ok z =>
        obtain ⟨r, d⟩ := z
        rw [hn] at h'
        dsimp only at h'
        injection h' with h'
        injection h' with h1 h2
        subst h1 h2
        have hf0 : l0 = [] ∨ ft l0 = first := by
          cases l0 with
          | nil => exact Or.inl rfl
          | cons a m =>
            rcases hf with hf | hf
            · simp at hf
            · exact Or.inr hf
        obtain ⟨i1, i2, i3⟩ := ih l0 k0 (by omega) hr hf0
        have hx := hrd k0 j r d i3 (by omega) hn
        have hz := (nxt_iff hs i3 (by omega)).1 hx
        refine ⟨?_, by rw [List.length_append, i2]; rfl, by have := hz.1.1; omega⟩
        rw [run_succ, i1]
        dsimp only
        rw [hx]
        dsimp only
        rw [if_neg]
        rintro ⟨h3, h4⟩
        have : l0 = [] := List.eq_nil_of_length_eq_zero (by omega)
        subst this
        rcases hf with hf | hf
        · simp at hf
        · exact h4 hf
theorem crun_run {s : ByteArray} {first : Int} (hs : s.size ≤ 9223372036854775807) {j : Nat} {l : List Rec} {k : Nat} (hj : j ≤ 65536) (h : crun s first j = .ok (l, k)) (hf : l = [] ∨ ft l = first) : run s first j = .ok (l, k) ∧ l.length = j ∧ k ≤ s.size :=
  crunG_run hs _ (fun _ _ _ _ hk hn h => (rd5_nxt hs hk hn).1 h) j l k hj h hf
theorem rbd_crun {s : ByteArray} {first : Int} {cnt : Nat} {L : List Rec} (h : rbd s first cnt = .ok L) : crun s first cnt = .ok (L, s.size) ∧ ft L = first ∧ (1 ≤ cnt ∧ cnt ≤ 65536) ∧ s.size ≤ 16777216 ∧ L.length = cnt := by
  unfold rbd at h
  split at h
  · cases h
  · rename_i hc
    split at h
    · cases h
    · rename_i hb
      rw [Int.toNat_natCast] at h
      cases hr : run s first cnt with
      | error e => rw [hr] at h; cases h
      | ok y =>
        obtain ⟨l, k⟩ := y
        rw [hr] at h
        dsimp only at h
        split at h
        · cases h
        · injection h with h
          subst h
          have R := run_ran (by omega) (by omega) hr
          have := R.le
          have hk : k = s.size := by omega
          subst hk
          refine ⟨run_crun (by omega) (by omega) hr, ?_, by omega, by omega, R.len⟩
          cases hl : l with
          | nil => have := R.len; rw [hl] at this; simp at this; omega
          | cons a m => exact R.one a (by rw [hl]; rfl)
theorem crun_rbd {s : ByteArray} {first : Int} {cnt : Nat} {L : List Rec} {k : Nat} (hc : 1 ≤ cnt ∧ cnt ≤ 65536) (hs : s.size ≤ 16777216) (h : crun s first cnt = .ok (L, k)) (hk : ¬ k < s.size) (hf : ft L = first) : rbd s first cnt = .ok L := by
  obtain ⟨h1, h2, h3⟩ := crun_run (by omega) hc.2 h (Or.inr hf)
  unfold rbd
  rw [if_neg (by omega), if_neg (by omega), Int.toNat_natCast, h1]
  dsimp only
  rw [if_neg hk]
/-- What is right of a body. -/
theorem cbe_iff {s : ByteArray} {f : Fs} (hc : 1 ≤ f.cnt ∧ f.cnt ≤ 65536) (hs : s.size ≤ 16777216) (he : ∀ j e, crun s f.first j = .error e → e ≠ 0) : cbe s f = 0 ↔ ∃ L, rbd s f.first f.cnt = .ok L ∧ gr L = f.grt := by
  constructor
  · intro h
    cases hr : crun s f.first f.cnt with
    | error e => rw [cbe_err hr] at h; exact absurd h (he _ _ hr)
    | ok y =>
      obtain ⟨L, k⟩ := y
      rw [cbe_ok hr] at h
      split at h
      · cases h
      · split at h
        · cases h
        · rename_i h1 h2
          have h3 : ft L = f.first := Classical.not_not.1 (fun h => h2 (Or.inl h))
          have h4 : gr L = f.grt := Classical.not_not.1 (fun h => h2 (Or.inr h))
          exact ⟨L, crun_rbd hc hs hr h1 h3, h4⟩
  · rintro ⟨L, h1, h2⟩
    obtain ⟨h3, h4, _⟩ := rbd_crun h1
    rw [cbe_ok h3, if_neg (by omega), if_neg (by simp [h4, h2])]
end Go.Proofs.YtihokphamgkkcaaGreat
namespace Go.Proofs.YtihokphamgkkcaaGreat
open Go.RowKit
theorem be_nb6 : ∀ (n v : Nat), be (nb n v) = v % 256 ^ n
  | 0, v => by show 0 = _; rw [Nat.pow_zero, Nat.mod_one]
  | n + 1, v => by
    rw [nb, be_snoc, be_nb6 n, Nat.pow_succ, Nat.mul_comm (256 ^ n) 256, Nat.mod_mul]
    omega
theorem nb_byte6 : ∀ (n v : Nat), ∀ b ∈ nb n v, b < 256
  | 0, _, b, h => by simp [nb] at h
  | n + 1, v, b, h => by
    rw [nb, List.mem_append] at h
    rcases h with h | h
    · exact nb_byte6 n _ b h
    · simp at h; omega
theorem num_at {s : ByteArray} {A B : List Nat} {n v : Nat} (h : bl s = A ++ (nb n v ++ B)) (hv : v < 256 ^ n) : num s A.length n = v := by
  unfold num
  rw [bl_ext, h, List.drop_left, show A.length + n - A.length = n by omega, List.take_append_of_le_length (by rw [nb_len]; omega), List.take_of_length_le (by rw [nb_len]; omega), be_nb6, Nat.mod_eq_of_lt hv]
theorem wrap_u64 {v : Int} (h1 : -9223372036854775808 ≤ v) (h2 : v ≤ 9223372036854775807) : wrap64 ((u64 v : Nat) : Int) = v := by unfold wrap64 u64; omega
theorem wrap_u32' {v : Int} (h1 : -2147483648 ≤ v) (h2 : v ≤ 2147483647) : wrap32 ((u32 v : Nat) : Int) = v := by unfold wrap32 u32; omega
theorem u64_lt (v : Int) : u64 v < 256 ^ 8 := by rw [show 256 ^ 8 = 18446744073709551616 from by decide]; unfold u64; omega
theorem u32_lt (v : Int) : u32 v < 256 ^ 4 := by rw [show 256 ^ 4 = 4294967296 from by decide]; unfold u32; omega
/-- A head as bytes, with anything behind it. -/
theorem fsOf_head {s : ByteArray} {f : Fs} {X : List Nat} (hf : FsOk f) (p1 : -9223372036854775808 ≤ f.prod) (p2 : f.prod ≤ 9223372036854775807) (q1 : -2147483648 ≤ f.seq) (q2 : f.seq ≤ 2147483647) (h : bl s = usm f ++ (smd f ++ X)) : fsOf s = f := by
  obtain ⟨base, len, mark, sum, st, cnt, first, grt, prod, seq⟩ := f
  obtain ⟨hL, hM, hS, hT, hC, b1, b2, f1, f2, g1, g2⟩ := hf
  dsimp only at *
  unfold usm smd at h
  dsimp only at h
  simp only [List.append_assoc] at h
  have e0 := num_at (A := []) h (u64_lt base)
  have e1 := num_at (s := s) (A := nb 8 (u64 base)) (by simpa using h) (show len < 256 ^ 4 by omega)
  have e2 := num_at (s := s) (A := nb 8 (u64 base) ++ nb 4 len) (by simpa using h) (show mark < 256 ^ 1 by omega)
  have e3 := num_at (s := s) (A := nb 8 (u64 base) ++ nb 4 len ++ nb 1 mark) (by simpa using h) (show sum < 256 ^ 4 by omega)
  have e4 := num_at (s := s) (A := nb 8 (u64 base) ++ nb 4 len ++ nb 1 mark ++ nb 4 sum) (by simpa using h) (show st < 256 ^ 2 by omega)
  have e5 := num_at (s := s) (A := nb 8 (u64 base) ++ nb 4 len ++ nb 1 mark ++ nb 4 sum ++ nb 2 st) (by simpa using h) (show cnt < 256 ^ 4 by omega)
  have e6 := num_at (s := s) (A := nb 8 (u64 base) ++ nb 4 len ++ nb 1 mark ++ nb 4 sum ++ nb 2 st ++ nb 4 cnt) (by simpa using h) (u64_lt first)
  have e7 := num_at (s := s) (A := nb 8 (u64 base) ++ nb 4 len ++ nb 1 mark ++ nb 4 sum ++ nb 2 st ++ nb 4 cnt ++ nb 8 (u64 first)) (by simpa using h) (u64_lt grt)
  have e8 := num_at (s := s) (A := nb 8 (u64 base) ++ nb 4 len ++ nb 1 mark ++ nb 4 sum ++ nb 2 st ++ nb 4 cnt ++ nb 8 (u64 first) ++ nb 8 (u64 grt)) (by simpa using h) (u64_lt prod)
  have e9 := num_at (s := s) (A := nb 8 (u64 base) ++ nb 4 len ++ nb 1 mark ++ nb 4 sum ++ nb 2 st ++ nb 4 cnt ++ nb 8 (u64 first) ++ nb 8 (u64 grt) ++ nb 8 (u64 prod)) (by simpa using h) (u32_lt seq)
  simp only [List.length_append, nb_len, List.length_nil, Nat.reduceAdd] at e0 e1 e2 e3 e4 e5 e6 e7 e8 e9
  unfold fsOf
  rw [e0, e1, e2, e3, e4, e5, e6, e7, e8, e9, wrap_u64 b1 b2, wrap_u64 f1 f2, wrap_u64 g1 g2, wrap_u64 p1 p2, wrap_u32' q1 q2]
theorem usm_byte (f : Fs) : ∀ b ∈ usm f, b < 256 := by
  intro b h
  unfold usm at h
  simp only [List.mem_append] at h
  rcases h with ((h | h) | h) | h <;> exact nb_byte6 _ _ _ h
theorem smd_byte (f : Fs) : ∀ b ∈ smd f, b < 256 := by
  intro b h
  unfold smd at h
  simp only [List.mem_append] at h
  rcases h with ((((h | h) | h) | h) | h) | h <;> exact nb_byte6 _ _ _ h
theorem bl_frm (f : Fs) (t more : ByteArray) : bl (frm f t ++ more) = usm { f with sum := smo f t } ++ (smd { f with sum := smo f t } ++ (bl t ++ bl more)) := by
  unfold frm
  rw [bl_app, bl_app, bl_app, bl_bs _ (usm_byte _), bl_bs _ (smd_byte _)]
  simp only [List.append_assoc]
  rfl
theorem frm_size (f : Fs) (t : ByteArray) : (frm f t).size = 51 + t.size := by
  unfold frm
  rw [ByteArray.size_append, ByteArray.size_append, bs_size, bs_size, usm_len, smd_len]
theorem frm_sum (f : Fs) (t more : ByteArray) : (frm f t ++ more).extract 17 (51 + t.size) = bs (smd f) ++ t := by
  apply bl_inj
  rw [bl_ext, bl_frm, bl_app, bl_bs _ (smd_byte _), List.drop_left' (usm_len _), ← List.append_assoc]
  exact List.take_left' (by rw [List.length_append, bl_len]; show (smd f).length + t.size = _; rw [smd_len]; omega)
theorem frm_body (f : Fs) (t more : ByteArray) : (frm f t ++ more).extract 51 (51 + t.size) = t := by
  apply bl_inj
  rw [bl_ext, bl_frm, ← List.append_assoc, List.drop_left' (by rw [List.length_append, usm_len]; show 17 + (smd f).length = _; rw [smd_len])]
  exact List.take_left' (by rw [bl_len]; omega)
theorem pack_ge {l : List UInt8} (h : 2 ≤ l.length) : 3 ≤ (Lz.M.pack l).length := by
  have hu := Lz.M.un_pack l
  rcases Nat.lt_or_ge (Lz.M.pack l).length 3 with h3 | h3
  · exfalso
    generalize Lz.M.pack l = p at *
    by_cases h0 : p.length = 0
    · rw [List.eq_nil_of_length_eq_zero h0, Lz.M.un_nil, if_pos (by simp; omega)] at hu
      cases hu
    · rw [Lz.M.un_step h0] at hu
      cases hf : Lz.M.fst' p with
      | error e => rw [hf] at hu; cases hu
      | ok tn =>
        obtain ⟨t, m⟩ := tn
        rw [hf] at hu
        dsimp only at hu
        split at hu
        · cases hu
        split at hu
        · cases hu
        unfold Lz.M.fst' at hf
        dsimp only at hf
        split at hf
        · split at hf
          · cases hf
          · injection hf with hf
            injection hf with e1 e2
            have hl := un_len' l.length _ _ _ _ rfl (by have := Lz.M.app_len ([] : List UInt8) t; simp at this; omega) hu
            have hd : p.drop m = [] := List.eq_nil_of_length_eq_zero (by simp; omega)
            rw [hd, Lz.M.un_nil] at hu
            split at hu
            · cases hu
            · rename_i hx
              have hc := Lz.M.app_len ([] : List UInt8) t
              rw [hc] at hx
              subst e1
              have h7 : (List.take ((Lz.M.by_ p 0).toNat + 1) (List.drop 1 p)).length ≤ 1 := by simp; omega
              have h8 : (Lz.M.Tok.lit (List.take ((Lz.M.by_ p 0).toNat + 1) (List.drop 1 p))).count = (List.take ((Lz.M.by_ p 0).toNat + 1) (List.drop 1 p)).length := by simp [Lz.M.Tok.count, Lz.M.Tok.lits, Lz.M.Tok.len]
              rw [h8] at hx
              simp only [List.length_nil] at hx
              omega
        · cases hf
  · exact h3
theorem form_pos (v : Nat) : 1 ≤ (M.form v).length := by
  unfold M.form M.formF
  split <;> simp
theorem fm_ge (d : Int) (n : Nat) (r : Rec) : 7 ≤ (fm d n r).length := by
  unfold fm own
  have h1 := form_pos (M.zz d).toNat
  have h2 := form_pos n
  have h3 : 1 ≤ (ol r.kh r.kd).length := by unfold ol; split <;> simp <;> have := form_pos (2 * r.kd.size) <;> omega
  have h4 : 1 ≤ (ol r.vh r.vd).length := by unfold ol; split <;> simp <;> have := form_pos (2 * r.vd.size) <;> omega
  have h5 := form_pos r.hs.length
  simp only [List.length_append, List.length_cons, List.length_nil]
  have h6 := form_pos (0 + 1 + ((M.form (M.zz d).toNat).length + ((M.form n).length + ((ol r.kh r.kd).length + ((ol r.vh r.vd).length + ((M.form r.hs.length).length + (hl r.hs).length))))))
  omega
end Go.Proofs.YtihokphamgkkcaaGreat
namespace Go.Proofs.YtihokphamgkkcaaGreat
open Go.RowKit
theorem gm_gr (l : List RI) (f : RI → Rec) (hf : ∀ x, (f x).t = x.r.t) : ∀ j, 1 ≤ j → j ≤ l.length → gm l j = gr ((l.take j).map f)
  | 0, h, _ => by omega
  | 1, _, hj => by
    have e : l.take 1 = [l.getD 0 dri] := by
      have := take_getD (l := l) (j := 0) (by omega)
      simpa using this
    rw [e]
    show (if gm l 0 < (l.getD 0 dri).r.t then (l.getD 0 dri).r.t else gm l 0) = (f (l.getD 0 dri)).t
    rw [hf]
    show (if (l.getD 0 dri).r.t < (l.getD 0 dri).r.t then _ else (l.getD 0 dri).r.t) = _
    rw [if_neg (by omega)]
  | j + 2, _, hj => by
    have ih := gm_gr l f hf (j + 1) (by omega) (by omega)
    rw [take_getD (by omega), List.map_append]
    show (if gm l (j + 1) < (l.getD (j + 1) dri).r.t then (l.getD (j + 1) dri).r.t else gm l (j + 1)) = gr (_ ++ [f (l.getD (j + 1) dri)])
    rw [gr_snoc _ (by intro h; have := congrArg List.length h; rw [List.length_map, List.length_take, List.length_nil] at this; omega), ← ih, hf]
    split <;> omega
theorem grt_gr {l : List RI} (h : 1 ≤ l.length) : grt l = gr ((l.map RI.r).map cln) := by
  unfold grt
  rw [if_neg (by omega), gm_gr l (fun x => cln x.r) (fun x => rfl) l.length h (Nat.le_refl _), List.take_length, List.map_map]
  rfl
theorem cbe_of {s : ByteArray} {f : Fs} {L : List Rec} (h1 : rbd s f.first f.cnt = .ok L) (h2 : gr L = f.grt) : cbe s f = 0 := by
  obtain ⟨h3, h4, _⟩ := rbd_crun h1
  rw [cbe_ok h3, if_neg (by omega), if_neg (by simp [h4, h2])]
/-- A batch's numbers stand in their kinds. -/
structure BtOk (b : Bt) : Prop where
  t : ∀ x ∈ b.l, I64 x.r.t
  m : ∀ x ∈ b.l, Mod x.r
  l : b.l.length ≤ 9223372036854775807
  p1 : -9223372036854775808 ≤ b.prod
  p2 : b.prod ≤ 9223372036854775807
  q1 : -2147483648 ≤ b.seq
  q2 : b.seq ≤ 2147483647
/-- The head of b's frame. -/
def hdB (b : Bt) (T : ByteArray) : Fs := { fsB b T.size with sum := smo (fsB b T.size) T }
theorem sto_ok {b : Bt} {T : ByteArray} (h : StoP b 0 T) : rfh b = 0 ∧ ∃ S, BodyP b.l 0 S ∧ T = sto b S ∧ T.size ≤ 16777165 := by
  generalize hE : 0 = E at h
  cases h with
  | head h => exact absurd hE.symm h
  | body E h1 h2 h3 => exact absurd hE.symm h2
  | big S h1 h2 h3 => cases hE
  | ok S h1 h2 h3 => exact ⟨h1, S, h2, rfl, h3⟩
theorem body_ge {l : List RI} {S : ByteArray} (hT : ∀ x ∈ l, I64 x.r.t) (hM : ∀ x ∈ l, Mod x.r) (h : BodyP l 0 S) : 7 ≤ S.size := by
  obtain ⟨h1, _, _, h4, _⟩ := body_back hT hM h
  rw [← bl_len, h4]
  cases l with
  | nil => simp at h1
  | cons x m =>
    rw [List.map_cons, bdy, List.length_append]
    have := fm_ge (x.r.t - ((x :: m).getD 0 dri).r.t) 0 x.r
    omega
theorem sto_ge {b : Bt} {S : ByteArray} (h : 7 ≤ S.size) : 7 ≤ (sto b S).size := by
  unfold sto
  split
  · unfold pck
    rw [ByteArray.size_append, bs_size, nb_len, Lz.ba_size]
    have := pack_ge (l := S.data.toList) (by have : S.data.toList.length = S.size := by simp
                                             omega)
    omega
  · exact h
theorem bod_sto {b : Bt} {S : ByteArray} {most : Int} (h1 : S.size ≤ 16777216) (h2 : (S.size : Int) ≤ most) : bod (sto b S) (if b.pk = true then 1 else 0) most = .ok S := by
  unfold bod sto
  by_cases hp : b.pk = true
  · rw [if_pos hp, if_pos hp, if_pos rfl]
    have hsz : (pck S).size = 4 + (Lz.ba (Lz.M.pack S.data.toList)).size := by unfold pck; rw [ByteArray.size_append, bs_size, nb_len]
    rw [if_neg (by omega)]
    have hb : bl (pck S) = nb 4 S.size ++ bl (Lz.ba (Lz.M.pack S.data.toList)) := by unfold pck; rw [bl_app, bl_bs _ (nb_byte6 _ _)]
    have hn : num (pck S) 0 4 = S.size := num_at (A := []) (by rw [List.nil_append]; exact hb) (by omega)
    have hx : (pck S).extract 4 (pck S).size = Lz.ba (Lz.M.pack S.data.toList) := by
      apply bl_inj
      rw [bl_suf, hb, List.drop_left' (nb_len _ _)]
    rw [hn, if_neg (by omega), hx, Lz.ba_list, show S.size = S.data.toList.length by simp, Lz.M.un_pack]
    rfl
  · rw [if_neg hp, if_neg hp, if_neg (by decide), if_neg (by omega)]
theorem frm_right {b : Bt} {T : ByteArray} (hb : BtOk b) (h : StoP b 0 T) : Right (hdB b T) ∧ FsOk (hdB b T) := by
  obtain ⟨h1, S, h2, h3, h4⟩ := sto_ok h
  obtain ⟨r1, r2, r3, r4⟩ := rfh_zero h1
  have h7 : 7 ≤ T.size := by rw [h3]; exact sto_ge (body_ge hb.t hb.m h2)
  have hf := fsB_ok (n := T.size) h1 hb.t (by omega)
  have hfg : (b.l.getD 0 dri).r.t ≤ grt b.l := by
    unfold grt
    rw [if_neg (by omega)]
    have : ∀ j, (b.l.getD 0 dri).r.t ≤ gm b.l j := by
      intro j
      induction j with
      | zero => exact Int.le_refl _
      | succ j ih =>
        show _ ≤ (if gm b.l j < (b.l.getD j dri).r.t then (b.l.getD j dri).r.t else gm b.l j)
        split <;> omega
    exact this _
  refine ⟨⟨rfl, ?_, r1.1, r1.2, r2, r4, hfg, r3, ?_, ?_⟩, ⟨hf.len, hf.mark, crcOf_lt _, hf.st, hf.cnt, hf.b1, hf.b2, hf.f1, hf.f2, hf.g1, hf.g2⟩⟩
  · show (if b.pk = true then 1 else 0) ≤ 1
    split <;> omega
  · show 46 ≤ 39 + T.size; omega
  · show 39 + T.size ≤ _; omega
theorem frm_fs {b : Bt} {T : ByteArray} (hb : BtOk b) (h : StoP b 0 T) (more : ByteArray) : fsOf (frm (fsB b T.size) T ++ more) = hdB b T :=
  fsOf_head (frm_right hb h).2 hb.p1 hb.p2 hb.q1 hb.q2 (bl_frm _ _ _)
theorem frm_pke {b : Bt} {T : ByteArray} (hb : BtOk b) (h : StoP b 0 T) (more : ByteArray) : pke (frm (fsB b T.size) T ++ more) = 0 := by
  refine pke_ok (by rw [ByteArray.size_append, frm_size]; omega) ?_
  rw [frm_fs hb h]
  exact rgt_iff.2 (frm_right hb h).1
theorem frm_whe {b : Bt} {T : ByteArray} (more : ByteArray) (m : Int) (hm : ((51 + T.size : Nat) : Int) ≤ m) : whe (frm (fsB b T.size) T ++ more) (hdB b T) m = 0 := by
  have e : 12 + (hdB b T).len = 51 + T.size := by show 12 + (39 + T.size) = _; omega
  unfold whe
  rw [e, if_neg (by omega), if_neg (by rw [ByteArray.size_append, frm_size]; omega), frm_sum, if_neg (by intro h; exact h rfl)]
theorem opn_frame {b : Bt} {S : ByteArray} (hb : BtOk b) (h1 : rfh b = 0) (h2 : BodyP b.l 0 S) (h4 : (sto b S).size ≤ 16777165) (more : ByteArray) (frame plain : Int) (hm : ((51 + (sto b S).size : Nat) : Int) ≤ wth frame 58 16777216) (hp : (S.size : Int) ≤ wth plain 7 16777216) :
    opn (frm (fsB b (sto b S).size) (sto b S) ++ more) frame plain = .ok (hdB b (sto b S), S) := by
  have h := StoP.ok S h1 h2 h4
  obtain ⟨c1, c2, c3, c4, c5, _⟩ := body_back hb.t hb.m h2
  unfold opn
  rw [frm_pke hb h, if_neg (by intro h; exact h rfl), frm_fs hb h, frm_whe more _ hm, if_neg (by intro h; exact h rfl)]
  have e : 12 + (hdB b (sto b S)).len = 51 + (sto b S).size := by show 12 + (39 + (sto b S).size) = _; omega
  rw [e, frm_body]
  have hbod : bod (sto b S) (hdB b (sto b S)).st (wth plain 7 16777216) = .ok S := bod_sto c2 hp
  rw [hbod]
  dsimp only
  have hc : cbe S (hdB b (sto b S)) = 0 := cbe_of (f := hdB b (sto b S)) (L := (b.l.map RI.r).map cln) c5 (by rw [← grt_gr (by omega)]; rfl)
  rw [hc, if_neg (by intro h; exact h rfl)]
end Go.Proofs.YtihokphamgkkcaaGreat
namespace Go.Proofs.YtihokphamgkkcaaGreat
open Go.RowKit
theorem app_emp (s : ByteArray) : s ++ (⟨#[]⟩ : ByteArray) = s := ByteArray.append_empty
/-- What Encode answers where nothing is refused. -/
theorem enc_ok {b : Bt} {E : Nat} {S : ByteArray} (h : EncP b E S) (h1 : rfh b = 0) (hz : ∀ i, i < b.l.length → sze (b.l.getD i dri).r (b.l.getD 0 dri).r.t i = 0) (hl : (bdy (b.l.getD 0 dri).r.t 0 (b.l.map RI.r)).length ≤ 16777216) (hs : (sto b (bs (bdy (b.l.getD 0 dri).r.t 0 (b.l.map RI.r)))).size ≤ 16777165) :
    E = 0 ∧ BodyP b.l 0 (bs (bdy (b.l.getD 0 dri).r.t 0 (b.l.map RI.r))) ∧ S = frm (fsB b (sto b (bs (bdy (b.l.getD 0 dri).r.t 0 (b.l.map RI.r)))).size) (sto b (bs (bdy (b.l.getD 0 dri).r.t 0 (b.l.map RI.r)))) := by
  have hL := (rfh_zero h1).1
  have hF : ∀ E, FitE b.l (b.l.getD 0 dri).r.t E → E = 0 := fun E hE => (fit_zero hE).2 ⟨hz, hl⟩
  have hB : ∀ E S, BodyP b.l E S → E = 0 := fun E S h => by
    rcases h.1 with ⟨h2, _⟩ | ⟨_, h2⟩
    · exact absurd hL h2
    · exact hF E h2
  have hB0 : BodyP b.l 0 (bs (bdy (b.l.getD 0 dri).r.t 0 (b.l.map RI.r))) := ⟨Or.inr ⟨hL, Or.inr ⟨hz, by rw [if_neg (by omega)]⟩⟩, fun h => absurd rfl h, fun _ => rfl⟩
  rcases h with ⟨h2, h3, _⟩ | ⟨h2, T, h3, h4⟩
  · exfalso
    generalize (⟨#[]⟩ : ByteArray) = Z at h3
    cases h3 with
    | head h => exact h h1
    | body E h4 h5 h6 => exact h5 (hB _ _ h6)
    | big S0 h4 h5 h6 =>
      have e := h5.2.2 rfl
      rw [e] at h6
      omega
    | ok S0 h4 h5 h6 => exact h2 rfl
  · refine ⟨h2, hB0, ?_⟩
    obtain ⟨_, S0, h5, h6, h7⟩ := sto_ok h3
    have e := h5.2.2 rfl
    subst e
    rw [h4, h6]
/-- A frame that is cut behind its head says that it is short. -/
theorem opn_cut {b : Bt} {T : ByteArray} (hb : BtOk b) (h : StoP b 0 T) (k : Nat) (h1 : 51 ≤ k) (h2 : k < 51 + T.size) (frame plain : Int) (hm : ((51 + T.size : Nat) : Int) ≤ wth frame 58 16777216) :
    opn ((frm (fsB b T.size) T).extract 0 k) frame plain = .error 20 := by
  have hz : ((frm (fsB b T.size) T).extract 0 k).size = k := by rw [ByteArray.size_extract, frm_size]; omega
  have hbl : bl ((frm (fsB b T.size) T).extract 0 k) = usm (hdB b T) ++ (smd (hdB b T) ++ (bl T).take (k - 51)) := by
    have e0 := bl_frm (fsB b T.size) T ⟨#[]⟩
    rw [app_emp, show bl ⟨#[]⟩ = [] from rfl, List.append_nil] at e0
    rw [bl_ext, e0, List.drop_zero, Nat.sub_zero, ← List.append_assoc, List.take_append, List.take_of_length_le (by rw [List.length_append, usm_len, smd_len]; omega), List.length_append, usm_len, smd_len, List.append_assoc]
    rfl
  have hf : fsOf ((frm (fsB b T.size) T).extract 0 k) = hdB b T := fsOf_head (frm_right hb h).2 hb.p1 hb.p2 hb.q1 hb.q2 hbl
  have hp : pke ((frm (fsB b T.size) T).extract 0 k) = 0 := pke_ok (by omega) (by rw [hf]; exact rgt_iff.2 (frm_right hb h).1)
  have e : 12 + (hdB b T).len = 51 + T.size := by show 12 + (39 + T.size) = _; omega
  have hw : whe ((frm (fsB b T.size) T).extract 0 k) (hdB b T) (wth frame 58 16777216) = 20 := by
    unfold whe
    rw [e, if_neg (by omega), if_pos (by omega)]
  unfold opn
  rw [hp, if_neg (by intro h; exact h rfl), hf, hw, if_pos (by decide)]
/-- The example's batch. -/
def rec5 : RI := ⟨⟨5, false, ⟨#[]⟩, false, ⟨#[]⟩, []⟩, none, 0⟩
def bt5 (a : Option Addr) (cap : Nat) : Bt := ⟨3, false, -1, -1, [rec5], a, cap⟩
def body5 : ByteArray := ⟨#[6, 0, 0, 0, 1, 1, 0]⟩
theorem bdy5 : bs (bdy 5 0 [rec5.r]) = body5 := by rfl
theorem bt5_ok (a : Option Addr) (cap : Nat) : BtOk (bt5 a cap) := by
  refine ⟨?_, ?_, by show 1 ≤ _; omega, by show _ ≤ (-1 : Int); omega, by show (-1 : Int) ≤ _; omega, by show _ ≤ (-1 : Int); omega, by show (-1 : Int) ≤ _; omega⟩
  · intro x hx
    rw [show x = rec5 from List.mem_singleton.1 hx]
    exact ⟨by decide, by decide⟩
  · intro x hx
    rw [show x = rec5 from List.mem_singleton.1 hx]
    exact ⟨by decide, by decide, fun y hy => (by cases hy), by decide, by decide⟩
theorem enc5 {a : Option Addr} {cap E : Nat} {S : ByteArray} (h : EncP (bt5 a cap) E S) : E = 0 ∧ BodyP [rec5] 0 body5 ∧ S = frm (fsB (bt5 a cap) 7) body5 := by
  have h1 : rfh (bt5 a cap) = 0 := by rfl
  exact enc_ok h h1 (by intro i hi; have : i = 0 := by (have : i < 1 := hi); omega
                        subst this; show sze rec5.r 5 0 = 0; decide) (by show (bdy 5 0 [rec5.r]).length ≤ 16777216; decide) (by show (bs (bdy 5 0 [rec5.r])).size ≤ 16777165; decide)
end Go.Proofs.YtihokphamgkkcaaGreat
