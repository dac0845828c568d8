/- Texts of the proof, put together: LFix, LUnps, LPk3, LTkr, LFrm, LRBest, LBests, LRPk, LRPk2, LRFrm, LTl, LRPa. -/
import Derived.Test.YtihokphamgkkcaaGreatML2
import Derived.Test.YtihokphamgkkcaaGreatML1
import Derived.Laws.AppendOwnNone
namespace Go.Proofs.YtihokphamgkkcaaGreat.Lz
open Go.RowKit
/-- What Bound answers. -/
def bndZ (n : Int) : Int := if n < 0 then 0 else if 1073741824 < n then 1082130432 else n + (n + 127) / 128
theorem fx1 (w : World) : Calls Tryz.prog 148 #[.string ⟨#[2, 97, 98, 99, 130, 0, 3, 0, 100]⟩, .int .i64 10, .int .i64 10] w fun e w' => e = .returned (.tuple #[.string ⟨#[97, 98, 99, 97, 98, 99, 97, 98, 99, 100]⟩, .int .i64 0]) ∧ Below w.heap.size w w' := by
  have h := unpack_any ⟨#[2, 97, 98, 99, 130, 0, 3, 0, 100]⟩ 10 10 w (by omega) (fun _ _ => by omega)
  have e : unZ [2, 97, 98, 99, 130, 0, 3, 0, 100] 10 10 = .tuple #[.string ⟨#[97, 98, 99, 97, 98, 99, 97, 98, 99, 100]⟩, .int .i64 0] := by
    unfold unZ
    rw [if_neg (by omega), show (10 : Int).toNat = 10 from rfl, M.un_abc]
    rfl
  rw [show (⟨#[2, 97, 98, 99, 130, 0, 3, 0, 100]⟩ : ByteArray).data.toList = [2, 97, 98, 99, 130, 0, 3, 0, 100] from rfl, e] at h
  exact h
theorem fx2 (w : World) : Calls Tryz.prog 148 #[.string ⟨#[128, 0, 1]⟩, .int .i64 4, .int .i64 9] w fun e w' => e = .returned (.tuple #[.string ⟨#[]⟩, .int .i64 25]) ∧ Below w.heap.size w w' := by
  have h := unpack_any ⟨#[128, 0, 1]⟩ 4 9 w (by omega) (fun _ _ => by omega)
  have e : unZ [128, 0, 1] 4 9 = .tuple #[.string ⟨#[]⟩, .int .i64 25] := by
    unfold unZ
    rw [if_neg (by omega), show (4 : Int).toNat = 4 from rfl, M.un_bad]
    rfl
  rw [show (⟨#[128, 0, 1]⟩ : ByteArray).data.toList = [128, 0, 1] from rfl, e] at h
  exact h
theorem fx4 (w : World) : Calls Tryz.prog 89 #[.string ⟨#[97, 98, 99, 97, 98, 99, 97, 98, 99, 100]⟩] w fun e w' => e = .returned (.string ⟨#[2, 97, 98, 99, 130, 0, 3, 0, 100]⟩) ∧ Below w.heap.size w w' := by
  have h := pack_any ⟨#[97, 98, 99, 97, 98, 99, 97, 98, 99, 100]⟩ w (by decide)
  rw [show (⟨#[97, 98, 99, 97, 98, 99, 97, 98, 99, 100]⟩ : ByteArray).data.toList = [97, 98, 99, 97, 98, 99, 97, 98, 99, 100] from rfl, M.pack_abc] at h
  exact h
end Go.Proofs.YtihokphamgkkcaaGreat.Lz
namespace Go.Proofs.YtihokphamgkkcaaGreat.Lz
open Go.RowKit
theorem un_len (len : Nat) : ∀ (n : Nat) (p out F : List UInt8), p.length = n → M.un len p out = .ok F → len ≤ out.length + 131 * p.length := by
  intro n
  induction n using Nat.strongRecOn with
  | ind n ih =>
    intro p out F hn h
    by_cases h0 : p.length = 0
    · rw [List.eq_nil_of_length_eq_zero h0, M.un_nil] at h
      split at h
      · cases h
      · omega
    · rw [M.un_step h0] at h
      cases hf : M.fst' p with
      | error e => rw [hf] at h; cases h
      | ok tn =>
        obtain ⟨t, m⟩ := tn
        rw [hf] at h
        simp only at h
        have hok := M.fst_ok h0 hf
        have hsm := tok_small hok.1
        have hal := M.app_len out t
        split at h
        · cases h
        · split at h
          · cases h
          · have := ih (p.drop m).length (by simp; omega) _ _ _ rfl h
            rw [List.length_drop, hal] at this
            omega
theorem unZ_form (p : List UInt8) (z m : Int) : ∃ X Y, unZ p z m = .tuple #[.string X, .int .i64 Y] := by
  unfold unZ
  split
  · exact ⟨_, _, rfl⟩
  · split
    · exact ⟨_, _, rfl⟩
    · exact ⟨_, _, rfl⟩
set_option maxHeartbeats 1000000 in
theorem runpack_any (p : ByteArray) (z m : Int) (w : World) (hs : p.size ≤ 1048576) (h1 : z ≤ 9223372036854775807) :
    Calls Tryz.prog 150 #[.string p, .int .i64 z, .int .i64 m] w fun e w' => e = .returned (unZ p.data.toList z m) ∧ Below w.heap.size w w' := by
  by_cases h0 : z < 0 ∨ m < z
  · unfold unZ
    rw [if_pos h0]
    by_cases hz : z < 0
    · clear h0
      go_enter Tryz.func150, Tryz.ntmps150
      go_wp2_with fail
      go_ret2
      exact ⟨rfl, Below.refl _ _⟩
    · have hz2 : m < z := by omega
      clear h0
      go_enter Tryz.func150, Tryz.ntmps150
      go_wp2_with fail
      go_ret2
      exact ⟨rfl, Below.refl _ _⟩
  · obtain ⟨len, rfl⟩ := Int.eq_ofNat_of_zero_le (show 0 ≤ z by omega)
    have hx := runpack_in p len m w hs (by omega) (by omega)
    unfold unZ
    rw [if_neg h0]
    exact hx
/-- The elements of a slice of a text and two numbers each, where they lie. -/
def Trip (w : World) (a : Option Addr) (rs : List (ByteArray × Int × Int)) : Prop := rs = [] ∨ ∃ b off, a = some ⟨b, off, none⟩ ∧ b < w.heap.size ∧ ∀ j, j < rs.length → w.cell? ⟨b, off + j * 3, none⟩ = some (.string (rs.getD j (ByteArray.empty, 0, 0)).1) ∧ w.cell? ⟨b, off + j * 3 + 1, none⟩ = some (.int .i64 (rs.getD j (ByteArray.empty, 0, 0)).2.1) ∧ w.cell? ⟨b, off + j * 3 + 2, none⟩ = some (.int .i64 (rs.getD j (ByteArray.empty, 0, 0)).2.2)
theorem trip_mem {rs : List (ByteArray × Int × Int)} {k : Nat} (h : k < rs.length) : rs.getD k (ByteArray.empty, 0, 0) ∈ rs := by
  simp [List.getD_eq_getElem?_getD, h]
end Go.Proofs.YtihokphamgkkcaaGreat.Lz
namespace Go.Proofs.YtihokphamgkkcaaGreat.Lz.M
def tksF : Nat → Nat → List UInt8 → Except (Nat × Nat) (List Tok)
  | 0, _, _ => .ok []
  | f + 1, q, p => if p.length = 0 then .ok [] else
    match fst' p with
    | .error k => .error (q, k)
    | .ok (t, n) => match tksF f (q + n) (p.drop n) with
      | .error e => .error e
      | .ok ts => .ok (t :: ts)
theorem tksF_eq : ∀ (f g q : Nat) (p : List UInt8), p.length ≤ f → p.length ≤ g → tksF f q p = tksF g q p
  | 0, 0, _, _, _, _ => rfl
  | 0, g + 1, q, p, h, _ => by
    have h0 : p.length = 0 := by omega
    simp only [tksF, h0, if_true]
  | f + 1, 0, q, p, _, h => by
    have h0 : p.length = 0 := by omega
    simp only [tksF, h0, if_true]
  | f + 1, g + 1, q, p, h1, h2 => by
    simp only [tksF]
    split
    · rfl
    · rename_i hp
      split
      · rfl
      · rename_i t n he
        have := fst_ok hp he
        rw [tksF_eq f g (q + n) (p.drop n) (by simp; omega) (by simp; omega)]
def tks (q : Nat) (p : List UInt8) : Except (Nat × Nat) (List Tok) := tksF p.length q p
def pre (ts0 : List Tok) : Except (Nat × Nat) (List Tok) → Except (Nat × Nat) (List Tok)
  | .error e => .error e
  | .ok ts => .ok (ts0 ++ ts)
theorem pre_nil (X : Except (Nat × Nat) (List Tok)) : pre [] X = X := by cases X <;> rfl
theorem tks_nil (q : Nat) : tks q [] = .ok [] := rfl
theorem tks_err {q k : Nat} {p : List UInt8} (hp : p.length ≠ 0) (h : fst' p = .error k) : tks q p = .error (q, k) := by
  unfold tks
  obtain ⟨n, hn⟩ : ∃ n, p.length = n + 1 := ⟨p.length - 1, by omega⟩
  rw [hn]
  simp only [tksF, hp, if_false, h]
theorem tks_ok {q n : Nat} {t : Tok} {p : List UInt8} (hp : p.length ≠ 0) (h : fst' p = .ok (t, n)) (ts0 : List Tok) : pre ts0 (tks q p) = pre (ts0 ++ [t]) (tks (q + n) (p.drop n)) := by
  have hok := fst_ok hp h
  unfold tks
  obtain ⟨m, hm⟩ : ∃ m, p.length = m + 1 := ⟨p.length - 1, by omega⟩
  rw [hm]
  simp only [tksF, hp, if_false, h]
  rw [tksF_eq m (p.drop n).length (q + n) (p.drop n) (by simp; omega) (Nat.le_refl _)]
  cases tksF (p.drop n).length (q + n) (p.drop n) with
  | error e => rfl
  | ok ts => simp [pre]
theorem tks_bytes : ∀ (ts : List Tok) (q : Nat), (∀ t ∈ ts, t.ok) → tks q (bytesOf ts) = .ok ts
  | [], q, _ => rfl
  | t :: ts, q, h => by
    have ht := h t (List.mem_cons_self ..)
    have hp : (bytesOf (t :: ts)).length ≠ 0 := by
      rw [bytesOf_cons, List.length_append]
      have := bytes_pos t
      omega
    have hf : fst' (bytesOf (t :: ts)) = .ok (t, t.bytes.length) := by rw [bytesOf_cons]; exact fst_bytes ht _
    have h1 := tks_ok (q := q) hp hf []
    rw [pre_nil] at h1
    rw [h1, bytesOf_cons, List.drop_left, tks_bytes ts _ (fun u hu => h u (List.mem_cons_of_mem _ hu))]
    rfl
end Go.Proofs.YtihokphamgkkcaaGreat.Lz.M
namespace Go.Proofs.YtihokphamgkkcaaGreat.Lz
open Go.RowKit
/-- A token as a text and two numbers. -/
def rt (t : M.Tok) : ByteArray × Int × Int := (ba t.lits, (t.len : Nat), (t.dist : Nat))
def rc (r : ByteArray × Int × Int) : List Value := [.string r.1, .int .i64 r.2.1, .int .i64 r.2.2]
def rcs (rs : List (ByteArray × Int × Int)) : List Value := rs.flatMap rc
theorem rcs_len (rs : List (ByteArray × Int × Int)) : (rcs rs).length = rs.length * 3 := by
  induction rs with
  | nil => rfl
  | cons r rs ih => simp only [rcs, List.flatMap_cons, List.length_append] at *; rw [ih]; simp [rc]; omega
theorem rcs_app (a b : List (ByteArray × Int × Int)) : rcs (a ++ b) = rcs a ++ rcs b := by simp [rcs]
theorem rcs_one (rs : List (ByteArray × Int × Int)) : ∀ u ∈ rcs rs, u.oneCell' = true := by
  intro u hu
  simp only [rcs, List.mem_flatMap] at hu
  obtain ⟨r, _, h⟩ := hu
  simp only [rc, List.mem_cons, List.not_mem_nil, or_false] at h
  rcases h with rfl | rfl | rfl <;> rfl
theorem rcs_at (rs : List (ByteArray × Int × Int)) : ∀ j, j < rs.length → (rcs rs)[j * 3]? = some (.string (rs.getD j (ByteArray.empty, 0, 0)).1) ∧ (rcs rs)[j * 3 + 1]? = some (.int .i64 (rs.getD j (ByteArray.empty, 0, 0)).2.1) ∧ (rcs rs)[j * 3 + 2]? = some (.int .i64 (rs.getD j (ByteArray.empty, 0, 0)).2.2) := by
  induction rs with
  | nil => intro j hj; simp at hj
  | cons r rs ih =>
    intro j hj
    have e : rcs (r :: rs) = rc r ++ rcs rs := rfl
    cases j with
    | zero => rw [e]; exact ⟨rfl, rfl, rfl⟩
    | succ j =>
      have h := ih j (by simpa using hj)
      rw [e]
      have e3 : (rc r).length = 3 := rfl
      refine ⟨?_, ?_, ?_⟩
      · rw [List.getElem?_append_right (by omega), e3, show (j + 1) * 3 - 3 = j * 3 from by omega]; exact h.1
      · rw [List.getElem?_append_right (by omega), e3, show (j + 1) * 3 + 1 - 3 = j * 3 + 1 from by omega]; exact h.2.1
      · rw [List.getElem?_append_right (by omega), e3, show (j + 1) * 3 + 2 - 3 = j * 3 + 2 from by omega]; exact h.2.2
/-- A row of tokens of the call's own, from B on. -/
def OwnT (T : TypeId) (w : World) (B : Nat) (v : Value) (rs : List (ByteArray × Int × Int)) : Prop := w.ownsRow B T 3 v rs.length (rcs rs)
theorem OwnT.slice {T : TypeId} {w : World} {B : Nat} {v : Value} {rs : List (ByteArray × Int × Int)} (h : OwnT T w B v rs) : ∃ a cap, v = .slice a rs.length cap ∧ (a = none → v = .slice none 0 0 ∧ rs.length = 0) ∧ Trip w a rs := by
  have hlt := World.ownsRow.lt h
  have hcell := fun (g : Nat) (hg : v.ownBlock = some g) => World.ownsRow.cells h hg
  obtain ⟨hl, h⟩ := h
  rcases h with ⟨rfl, h1⟩ | ⟨g, cap, cur, rfl, _⟩
  · exact ⟨none, 0, by rw [h1], fun _ => ⟨rfl, h1⟩, Or.inl (List.eq_nil_of_length_eq_zero h1)⟩
  · refine ⟨some ⟨g, 0, none⟩, cap, rfl, fun hh => (by cases hh), Or.inr ⟨g, 0, rfl, (hlt g rfl).2, fun j hj => ?_⟩⟩
    have hr := rcs_at rs j hj
    have e : ∀ i, (⟨g, 0, none⟩ : Addr).add i = ⟨g, 0 + i, none⟩ := fun i => Go.WideShapes.add_plain _ _ _
    refine ⟨?_, ?_, ?_⟩
    · have := hcell g rfl _ _ hr.1; rw [e] at this; exact this
    · have := hcell g rfl _ _ hr.2.1; rw [e] at this; exact this
    · have := hcell g rfl _ _ hr.2.2; rw [e] at this; exact this
theorem ownT_snoc {T : TypeId} {w : World} {B n : Nat} {v : Value} {rs : List (ByteArray × Int × Int)} {r : ByteArray × Int × Int} (h : w.ownsRow B T 3 v (n + 1) (rcs rs ++ rc r)) (hn : rs.length = n) : OwnT T w B v (rs ++ [r]) := by
  unfold OwnT
  rw [List.length_append, hn, rcs_app]
  have : rcs [r] = rc r := by simp [rcs]
  rw [this]
  exact h
theorem Tryz.infoTok : (Tryz.prog.info? 231).map (fun i => (i.zero, i.size, i.bytes)) = some (some (.agg #[.string ⟨#[]⟩, .int .i64 0, .int .i64 0]), 3, 32) := by kernel_rfl
theorem cells_newN (w : World) (xs : List Value) (t : TypeId) (n : Nat) (h : w.heap.size = n) : ∀ j u, xs[j]? = some u → (w.alloc (.cells xs.toArray t)).cell? ((⟨n, 0, none⟩ : Addr).add j) = some u := by subst h; exact cells_new w xs t
theorem rc_one (r : ByteArray × Int × Int) : ∀ u ∈ rc r, u.oneCell' = true := fun u hu => rcs_one [r] u (by simpa [rcs] using hu)
/-- What Tokens answers. -/
def TokPost (T : TypeId) (B size : Nat) (R : Except (Nat × Nat) (List M.Tok)) (e : Ending) (w' : World) : Prop :=
  match R with
  | .ok ts => ∃ v, e = .returned (.tuple #[v, .int .i64 size, .int .i64 0]) ∧ OwnT T w' B v (ts.map rt)
  | .error qk => e = .returned (.tuple #[.slice none 0 0, .int .i64 (qk.1 : Nat), .int .i64 (qk.2 : Nat)])
end Go.Proofs.YtihokphamgkkcaaGreat.Lz
namespace Go.Proofs.YtihokphamgkkcaaGreat.Lz
open Go.RowKit
/-- A token's bytes, if it is right. -/
def rb (r : ByteArray × Int × Int) : Option (List UInt8) :=
  if lB r.1 r.2.1 r.2.2 = true then some (M.bytesOf (M.runs r.1.data.toList)) else if mB r.1 r.2.1 r.2.2 = true then some (M.Tok.mat r.2.1.toNat r.2.2.toNat).bytes else none
def fpre (p : List UInt8) : Option (List UInt8) → Option (List UInt8)
  | none => none
  | some b => some (p ++ b)
def frm : List (ByteArray × Int × Int) → Option (List UInt8)
  | [] => some []
  | r :: rs => match rb r with
    | none => none
    | some a => fpre a (frm rs)
theorem fpre_nil (X : Option (List UInt8)) : fpre [] X = X := by cases X <;> rfl
theorem fpre_fpre (a b : List UInt8) (X : Option (List UInt8)) : fpre a (fpre b X) = fpre (a ++ b) X := by cases X <;> simp [fpre]
theorem runs_one {l : List UInt8} (h : 1 ≤ l.length) (h2 : l.length ≤ 128) : M.bytesOf (M.runs l) = (M.Tok.lit l).bytes := by
  rw [M.runs_step (by omega), List.drop_eq_nil_of_le h2, M.runs_nil, List.take_of_length_le h2]
  simp [M.bytesOf]
theorem rb_le {r : ByteArray × Int × Int} {a : List UInt8} (h : rb r = some a) : a.length ≤ 131 := by
  unfold rb at h
  split at h
  · rename_i hl
    unfold lB at hl
    rw [decide_eq_true_iff] at hl
    injection h with h
    rw [← h, runs_one (by rw [len_]; omega) (by rw [len_]; omega)]
    simp only [M.Tok.bytes, List.length_cons, len_]
    omega
  · split at h
    · injection h with h
      rw [← h]
      simp [M.Tok.bytes]
    · cases h
/-- What Form answers. -/
def frmV : Option (List UInt8) → Value
  | none => .tuple #[.string ⟨#[]⟩, .int .i64 1]
  | some b => .tuple #[.string (ba b), .int .i64 0]
theorem drop_at (rs : List (ByteArray × Int × Int)) (j : Nat) (h : j < rs.length) : rs.drop j = rs.getD j (ByteArray.empty, 0, 0) :: rs.drop (j + 1) := by
  rw [List.drop_eq_getElem_cons h]
  simp [List.getD_eq_getElem?_getD, h]
theorem Trip.below {w w' : World} {a : Option Addr} {rs : List (ByteArray × Int × Int)} (h : Trip w a rs) (hb : Below w.heap.size w w') : Trip w' a rs := by
  rcases h with rfl | ⟨b, off, rfl, hlt, hc⟩
  · exact Or.inl rfl
  · refine Or.inr ⟨b, off, rfl, Nat.lt_of_lt_of_le hlt hb.size, fun j hj => ?_⟩
    obtain ⟨q0, q1, q2⟩ := hc j hj
    exact ⟨(hb.cell (p := ⟨b, off + j * 3, none⟩) hlt).trans q0, (hb.cell (p := ⟨b, off + j * 3 + 1, none⟩) hlt).trans q1, (hb.cell (p := ⟨b, off + j * 3 + 2, none⟩) hlt).trans q2⟩
end Go.Proofs.YtihokphamgkkcaaGreat.Lz
namespace Go.Proofs.YtihokphamgkkcaaGreat.Lz
open Go.RowKit
/-- The best so far, by the reference's own count. -/
def Rb (l : List UInt8) (p k N D : Nat) : Prop := M.bs l 0 p (M.most l p) k = (N, D)
theorem Rb.done {l : List UInt8} {p k N D : Nat} (h : Rb l p k N D) (hk : k = min p 8192 ∨ (N = M.most l p ∧ k ≤ min p 8192)) : M.bs l 0 p (M.most l p) (min p 8192) = (N, D) := by
  rcases hk with hk | ⟨hN, hk⟩
  · rw [← hk]; exact h
  · rw [M.bs_skip (D := k) hk ?_]
    · exact h
    · intro d h1 h2
      rw [h]
      have := M.alk_le l (M.most l p) (p - d) p
      show _ ≤ max N 0
      omega
theorem best_of {l : List UInt8} {p N D : Nat} (h : M.bs l 0 p (M.most l p) (min p 8192) = (N, D)) : M.best l p = if 3 < N then (N, D) else (0, 0) := by
  unfold M.best
  rw [M.bs_zero, h]
theorem Rb.pass {l : List UInt8} {p k N D : Nat} (h : Rb l p k N D) (hn : M.alk l (M.most l p) (p - (k + 1)) p ≤ N) : Rb l p (k + 1) N D := by
  unfold Rb at *
  rw [M.bs_skip (D := k) (by omega) ?_]
  · exact h
  · intro d h1 h2
    obtain rfl : d = k + 1 := by omega
    rw [h]
    show _ ≤ max N 0
    omega
theorem Rb.take {l : List UInt8} {p k N D n : Nat} (h : Rb l p k N D) (hn : M.alk l (M.most l p) (p - (k + 1)) p = n) (hg : N < n) : Rb l p (k + 1) n (k + 1) := by
  unfold Rb at *
  refine M.bs_take hn ?_
  rw [h]
  show max N 0 < n
  omega
theorem Rb.le {l : List UInt8} {p k N D : Nat} (h : Rb l p k N D) : N ≤ M.most l p := by
  have := (M.bs_le l 0 p (M.most l p) k).1
  unfold Rb at h
  rw [h] at this
  exact this
set_option maxHeartbeats 4000000 in
set_option maxRecDepth 20000 in
theorem rbest_in (s : ByteArray) (p : Nat) (w : World) (hs : s.size ≤ 9223372036854775000) (hp : p < s.size) :
    Calls Tryz.prog 99 #[.string s, .int .i64 p] w fun e w' => e = .returned (.tuple #[.int .i64 ((M.best s.data.toList p).1 : Nat), .int .i64 ((M.best s.data.toList p).2 : Nat)]) ∧ Qt w w' := by
  have hlen := len_ s
  have hats := fun (i : Nat) (h : i < s.size) => at_ s i h
  generalize s.data.toList = l at *
  obtain ⟨m, hm⟩ : ∃ m, m = M.most l p := ⟨_, rfl⟩
  have hm5 : m ≤ 131 := by rw [hm]; unfold M.most; omega
  have hm6 : p + m ≤ s.size := by rw [hm]; unfold M.most; omega
  have hm7 : m = 131 ∨ p + m = s.size := by rw [hm]; unfold M.most; omega
  have HM := hid hm
  have HL := hid hlen
  have HAT := hid hats
  have HM7 := hid hm7
  have hd1 : decide (s.size ≤ p) = false := by simp; omega
  have hd2 : decide ((p : Int) < 0) = false := by simp
  clear hm hlen hats hm7
  go_enter Tryz.func99, Tryz.ntmps99
  go_wp2_with fail
  go_loopw [6, 7, 8, 9] (fun n d k i wr => ∃ K N D : Nat, K ≤ p ∧ K ≤ 8192 ∧ N ≤ m ∧ n = .int .i64 N ∧ d = .int .i64 D ∧ k = .int .i64 (K + 1 : Nat) ∧ Hid (Rb l p K N D) ∧ Qt w wr) (fun n d k i wr => 8193 - (intOf k).toNat)
  case atStart => exact ⟨0, 0, 0, by omega, by omega, by omega, rfl, rfl, rfl, rfl, Qt.refl _⟩
  case round =>
    obtain ⟨K, N, D, hK, hK2, hN, rfl, rfl, rfl, HR, hq⟩ := hrel
    obtain ⟨k, hk⟩ : ∃ k, k = K + 1 := ⟨_, rfl⟩
    rw [← hk]
    have HK := hid hk
    by_cases hin : k ≤ p ∧ k ≤ 8192 ∧ N < 131
    · obtain ⟨h1, h2, h3⟩ := hin
      by_cases hfull : p + N < s.size
      · obtain ⟨y0, hy0⟩ : ∃ y, y = p - k := ⟨_, rfl⟩
        obtain ⟨y1, hy1⟩ : ∃ y, y = p - k + N := ⟨_, rfl⟩
        obtain ⟨v, hv⟩ : ∃ v, v = p + N := ⟨_, rfl⟩
        have g0 : y0 < s.size := by omega
        have g1 : y1 < s.size := by omega
        have gv : v < s.size := by omega
        have e1 : IntKind.i64.wrap ((p : Int) - k) = (y0 : Int) := by rw [wrap_in (by omega) (by omega)]; omega
        have e2 : IntKind.i64.wrap ((y0 : Int) + N) = (y1 : Int) := by rw [wrap_in (by omega) (by omega)]; omega
        have e3 : IntKind.i64.wrap ((p : Int) + N) = (v : Int) := by rw [wrap_in (by omega) (by omega)]; omega
        have f0 : s[y0] = M.by_ l (p - k) := by rw [HAT.out y0 g0, hy0]
        have fp : s[p] = M.by_ l p := HAT.out p hp
        have f1 : s[y1] = M.by_ l (p - k + N) := by rw [HAT.out y1 g1, hy1]
        have fv : s[v] = M.by_ l (p + N) := by rw [HAT.out v gv, hv]
        have HY0 := hid hy0.symm
        have hyp : y0 ≤ p := by omega
        have hpN : (p : Int) + N < s.size := by omega
        by_cases ha : s[y0] = s[p]
        · have ha2 : (((s[y0].toNat : Nat) : Int) != ((s[p].toNat : Nat) : Int)) = false := by rw [ha]; simp
          by_cases hb : s[y1] = s[v]
          · have hb2 : (((s[y1].toNat : Nat) : Int) != ((s[v].toNat : Nat) : Int)) = false := by rw [hb]; simp
            clear ha hb f0 fp f1 fv hy1 hv hk hy0
            go_wp2_with fail
            go_quiet (fail)
            go_wp2_with fail
            clear ha2 hb2 e2 e3
            go_loopw [9] (fun c wr2 => ∃ i : Nat, i ≤ m ∧ c = .int .i64 i ∧ Hid (∀ j, j < i → M.by_ l (y0 + j) = M.by_ l (p + j)) ∧ Qt w wr2) (fun c _ => m - (intOf c).toNat)
            case atStart => exact ⟨0, by omega, rfl, fun j hj => by omega, hq.drewN _⟩
            case round =>
              clear hq
              obtain ⟨i, hi, rfl, HI, hq2⟩ := hrel
              obtain ⟨X, hX⟩ : ∃ X, X = p + i := ⟨_, rfl⟩
              obtain ⟨Y, hY⟩ : ∃ Y, Y = y0 + i := ⟨_, rfl⟩
              have e4 : IntKind.i64.wrap ((p : Int) + i) = (X : Int) := by rw [wrap_in (by omega) (by omega)]; omega
              have e5 : IntKind.i64.wrap ((y0 : Int) + i) = (Y : Int) := by rw [wrap_in (by omega) (by omega)]; omega
              by_cases him : i < m
              · have gX : X < s.size := by omega
                have gY : Y < s.size := by omega
                have d1 : decide ((X : Int) < s.size) = true := by simp; omega
                have d2 : decide ((i : Int) < 131) = true := by simp; omega
                have fX : s[X] = M.by_ l (p + i) := by rw [HAT.out X gX, hX]
                have fY : s[Y] = M.by_ l (y0 + i) := by rw [HAT.out Y gY, hY]
                by_cases he : s[Y] = s[X]
                · have HI2 : Hid (∀ j, j < i + 1 → M.by_ l (y0 + j) = M.by_ l (p + j)) := by
                    intro j hj
                    by_cases hjk : j = i
                    · rw [hjk, ← fX, ← fY]; exact he
                    · exact HI.out j (by omega)
                  have he2 : (((s[Y].toNat : Nat) : Int) == ((s[X].toNat : Nat) : Int)) = true := by rw [he]; simp
                  clear he fX fY hX hY HI
                  go_wp2_with fail
                  go_quiet (fail)
                  go_wp2_with fail
                  go_roundw
                  case rel => exact ⟨i + 1, by omega, by go_num, HI2, hq2.drewN _⟩
                  case measure => simp [intOf]; omega
                · have HA : Hid (M.alk l m y0 p = i) := M.alk_is (by omega) HI.out (fun _ => by rw [← fX, ← fY]; exact he)
                  have he2 : (((s[Y].toNat : Nat) : Int) == ((s[X].toNat : Nat) : Int)) = false := by
                    rw [beq_eq_false_iff_ne]
                    intro h
                    exact he (UInt8.toNat_inj.1 (by omega))
                  clear he fX fY hX hY HI
                  go_wp2_with fail
                  go_quiet (fail)
                  by_cases hgt : N < i
                  · have HR3 := hid (HR.out.take (n := i) (by rw [← HM.out, ← HK.out, HY0.out]; exact HA.out) hgt)
                    rw [← HK.out] at HR3
                    go_wp2_with fail
                    go_roundw
                    case rel => exact ⟨k, i, k, h1, h2, by omega, rfl, rfl, by go_num, HR3, hq2.drewN _⟩
                    case measure => simp [intOf]; omega
                  · have HR3 := hid (HR.out.pass (by rw [← HM.out, ← HK.out, HY0.out, HA.out]; omega))
                    rw [← HK.out] at HR3
                    go_wp2_with fail
                    go_roundw
                    case rel => exact ⟨k, N, D, h1, h2, hN, rfl, rfl, by go_num, HR3, hq2.drewN _⟩
                    case measure => simp [intOf]; omega
              · obtain rfl : i = m := by omega
                have HA : Hid (M.alk l i y0 p = i) := M.alk_is (by omega) HI.out (fun h => absurd h him)
                by_cases h9 : X < s.size
                · have d1 : decide ((X : Int) < s.size) = true := by simp; omega
                  have d2 : decide ((i : Int) < 131) = false := by simp; have := HM7.out; omega
                  clear hX hY HI
                  go_wp2_with fail
                  go_quiet (fail)
                  by_cases hgt : N < i
                  · have HR3 := hid (HR.out.take (n := i) (by rw [← HM.out, ← HK.out, HY0.out]; exact HA.out) hgt)
                    rw [← HK.out] at HR3
                    go_wp2_with fail
                    go_roundw
                    case rel => exact ⟨k, i, k, h1, h2, by omega, rfl, rfl, by go_num, HR3, hq2.drewN _⟩
                    case measure => simp [intOf]; omega
                  · have HR3 := hid (HR.out.pass (by rw [← HM.out, ← HK.out, HY0.out, HA.out]; omega))
                    rw [← HK.out] at HR3
                    go_wp2_with fail
                    go_roundw
                    case rel => exact ⟨k, N, D, h1, h2, hN, rfl, rfl, by go_num, HR3, hq2.drewN _⟩
                    case measure => simp [intOf]; omega
                · have d1 : decide ((X : Int) < s.size) = false := by simp; omega
                  clear hX hY HI
                  go_wp2_with fail
                  go_quiet (fail)
                  by_cases hgt : N < i
                  · have HR3 := hid (HR.out.take (n := i) (by rw [← HM.out, ← HK.out, HY0.out]; exact HA.out) hgt)
                    rw [← HK.out] at HR3
                    go_wp2_with fail
                    go_roundw
                    case rel => exact ⟨k, i, k, h1, h2, by omega, rfl, rfl, by go_num, HR3, hq2.drewN _⟩
                    case measure => simp [intOf]; omega
                  · have HR3 := hid (HR.out.pass (by rw [← HM.out, ← HK.out, HY0.out, HA.out]; omega))
                    rw [← HK.out] at HR3
                    go_wp2_with fail
                    go_roundw
                    case rel => exact ⟨k, N, D, h1, h2, hN, rfl, rfl, by go_num, HR3, hq2.drewN _⟩
                    case measure => simp [intOf]; omega
          · have hb2 : (((s[y1].toNat : Nat) : Int) != ((s[v].toNat : Nat) : Int)) = true := by
              rw [bne_iff_ne]
              intro h
              exact hb (UInt8.toNat_inj.1 (by omega))
            have HR2 := hid (HR.out.pass (by rw [← HK.out, ← HM.out]; exact M.alk_lt (by rw [← f1, ← fv]; exact hb)))
            rw [← HK.out] at HR2
            clear ha hb f0 fp f1 fv hy1 hv hk hy0
            go_wp2_with fail
            go_quiet (fail)
            go_wp2_with fail
            go_roundw
            case rel => exact ⟨k, N, D, h1, h2, hN, rfl, rfl, by go_num, HR2, hq.drewN _⟩
            case measure => simp [intOf]; omega
        · have ha2 : (((s[y0].toNat : Nat) : Int) != ((s[p].toNat : Nat) : Int)) = true := by
            rw [bne_iff_ne]
            intro h
            exact ha (UInt8.toNat_inj.1 (by omega))
          have HR2 := hid (HR.out.pass (by rw [← HK.out, ← HM.out]; exact Nat.le_trans (M.alk_lt (n := 0) (by rw [Nat.add_zero, Nat.add_zero, ← f0, ← fp]; exact ha)) (Nat.zero_le _)))
          rw [← HK.out] at HR2
          clear ha f0 fp f1 fv hy1 hv hk hy0
          go_wp2_with fail
          go_quiet (fail)
          go_wp2_with fail
          go_roundw
          case rel => exact ⟨k, N, D, h1, h2, hN, rfl, rfl, by go_num, HR2, hq.drewN _⟩
          case measure => simp [intOf]; omega
      · have HD := hid (HR.out.done (Or.inr ⟨by have := HM7.out; have := HM.out; omega, by omega⟩))
        have hx : (s.size : Int) ≤ (p : Int) + N := by omega
        clear hk HR
        by_cases h4 : N < 4
        · have HB := hid (best_of HD.out)
          rw [if_neg (by omega)] at HB
          go_wp2_with fail
          go_ret2
          exact ⟨ret2 (by rw [HB.out]; rfl) (by rw [HB.out]; rfl), hq⟩
        · have HB := hid (best_of HD.out)
          rw [if_pos (by omega)] at HB
          go_wp2_with fail
          go_ret2
          exact ⟨ret2 (by rw [HB.out]) (by rw [HB.out]), hq⟩
    · have HD := hid (HR.out.done (by have := HM.out; omega))
      have HB := hid (best_of HD.out)
      clear hk HR
      by_cases h1 : k ≤ p
      · by_cases h2 : k ≤ 8192
        · have h3 : ¬ N < 131 := by omega
          rw [if_pos (by omega)] at HB
          go_wp2_with fail
          go_ret2
          exact ⟨ret2 (by rw [HB.out]) (by rw [HB.out]), hq⟩
        · by_cases h4 : N < 4
          · rw [if_neg (by omega)] at HB
            go_wp2_with fail
            go_ret2
            exact ⟨ret2 (by rw [HB.out]; rfl) (by rw [HB.out]; rfl), hq⟩
          · rw [if_pos (by omega)] at HB
            go_wp2_with fail
            go_ret2
            exact ⟨ret2 (by rw [HB.out]) (by rw [HB.out]), hq⟩
      · by_cases h4 : N < 4
        · rw [if_neg (by omega)] at HB
          go_wp2_with fail
          go_ret2
          exact ⟨ret2 (by rw [HB.out]; rfl) (by rw [HB.out]; rfl), hq⟩
        · rw [if_pos (by omega)] at HB
          go_wp2_with fail
          go_ret2
          exact ⟨ret2 (by rw [HB.out]) (by rw [HB.out]), hq⟩
end Go.Proofs.YtihokphamgkkcaaGreat.Lz
namespace Go.Proofs.YtihokphamgkkcaaGreat.Lz
open Go.RowKit
set_option maxHeartbeats 1000000 in
theorem rbest_any (s : ByteArray) (z : Int) (w : World) (hs : s.size ≤ 9223372036854775000) :
    Calls Tryz.prog 99 #[.string s, .int .i64 z] w fun e w' => e = .returned (.tuple #[.int .i64 ((bestZ s.data.toList z).1 : Nat), .int .i64 ((bestZ s.data.toList z).2 : Nat)]) ∧ Qt w w' := by
  by_cases h : 0 ≤ z ∧ z < s.size
  · obtain ⟨p, rfl⟩ := Int.eq_ofNat_of_zero_le h.1
    have e : bestZ s.data.toList p = M.best s.data.toList p := by
      unfold bestZ
      rw [if_pos (by rw [len_]; exact h)]
      rfl
    rw [e]
    exact rbest_in s p w hs (by omega)
  · have e : bestZ s.data.toList z = (0, 0) := by
      unfold bestZ
      rw [if_neg (by rw [len_]; exact h)]
    rw [e]
    by_cases h0 : z < 0
    · clear e h
      go_enter Tryz.func99, Tryz.ntmps99
      go_wp2_with fail
      go_ret2
      exact ⟨rfl, Qt.refl _⟩
    · have h1 : (s.size : Int) ≤ z := by omega
      clear e h
      go_enter Tryz.func99, Tryz.ntmps99
      go_wp2_with fail
      go_ret2
      exact ⟨rfl, Qt.refl _⟩
/-- The numbers of a slice, where they lie. -/
def Vals (k : IntKind) (w : World) (a : Option Addr) (zs : List Int) : Prop := zs = [] ∨ ∃ b off, a = some ⟨b, off, none⟩ ∧ b < w.heap.size ∧ ∀ j, j < zs.length → w.cell? ⟨b, off + j, none⟩ = some (.int k (zs.getD j 0))
theorem getD_mem {zs : List Int} {k : Nat} (h : k < zs.length) : zs.getD k 0 ∈ zs := by
  simp [List.getD_eq_getElem?_getD, h]
end Go.Proofs.YtihokphamgkkcaaGreat.Lz
namespace Go.Proofs.YtihokphamgkkcaaGreat.Lz
open Go.RowKit
theorem Tryz.infoRTok : (Tryz.prog.info? 146).map (fun i => (i.zero, i.size, i.bytes)) = some (some (.agg #[.string ⟨#[]⟩, .int .i64 0, .int .i64 0]), 3, 32) := by kernel_rfl
theorem Tryz.underRToks : Tryz.prog.underlying 100 = some (.slice 146) := by kernel_rfl
theorem OwnT.cases {T : TypeId} {w : World} {B : Nat} {v : Value} {rs : List (ByteArray × Int × Int)} (h : OwnT T w B v rs) : (v = .slice none 0 0 ∧ rs = []) ∨ ∃ g cap, v = .slice (some ⟨g, 0, none⟩) rs.length cap ∧ ∀ j u, (rcs rs)[j]? = some u → w.cell? ((⟨g, 0, none⟩ : Addr).add j) = some u := by
  have hcell := fun (g : Nat) (hg : v.ownBlock = some g) => World.ownsRow.cells h hg
  obtain ⟨hl, h⟩ := h
  rcases h with ⟨rfl, h1⟩ | ⟨g, cap, cur, rfl, _⟩
  · exact Or.inl ⟨rfl, List.eq_nil_of_length_eq_zero h1⟩
  · exact Or.inr ⟨g, cap, rfl, hcell g rfl⟩
theorem ownT_app {T : TypeId} {w : World} {B n m : Nat} {v : Value} {rs qs : List (ByteArray × Int × Int)} (h : w.ownsRow B T 3 v (n + m) (rcs rs ++ rcs qs)) (hn : rs.length = n) (hm : qs.length = m) : OwnT T w B v (rs ++ qs) := by
  unfold OwnT
  rw [List.length_append, hn, hm, rcs_app]
  exact h
theorem runs_len (l : List UInt8) : (M.runs l).length ≤ l.length := by
  have : ∀ l : List UInt8, (M.runs l).length ≤ l.length := by
    refine M.runs_ind (by simp [M.runs_nil]) ?_
    intro l hl ih
    rw [M.runs_step hl, List.length_cons]
    rw [List.length_drop] at ih
    omega
  exact this l
set_option maxHeartbeats 4000000 in
set_option maxRecDepth 20000 in
theorem rruns_any (L : ByteArray) (w : World) (hs : L.size ≤ 1000000000000) :
    Calls Tryz.prog 100 #[.string L] w fun e w' => ∃ v, e = .returned v ∧ OwnT 146 w' w.heap.size v ((M.runs L.data.toList).map rt) ∧ Below w.heap.size w w' := by
  obtain ⟨i0, hi, hz0, hz1, hz2⟩ := info_parts Tryz.infoRTok
  obtain ⟨R, hR⟩ : ∃ R, R = M.runs L.data.toList := ⟨_, rfl⟩
  rw [← hR]
  have HR : Hid ([] ++ M.runs L.data.toList = R) := hR.symm
  clear hR
  go_enter Tryz.func100, Tryz.ntmps100
  go_wp2_with fail
  go_loopg [0, 3] L.size (fun k s o wr => ∃ (S : ByteArray) (ts : List M.Tok), S.size = k ∧ s = .string S ∧ Hid (ts.length + S.size ≤ L.size) ∧ Hid (ts ++ M.runs S.data.toList = R) ∧ Hid (OwnT 146 wr w.heap.size o (ts.map rt)) ∧ Hid (Below w.heap.size w wr) ∧ Hid (w.heap.size ≤ wr.heap.size))
  case atStart => exact ⟨L, [], rfl, rfl, by show _ ≤ _; simp, HR, World.ownsRow_nil _ _ _ _, Below.refl _ _, Nat.le_refl _⟩
  case round =>
    clear HR
    obtain ⟨S, ts, rfl, rfl, HU, HP, HO, HB, HS⟩ := hrel
    have hU := HU.out
    have ho := HO.out
    unfold OwnT at ho
    have hml : (ts.map rt).length = ts.length := by simp
    have HML := hid hml
    rw [hml] at ho
    have hsz := HS.out
    have hp := HP.out
    by_cases h8 : 128 < S.size
    · rw [M.runs_step (by rw [len_]; omega)] at hp
      obtain ⟨X, hX⟩ : ∃ X, X = S.extract 0 128 := ⟨_, rfl⟩
      have hXl : X.data.toList = S.data.toList.take 128 := by rw [hX, len_ext, List.drop_zero]
      obtain ⟨Y, hY⟩ : ∃ Y, Y = S.extract 128 S.size := ⟨_, rfl⟩
      have hYl : Y.data.toList = S.data.toList.drop 128 := by rw [hY]; exact ext_drop S 128
      have hYs : Y.size = S.size - 128 := by rw [← len_, hYl, List.length_drop, len_]
      rw [← hXl, ← hYl, show ts ++ M.Tok.lit X.data.toList :: M.runs Y.data.toList = (ts ++ [M.Tok.lit X.data.toList]) ++ M.runs Y.data.toList from by simp] at hp
      have HP2 := hid hp
      have HRT : Hid ((ts ++ [M.Tok.lit X.data.toList]).map rt = ts.map rt ++ [(X, (0 : Int), (0 : Int))]) := by show _ = _; simp [rt, M.Tok.lits, M.Tok.len, M.Tok.dist, ba_of]
      have hX' := hX.symm
      have hY' := hY.symm
      generalize ts.map rt = rs at *
      have HYS := hid hYs
      clear hp hXl hYl hX hY HP HO hml hYs
      go_wp2_with (at_builtin; refine wpList_append_own _ rfl _ _ 100 rfl w.heap.size 146 i0 (.agg #[.string ⟨#[]⟩, .int .i64 0, .int .i64 0]) 3 32 Tryz.underRToks hi hz0 hz1 hz2 rfl (by decide) _ _ _ rfl (ho.alloc _) ⟨wr.heap.size, 0, none⟩ 1 1 (rc (X, (0 : Int), (0 : Int))) rfl rfl ?c1 ?c2 ?c3 ?c4 ?c5 ?_)
      case c1 => exact cells_newN _ (rc (X, (0 : Int), (0 : Int))) _ _ rfl
      case c2 => exact rc_one _
      case c3 => unfold maxLen; omega
      case c4 => omega
      case c5 => simp; omega
      intro v' w2 hown2 hgrow2 _
      have HB2 := hid (bel_step HB.out ho hsz hgrow2)
      have HO2 : Hid (OwnT 146 w2 w.heap.size v' (rs ++ [(X, (0 : Int), (0 : Int))])) := ownT_snoc hown2 HML.out
      have HS2 : Hid (w.heap.size ≤ w2.heap.size) := HB2.out.size
      clear hown2 hgrow2 ho HB HS
      go_wp2_with fail
      go_roundg (S.size - 128)
      case measure => omega
      case rel => exact ⟨Y, ts ++ [M.Tok.lit X.data.toList], HYS.out, rfl, by show _ ≤ _; rw [List.length_append, HYS.out]; simp; omega, HP2, by rw [HRT.out]; exact HO2, HB2, HS2⟩
    · by_cases h0 : S.size = 0
      · have e1 := (empty_iff S).1 h0
        subst e1
        have HC : Hid (ts = R) := by show ts = R; rw [← hp]; show ts = ts ++ []; simp
        clear hp
        go_wp2_with fail
        go_ret
        exact ⟨_, rfl, by rw [← HC.out]; exact HO.out, HB.out⟩
      · rw [M.runs_step (by rw [len_]; exact h0), List.take_of_length_le (by rw [len_]; omega), List.drop_eq_nil_of_le (by rw [len_]; omega), M.runs_nil] at hp
        have HRT : Hid (R.map rt = ts.map rt ++ [(S, (0 : Int), (0 : Int))]) := by show _ = _; rw [← hp]; simp [rt, M.Tok.lits, M.Tok.len, M.Tok.dist, ba_of]
        generalize ts.map rt = rs at *
        have h0' : (0 : Int) < S.size := by omega
        clear hp HP HO hml h0
        go_wp2_with (at_builtin; refine wpList_append_own _ rfl _ _ 100 rfl w.heap.size 146 i0 (.agg #[.string ⟨#[]⟩, .int .i64 0, .int .i64 0]) 3 32 Tryz.underRToks hi hz0 hz1 hz2 rfl (by decide) _ _ _ rfl (ho.alloc _) ⟨wr.heap.size, 0, none⟩ 1 1 (rc (S, (0 : Int), (0 : Int))) rfl rfl ?c1 ?c2 ?c3 ?c4 ?c5 ?_)
        case c1 => exact cells_newN _ (rc (S, (0 : Int), (0 : Int))) _ _ rfl
        case c2 => exact rc_one _
        case c3 => unfold maxLen; omega
        case c4 => omega
        case c5 => simp; omega
        intro v' w2 hown2 hgrow2 _
        have HB2 := hid (bel_step HB.out ho hsz hgrow2)
        have HO2 : Hid (OwnT 146 w2 w.heap.size v' (rs ++ [(S, (0 : Int), (0 : Int))])) := ownT_snoc hown2 HML.out
        clear hown2 hgrow2 ho HB HS
        go_wp2_with fail
        go_ret
        exact ⟨_, rfl, by rw [HRT.out]; exact HO2.out, HB2.out⟩
end Go.Proofs.YtihokphamgkkcaaGreat.Lz
namespace Go.Proofs.YtihokphamgkkcaaGreat.Lz
open Go.RowKit
theorem pk_len {l : List UInt8} : ∀ fr p, fr ≤ p → p ≤ l.length → (M.pk l fr p).length ≤ l.length - fr := by
  refine M.pk_ind (l := l) ?_ ?_ ?_
  · intro fr p hf h h'
    rw [M.pk_end h]
    have := runs_len (l.drop fr)
    rw [List.length_drop] at this
    exact this
  · intro fr p hf h hb ih h'
    rw [M.pk_lit h hb]
    exact ih (by omega)
  · intro fr p hf h hb ih h'
    have h1 := M.best_some hb
    have h2 := M.best_le l p
    have h3 := ih (by omega)
    have h4 := runs_len ((l.take p).drop fr)
    rw [List.length_drop, List.length_take] at h4
    rw [M.pk_mat h hb, List.length_append, List.length_cons]
    omega
theorem own_wide {T : TypeId} {w w' : World} {B : Nat} {v : Value} {rs : List (ByteArray × Int × Int)} (h : OwnT T w B v rs) (hb : Below w.heap.size w w') : OwnT T w' B v rs := own_apart h (fun g hg => hb.block g (World.ownsRow.lt h g hg).2)
set_option maxHeartbeats 4000000 in
set_option maxRecDepth 20000 in
theorem rpacked_any (s : ByteArray) (w : World) (hs : s.size ≤ 100000000000) :
    Calls Tryz.prog 63 #[.string s] w fun e w' => ∃ v, e = .returned v ∧ OwnT 146 w' w.heap.size v ((M.packT s.data.toList).map rt) ∧ Below w.heap.size w w' := by
  obtain ⟨i0, hi, hz0, hz1, hz2⟩ := info_parts Tryz.infoRTok
  have hbst := fun (q : Nat) (wr : World) (h1 : q < s.size) => rbest_in s q wr (by omega) h1
  have hlen := len_ s
  have hpk : [] ++ M.pk s.data.toList 0 0 = M.packT s.data.toList := rfl
  have hpl := pk_len (l := s.data.toList) 0 0 (Nat.le_refl _) (Nat.zero_le _)
  have hpl' : (M.packT s.data.toList).length ≤ s.size := by have : (M.packT s.data.toList).length ≤ s.data.toList.length - 0 := hpl; omega
  have hext := len_ext s
  generalize M.packT s.data.toList = P at *
  generalize s.data.toList = l at *
  have HB := hid hbst
  have HK := hid hpk
  have HL := hid hlen
  have HE := hid hext
  clear hbst hpk hlen hext hpl
  go_enter Tryz.func63, Tryz.ntmps63
  go_wp2_with fail
  go_loopg [3, 4, 5, 6, 7] s.size (fun k o t a n d wr => ∃ (p fr : Nat) (ts : List M.Tok), p + k = s.size ∧ fr ≤ p ∧ t = .int .i64 fr ∧ a = .int .i64 p ∧ Hid (OwnT 146 wr w.heap.size o (ts.map rt)) ∧ Hid (ts ++ M.pk l fr p = P) ∧ Hid (Below w.heap.size w wr) ∧ Hid (w.heap.size ≤ wr.heap.size))
  case atStart => exact ⟨0, 0, [], by omega, by omega, rfl, rfl, World.ownsRow_nil _ _ _ _, HK, Below.refl _ _, Nat.le_refl _⟩
  case round =>
    clear HK
    obtain ⟨p, fr, ts, hk, hfr, rfl, rfl, HO, HP, HW, HS⟩ := hrel
    by_cases hlt : p < s.size
    · obtain ⟨k, rfl⟩ : ∃ k, gk = k + 1 := ⟨gk - 1, by omega⟩
      have cb := fun wr => HB.out p wr hlt
      have hbl := M.best_le l p
      by_cases h0 : (M.best l p).1 = 0
      · have HP2 := hid (HP.out)
        rw [M.pk_lit (by rw [HL.out]; exact hlt) h0] at HP2
        rw [h0] at cb
        generalize (M.best l p).2 = D at *
        have CB := hid cb
        clear cb h0 hbl HP
        go_wp2_with fail
        refine (CB.out _).mono ?_
        rintro e w1 ⟨rfl, hq⟩
        have HO1 : Hid (OwnT 146 w1 w.heap.size u3 (ts.map rt)) := own_apart HO.out (fun g hg => by rw [hq.heap])
        have HW1 := hid (below_qt HW.out hq)
        have HS1 : Hid (w.heap.size ≤ w1.heap.size) := HW1.out.size
        clear hq CB HO HW HS
        go_wp2_with fail
        go_roundg k
        case measure => omega
        case rel => exact ⟨p + 1, fr, ts, by omega, by omega, rfl, by go_num, HO1, HP2, HW1, HS1⟩
      · have hbs := M.best_some h0
        have HP2 := hid (HP.out)
        rw [M.pk_mat (by rw [HL.out]; exact hlt) h0] at HP2
        obtain ⟨X, hX⟩ : ∃ X, X = s.extract fr p := ⟨_, rfl⟩
        have hXl : M.runs ((l.take p).drop fr) = M.runs X.data.toList := by rw [hX, HE.out, List.drop_take]
        have hXs : X.size ≤ s.size := by rw [← len_, hX, HE.out, List.length_take]; omega
        rw [hXl] at HP2
        have cr := fun w => rruns_any X w (by omega)
        generalize (M.best l p).2 = D at *
        generalize (M.best l p).1 = N at *
        have hN : p + N ≤ s.size := by have := HL.out; omega
        have heq : ((N : Int) == 0) = false := by rw [beq_eq_false_iff_ne]; omega
        have hcnt := congrArg List.length HP2.out
        simp only [List.length_append, List.length_cons] at hcnt
        have hcnt2 : ts.length + (M.runs X.data.toList).length + 1 ≤ s.size := by omega
        have hN4 := hbs.1
        clear hcnt
        generalize M.runs X.data.toList = RX at *
        have CB := hid cb
        have CR := hid cr
        have hXX := hX.symm
        have HRT : Hid ((ts ++ (RX ++ [M.Tok.mat N D])).map rt = (ts.map rt ++ RX.map rt) ++ [((⟨#[]⟩ : ByteArray), (N : Int), (D : Int))]) := by
          show _ = _
          simp only [List.map_append, List.map_cons, List.map_nil, ← List.append_assoc]
          rfl
        have HP3 : Hid (ts ++ (RX ++ [M.Tok.mat N D]) ++ M.pk l (p + N) (p + N) = P) := by
          show _ = P
          rw [← HP2.out]
          simp
        have hml : (ts.map rt).length = ts.length := by simp
        have hmx : (RX.map rt).length = RX.length := by simp
        have ho := HO.out
        unfold OwnT at ho
        rw [hml] at ho
        have HML := hid hml
        have HMX := hid hmx
        generalize ts.map rt = rs at *
        generalize RX.map rt = qs at *
        clear cb cr h0 hbl HP hbs hX hXl HO HP2 hml hmx hXs
        go_wp2_with fail
        refine (CB.out _).mono ?_
        rintro e w1 ⟨rfl, hq⟩
        have ho1 : w1.ownsRow w.heap.size 146 3 u3 ts.length (rcs rs) := own_apart ho (fun g hg => by rw [hq.heap])
        have HW1 := hid (below_qt HW.out hq)
        clear hq CB ho HW HS
        go_wp2_with fail
        refine (CR.out _).mono ?_
        rintro e w2 ⟨v2, rfl, ho2, hb2⟩
        have ho3 : w2.ownsRow w.heap.size 146 3 u3 ts.length (rcs rs) := own_apart ho1 (fun g hg => hb2.block g (World.ownsRow.lt ho1 g hg).2)
        have HW2 := hid (bel_bel HW1.out hb2 HW1.out.size)
        have hsz2 := HW2.out.size
        have hcs := OwnT.cases ho2
        clear ho1 hb2 HW1 ho2
        rcases hcs with ⟨rfl, hq0⟩ | ⟨g2, cap2, rfl, hcell⟩
        · have hR0 : RX.length = 0 := by rw [← HMX.out, hq0]; rfl
          have HQ0 := hid hq0
          clear hq0
          go_wp2_with (at_builtin; first | refine wpList_append_own_none rfl _ _ 100 rfl w.heap.size 146 i0 3 Tryz.underRToks hi _ _ _ rfl ho3 rfl ?_ | refine wpList_append_own _ rfl _ _ 100 rfl w.heap.size 146 i0 (.agg #[.string ⟨#[]⟩, .int .i64 0, .int .i64 0]) 3 32 Tryz.underRToks hi hz0 hz1 hz2 rfl (by decide) _ _ _ rfl (ho3.alloc _) ⟨w2.heap.size, 0, none⟩ 1 1 (rc ((⟨#[]⟩ : ByteArray), (N : Int), (D : Int))) rfl rfl ?c1 ?c2 ?c3 ?c4 ?c5 ?_)
          case c1 => exact cells_newN _ (rc ((⟨#[]⟩ : ByteArray), (N : Int), (D : Int))) _ _ rfl
          case c2 => exact rc_one _
          case c3 => unfold maxLen; omega
          case c4 => omega
          case c5 => simp; omega
          intro v' w3 hown3 hgrow3 _
          have HW3 := hid (bel_step HW2.out ho3 hsz2 hgrow3)
          have HO3 : Hid (OwnT 146 w3 w.heap.size v' ((rs ++ qs) ++ [((⟨#[]⟩ : ByteArray), (N : Int), (D : Int))])) := by
            rw [HQ0.out, List.append_nil]
            exact ownT_snoc hown3 HML.out
          have HS3 : Hid (w.heap.size ≤ w3.heap.size) := HW3.out.size
          clear hown3 hgrow3 ho3
          go_wp2_with fail
          go_roundg (s.size - (p + N))
          case measure => omega
          case rel => exact ⟨p + N, p + N, ts ++ (RX ++ [M.Tok.mat N D]), by omega, by omega, by go_num, by go_num, by rw [HRT.out]; exact HO3, HP3, HW3, HS3⟩
        · rw [HMX.out]
          have HCE := hid hcell
          clear hcell
          go_wp2_with (at_builtin; refine wpList_append_own _ rfl _ _ 100 rfl w.heap.size 146 i0 (.agg #[.string ⟨#[]⟩, .int .i64 0, .int .i64 0]) 3 32 Tryz.underRToks hi hz0 hz1 hz2 rfl (by decide) _ _ _ rfl ho3 ⟨g2, 0, none⟩ RX.length cap2 (rcs qs) rfl ?b0 ?b1 ?b2 ?b3 ?b4 ?b5 ?_)
          case b0 => rw [rcs_len, HMX.out]
          case b1 => exact HCE.out
          case b2 => exact rcs_one _
          case b3 => unfold maxLen; omega
          case b4 => omega
          case b5 => omega
          intro v3 w3 hown3 hgrow3 _
          have HW3 := hid (bel_step0 HW2.out ho3 hsz2 hgrow3)
          have ho4 : w3.ownsRow w.heap.size 146 3 v3 (ts.length + RX.length) (rcs (rs ++ qs)) := by rw [rcs_app]; exact hown3
          have hsz3 := HW3.out.size
          have HML2 : Hid ((rs ++ qs).length = ts.length + RX.length) := by show _ = _; rw [List.length_append, HML.out, HMX.out]
          clear hown3 hgrow3 ho3 HW2
          generalize rs ++ qs = rq at *
          go_wp2_with (at_builtin; refine wpList_append_own _ rfl _ _ 100 rfl w.heap.size 146 i0 (.agg #[.string ⟨#[]⟩, .int .i64 0, .int .i64 0]) 3 32 Tryz.underRToks hi hz0 hz1 hz2 rfl (by decide) _ _ _ rfl (ho4.alloc _) ⟨w3.heap.size, 0, none⟩ 1 1 (rc ((⟨#[]⟩ : ByteArray), (N : Int), (D : Int))) rfl rfl ?c1 ?c2 ?c3 ?c4 ?c5 ?_)
          case c1 => exact cells_newN _ (rc ((⟨#[]⟩ : ByteArray), (N : Int), (D : Int))) _ _ rfl
          case c2 => exact rc_one _
          case c3 => unfold maxLen; omega
          case c4 => omega
          case c5 => simp; omega
          intro v' w4 hown4 hgrow4 _
          have HW4 := hid (bel_step HW3.out ho4 hsz3 hgrow4)
          have HO4 : Hid (OwnT 146 w4 w.heap.size v' (rq ++ [((⟨#[]⟩ : ByteArray), (N : Int), (D : Int))])) := ownT_snoc hown4 HML2.out
          have HS4 : Hid (w.heap.size ≤ w4.heap.size) := HW4.out.size
          clear hown4 hgrow4 ho4
          go_wp2_with fail
          go_roundg (s.size - (p + N))
          case measure => omega
          case rel => exact ⟨p + N, p + N, ts ++ (RX ++ [M.Tok.mat N D]), by omega, by omega, by go_num, by go_num, by rw [HRT.out]; exact HO4, HP3, HW4, HS4⟩
    · obtain rfl : gk = 0 := by omega
      obtain ⟨X, hX⟩ : ∃ X, X = s.extract fr s.size := ⟨_, rfl⟩
      have hXl : l.drop fr = X.data.toList := by rw [hX, HE.out, List.take_of_length_le (by rw [List.length_drop, HL.out]; exact Nat.le_refl _)]
      have hXs : X.size ≤ s.size := by rw [← len_, hX, HE.out, List.length_take]; omega
      have HP2 := hid (HP.out)
      rw [M.pk_end (by rw [HL.out]; omega), hXl] at HP2
      have cr := fun w => rruns_any X w (by omega)
      have hcnt := congrArg List.length HP2.out
      simp only [List.length_append] at hcnt
      have hcnt2 : ts.length + (M.runs X.data.toList).length ≤ s.size := by omega
      clear hcnt
      generalize M.runs X.data.toList = RX at *
      have CR := hid cr
      have hXX := hX.symm
      have HRT : Hid (P.map rt = ts.map rt ++ RX.map rt) := by show _ = _; rw [← HP2.out]; simp
      have hml : (ts.map rt).length = ts.length := by simp
      have hmx : (RX.map rt).length = RX.length := by simp
      have ho := HO.out
      unfold OwnT at ho
      rw [hml] at ho
      have HML := hid hml
      have HMX := hid hmx
      generalize ts.map rt = rs at *
      generalize RX.map rt = qs at *
      clear cr HP hX hXl HO HP2 hml hmx hXs
      have hpe : p = s.size := by omega
      clear hpe
      go_wp2_with fail
      refine (CR.out _).mono ?_
      rintro e w2 ⟨v2, rfl, ho2, hb2⟩
      have ho3 : w2.ownsRow w.heap.size 146 3 u3 ts.length (rcs rs) := own_apart ho (fun g hg => hb2.block g (World.ownsRow.lt ho g hg).2)
      have HW2 := hid (bel_bel HW.out hb2 HW.out.size)
      have hsz2 := HW2.out.size
      have hcs := OwnT.cases ho2
      clear ho hb2 HW ho2
      rcases hcs with ⟨rfl, hq0⟩ | ⟨g2, cap2, rfl, hcell⟩
      · have HQ0 := hid hq0
        clear hq0
        go_wp2_with (at_builtin; refine wpList_append_own_none rfl _ _ 100 rfl w.heap.size 146 i0 3 Tryz.underRToks hi _ _ _ rfl ho3 rfl ?_)
        have HO3 : Hid (OwnT 146 w2 w.heap.size u3 (rs ++ qs)) := by
          rw [HQ0.out, List.append_nil]
          show w2.ownsRow _ _ 3 _ rs.length _
          rw [HML.out]
          exact ho3
        clear ho3
        go_wp2_with fail
        go_ret
        exact ⟨_, rfl, by rw [HRT.out]; exact HO3.out, HW2.out⟩
      · rw [HMX.out]
        have HCE := hid hcell
        clear hcell
        go_wp2_with (at_builtin; refine wpList_append_own _ rfl _ _ 100 rfl w.heap.size 146 i0 (.agg #[.string ⟨#[]⟩, .int .i64 0, .int .i64 0]) 3 32 Tryz.underRToks hi hz0 hz1 hz2 rfl (by decide) _ _ _ rfl ho3 ⟨g2, 0, none⟩ RX.length cap2 (rcs qs) rfl ?b0 ?b1 ?b2 ?b3 ?b4 ?b5 ?_)
        case b0 => rw [rcs_len, HMX.out]
        case b1 => exact HCE.out
        case b2 => exact rcs_one _
        case b3 => unfold maxLen; omega
        case b4 => omega
        case b5 => omega
        intro v3 w3 hown3 hgrow3 _
        have HW3 := hid (bel_step0 HW2.out ho3 hsz2 hgrow3)
        have HO3 : Hid (OwnT 146 w3 w.heap.size v3 (rs ++ qs)) := ownT_app hown3 HML.out HMX.out
        clear hown3 hgrow3 ho3 HW2
        go_wp2_with fail
        go_ret
        exact ⟨_, rfl, by rw [HRT.out]; exact HO3.out, HW3.out⟩
end Go.Proofs.YtihokphamgkkcaaGreat.Lz
namespace Go.Proofs.YtihokphamgkkcaaGreat.Lz
open Go.RowKit
set_option maxHeartbeats 4000000 in
set_option maxRecDepth 20000 in
theorem rform_any (a : Option Addr) (cap : Nat) (rs : List (ByteArray × Int × Int)) (w : World) (hl : rs.length ≤ 100000000000) (V : Trip w a rs) :
    Calls Tryz.prog 62 #[.slice a rs.length cap] w fun e w' => e = .returned (frmV (frm rs)) ∧ Below w.heap.size w w' := by
  obtain ⟨i0, hi, hz0, hz1, hz2⟩ := info_parts Tryz.info5
  obtain ⟨R, hR⟩ : ∃ R, R = frm rs := ⟨_, rfl⟩
  rw [← hR]
  have HR : Hid (fpre [] (frm (rs.drop 0)) = R) := by show _ = R; rw [fpre_nil, hR]; rfl
  have HV := hid V
  clear hR V
  go_enter Tryz.func62, Tryz.ntmps62
  go_wp2_with fail
  go_loopg [4, 5, 6, 7] rs.length (fun k o i x y wr => ∃ (j : Nat) (pre : List UInt8), j + k = rs.length ∧ i = .int .i64 j ∧ Hid (pre.length ≤ 131 * j) ∧ Hid (fpre pre (frm (rs.drop j)) = R) ∧ Hid (Own wr w.heap.size o pre) ∧ Hid (Below w.heap.size w wr) ∧ Hid (w.heap.size ≤ wr.heap.size))
  case atStart => exact ⟨0, [], by omega, rfl, Nat.zero_le _, HR, World.ownsRow_nil _ _ _ _, Below.refl _ _, Nat.le_refl _⟩
  case round =>
    clear HR
    obtain ⟨j, pre, hk, rfl, HU, HP, HO, HB, HS⟩ := hrel
    have hU := HU.out
    by_cases hlt : j < rs.length
    · obtain ⟨k, rfl⟩ : ∃ k, gk = k + 1 := ⟨gk - 1, by omega⟩
      rcases HV.out with rfl | ⟨b, off, rfl, hbl, hc⟩
      · simp at hlt
      obtain ⟨q0, q1, q2⟩ := hc j hlt
      have hp := HP.out
      rw [drop_at rs j hlt] at hp
      generalize rs.getD j (ByteArray.empty, 0, 0) = r at *
      have hrl := fun a => rb_le (r := r) (a := a)
      obtain ⟨S, n, d⟩ := r
      simp only at q0 q1 q2
      have k0 := (HB.out.cell (p := ⟨b, off + j * 3, none⟩) hbl).trans q0
      have k1 := (HB.out.cell (p := ⟨b, off + j * 3 + 1, none⟩) hbl).trans q1
      have k2 := (HB.out.cell (p := ⟨b, off + j * 3 + 2, none⟩) hbl).trans q2
      have hsz := HS.out
      have ho := HO.out
      unfold Own at ho
      generalize hN : pre.length = N0 at *
      have HN := hid hN
      clear hN
      cases hlb : lB S n d with
      | true =>
        have hrb : rb (S, n, d) = some (M.bytesOf (M.runs S.data.toList)) := by unfold rb; rw [if_pos hlb]
        have hle := hrl _ hrb
        simp only [frm, hrb] at hp
        rw [fpre_fpre] at hp
        have HP2 := hid hp
        unfold lB at hlb
        rw [decide_eq_true_iff] at hlb
        obtain ⟨rfl, rfl, h1, h2⟩ := hlb
        obtain ⟨b0, hb0⟩ : ∃ b : UInt8, b = UInt8.ofNat (S.size - 1) := ⟨_, rfl⟩
        have hbe : (S.size : Int) - 1 = (b0.toNat : Int) := by rw [hb0, M.u8_of (by omega)]; omega
        have HBY : Hid (M.bytesOf (M.runs S.data.toList) = b0 :: S.data.toList) := by
          show _ = _
          rw [runs_one (by rw [len_]; exact h1) (by rw [len_]; exact h2), hb0]
          simp only [M.Tok.bytes, len_]
        have q9 := b0.toNat_lt
        clear hp hrb hrl q0 q1 q2 HP hc HO hb0
        go_wp2_with (at_builtin; refine wpList_append_own _ rfl _ _ 63 rfl w.heap.size 5 i0 (.int .u8 0) 1 1 Tryz.underBytes hi hz0 hz1 hz2 rfl (by decide) _ _ _ rfl ((ho.alloc _).alloc _) ⟨wr.heap.size + 1, 0, none⟩ 1 1 (bc [b0]) rfl rfl ?c1 ?c2 ?c3 ?c4 ?c5 ?_)
        case c1 => exact cells_newN _ (bc [b0]) 5 _ (by simp)
        case c2 => exact bc_one _
        case c3 => unfold maxLen; omega
        case c4 => omega
        case c5 => simp; omega
        intro v1 w1 hown1 hgrow1 _
        have HB1 := hid (bel_step (HB.out.alloc hsz (.cells #[.string S, .int .i64 0, .int .i64 0] 146)) (ho.alloc _) (by simp; omega) hgrow1)
        have gT : w1.heap[wr.heap.size]? = some (.cells #[.string S, .int .i64 0, .int .i64 0] 146 (0, 0)) := (hgrow1.block _ (by simp; omega) (fun e => own_ne ((ho.alloc (.cells #[.string S, .int .i64 0, .int .i64 0] 146)).alloc (.cells #[.int .u8 (b0.toNat : Int)] 5)) (heap_alloc_at (heap_new wr _)) (by decide) e.symm)).trans (heap_alloc_at (heap_new wr _))
        obtain ⟨m0, m1, m2⟩ := cells3 gT
        have hsz1 := HB1.out.size
        clear hgrow1 ho gT k0 k1 k2 m1 m2
        go_wp2_with (at_builtin; refine Lib.wpList_append_own_string _ rfl _ _ 63 9 rfl w.heap.size 5 i0 Tryz.underBytes Tryz.under9 hi hz0 hz1 hz2 _ _ _ rfl hown1 S rfl ?d1 ?d2 ?d3 ?_)
        case d1 => unfold maxLen; omega
        case d2 => omega
        case d3 => omega
        intro v2 w2 hown2 hgrow2 _
        have HB2 := hid (bel_step0 HB1.out hown1 hsz1 hgrow2)
        have HO2 : Hid (Own w2 w.heap.size v2 (pre ++ M.bytesOf (M.runs S.data.toList))) := by
          rw [HBY.out]
          refine own_mk (n := N0) (m := 1 + S.size) (xs := bc [b0] ++ bc S.data.toList) ?_ HN.out ?_ ?_
          · rw [← bc_str, ← Nat.add_assoc]; first | exact hown2 | (rw [← List.append_assoc]; exact hown2)
          · rw [List.length_cons, len_]; omega
          · rw [← bc_app]; rfl
        have HS2 : Hid (w.heap.size ≤ w2.heap.size) := HB2.out.size
        clear hown1 hown2 hgrow2 HB HS m0
        go_wp2_with fail
        go_roundg k
        case measure => omega
        case rel => exact ⟨j + 1, _, by omega, by go_num, by show _ ≤ _; rw [List.length_append, HN.out]; omega, HP2, HO2, HB2, HS2⟩
      | false =>
        cases hmb : mB S n d with
        | true =>
          have hrb : rb (S, n, d) = some (M.Tok.mat n.toNat d.toNat).bytes := by unfold rb; rw [hlb, if_neg (by decide), if_pos hmb]
          have hle := hrl _ hrb
          simp only [frm, hrb] at hp
          rw [fpre_fpre] at hp
          unfold mB at hmb
          rw [decide_eq_true_iff] at hmb
          obtain ⟨N, rfl⟩ := Int.eq_ofNat_of_zero_le (show 0 ≤ n by omega)
          obtain ⟨D, rfl⟩ := Int.eq_ofNat_of_zero_le (show 0 ≤ d by omega)
          rw [Int.toNat_natCast, Int.toNat_natCast] at hp hle
          have e0 := (empty_iff S).1 hmb.1
          subst e0
          have h1 : 4 ≤ N := by omega
          have h2 : N ≤ 131 := by omega
          have h3 : D ≤ 8192 := by omega
          have h4 : 1 ≤ D := by omega
          have e1 : (N : Int) + 124 = ((UInt8.ofNat (N + 124)).toNat : Int) := by rw [M.u8_of (by omega)]; omega
          have e2 : (D : Int) / 256 = ((UInt8.ofNat (D / 256)).toNat : Int) := by rw [M.u8_of (by omega)]; omega
          have e3 : (D : Int) % 256 = ((UInt8.ofNat (D % 256)).toNat : Int) := by rw [M.u8_of (by omega)]; omega
          have HBY : Hid ((M.Tok.mat N D).bytes = [UInt8.ofNat (N + 124), UInt8.ofNat (D / 256), UInt8.ofNat (D % 256)]) := rfl
          have HP2 := hid hp
          generalize (M.Tok.mat N D).bytes = bys at *
          generalize UInt8.ofNat (N + 124) = b1 at *
          generalize UInt8.ofNat (D / 256) = b2 at *
          generalize UInt8.ofNat (D % 256) = b3 at *
          have q7 := b1.toNat_lt
          have q8 := b2.toNat_lt
          have q9 := b3.toNat_lt
          clear hp hrb hrl q0 q1 q2 HP hc HO hmb hlb
          go_wp2_with (at_builtin; refine wpList_append_own _ rfl _ _ 63 rfl w.heap.size 5 i0 (.int .u8 0) 1 1 Tryz.underBytes hi hz0 hz1 hz2 rfl (by decide) _ _ _ rfl ((ho.alloc _).alloc _) ⟨wr.heap.size + 1, 0, none⟩ 3 3 (bc [b1, b2, b3]) rfl rfl ?c1 ?c2 ?c3 ?c4 ?c5 ?_)
          case c1 => exact cells_newN _ (bc [b1, b2, b3]) 5 _ (by simp)
          case c2 => exact bc_one _
          case c3 => unfold maxLen; omega
          case c4 => omega
          case c5 => simp; omega
          intro v1 w1 hown1 hgrow1 _
          have HB1 := hid (bel_step (HB.out.alloc hsz (.cells #[.string ⟨#[]⟩, .int .i64 N, .int .i64 D] 146)) (ho.alloc _) (by simp; omega) hgrow1)
          have HO1 : Hid (Own w1 w.heap.size v1 (pre ++ bys)) := by
            rw [HBY.out]
            exact own_mk (r := [b1, b2, b3]) hown1 HN.out rfl rfl
          have HS1 : Hid (w.heap.size ≤ w1.heap.size) := HB1.out.size
          clear hown1 hgrow1 ho HB HS k0 k1 k2
          go_wp2_with fail
          go_roundg k
          case measure => omega
          case rel => exact ⟨j + 1, _, by omega, by go_num, by show _ ≤ _; rw [List.length_append, HN.out]; omega, HP2, HO1, HB1, HS1⟩
        | false =>
          have hrb : rb (S, n, d) = none := by unfold rb; rw [hlb, hmb]; simp
          simp only [frm, hrb] at hp
          have HC : Hid (R = none) := hp.symm
          unfold lB at hlb
          unfold mB at hmb
          rw [decide_eq_false_iff_not] at hlb hmb
          have HLB := hid hlb
          have HMB := hid hmb
          clear hp hrb hlb hmb hrl q0 q1 q2 HP hc HO ho
          by_cases z0 : 1 ≤ S.size
          · have z1 : (1 : Int) ≤ S.size := by omega
            have z2 : ((S.size : Int) == 0) = false := by rw [beq_eq_false_iff_ne]; omega
            by_cases z3 : (S.size : Int) ≤ 128
            · by_cases z4 : n = 0
              · subst z4
                have z5 : (d == 0) = false := by rw [beq_eq_false_iff_ne]; have := HLB.out; omega
                go_wp2_with fail
                go_ret2
                exact ⟨by rw [HC.out]; rfl, HB.out.alloc hsz _⟩
              · have z5 : (n == 0) = false := by rw [beq_eq_false_iff_ne]; exact z4
                clear z4
                go_wp2_with fail
                go_ret2
                exact ⟨by rw [HC.out]; rfl, HB.out.alloc hsz _⟩
            · skip
              go_wp2_with fail
              go_ret2
              exact ⟨by rw [HC.out]; rfl, HB.out.alloc hsz _⟩
          · have z1 : ¬ (1 : Int) ≤ S.size := by omega
            have e0 := (empty_iff S).1 (by omega)
            subst e0
            have hmm : ¬ ((4 ≤ n ∧ n ≤ 131) ∧ 1 ≤ d ∧ d ≤ 8192) := fun h => HMB.out ⟨rfl, h.1, h.2⟩
            have HMB := hid hmm
            clear hmm z1 z0
            by_cases g1 : 4 ≤ n
            · by_cases g2 : n ≤ 131
              · by_cases g3 : 1 ≤ d
                · have g4 : ¬ d ≤ 8192 := by have := HMB.out; omega
                  go_wp2_with fail
                  go_ret2
                  exact ⟨by rw [HC.out]; rfl, HB.out.alloc hsz _⟩
                · skip
                  go_wp2_with fail
                  go_ret2
                  exact ⟨by rw [HC.out]; rfl, HB.out.alloc hsz _⟩
              · skip
                go_wp2_with fail
                go_ret2
                exact ⟨by rw [HC.out]; rfl, HB.out.alloc hsz _⟩
            · skip
              go_wp2_with fail
              go_ret2
              exact ⟨by rw [HC.out]; rfl, HB.out.alloc hsz _⟩
    · have hp := HP.out
      rw [List.drop_eq_nil_of_le (by omega)] at hp
      have HC : Hid (R = some pre) := by show R = _; rw [← hp]; simp [frm, fpre]
      have hcv := conv_own HO.out
      clear hp
      go_wp2_with fail
      go_ret2
      exact ⟨by rw [HC.out]; rfl, HB.out⟩
end Go.Proofs.YtihokphamgkkcaaGreat.Lz
namespace Go.Proofs.YtihokphamgkkcaaGreat.Lz
open Go.RowKit
inductive Pz (l : List UInt8) : Nat → List M.Tok → Prop
  | nil : Pz l l.length []
  | lit {k s ts} (h1 : 1 ≤ s.length) (h2 : s.length ≤ 128) (h3 : k + s.length ≤ l.length) (h4 : s = (l.drop k).take s.length) (h5 : ∀ j, j < s.length → (M.best l (k + j)).1 = 0) (h6 : s.length < 128 → ∀ t, ts.head? = some t → 4 ≤ t.len) (h7 : Pz l (k + s.length) ts) : Pz l k (.lit s :: ts)
  | mat {k n d ts} (h1 : k < l.length) (h2 : M.best l k = (n, d)) (h3 : 4 ≤ n) (h4 : Pz l (k + n) ts) : Pz l k (.mat n d :: ts)
theorem Pz.runs {l : List UInt8} {e : Nat} {ts : List M.Tok} (he : e ≤ l.length) (h : Pz l e ts) (hm : ∀ t, ts.head? = some t → 4 ≤ t.len) : ∀ (n fr : Nat), fr + n = e → (∀ j, fr ≤ j → j < e → (M.best l j).1 = 0) → Pz l fr (M.runs ((l.take e).drop fr) ++ ts) := by
  intro n
  induction n using Nat.strongRecOn with
  | ind n ih =>
    intro fr hn hb
    have hl : ((l.take e).drop fr).length = n := by simp; omega
    by_cases h0 : n = 0
    · subst h0
      rw [List.eq_nil_of_length_eq_zero hl, M.runs_nil]
      obtain rfl : fr = e := by omega
      exact h
    · rw [M.runs_step (by omega), List.cons_append]
      have hlen : (((l.take e).drop fr).take 128).length = min 128 n := by rw [List.length_take, hl]
      refine Pz.lit (by rw [hlen]; omega) (by rw [hlen]; omega) (by rw [hlen]; omega) ?_ (fun j hj => hb _ (by omega) (by rw [hlen] at hj; omega)) ?_ ?_
      · rw [hlen, List.drop_take, List.take_take]
        congr 1
        omega
      · intro hs t ht
        rw [hlen] at hs
        have hd : ((l.take e).drop fr).drop 128 = [] := List.drop_eq_nil_of_le (by omega)
        rw [hd, M.runs_nil, List.nil_append] at ht
        exact hm t ht
      · rw [hlen, List.drop_drop]
        by_cases hs : n ≤ 128
        · have h7 : List.drop (fr + 128) (l.take e) = List.drop (fr + min 128 n) (l.take e) := by
            rw [List.drop_eq_nil_of_le (by simp; omega), List.drop_eq_nil_of_le (by simp; omega)]
          rw [h7]
          exact ih (n - min 128 n) (by omega) (fr + min 128 n) (by omega) (fun j h1 h2 => hb j (by omega) h2)
        · rw [show min 128 n = 128 from by omega]
          exact ih (n - 128) (by omega) (fr + 128) (by omega) (fun j h1 h2 => hb j (by omega) h2)
theorem Pz.pk {l : List UInt8} : ∀ fr p, fr ≤ p → p ≤ l.length → (∀ j, fr ≤ j → j < p → (M.best l j).1 = 0) → Pz l fr (M.pk l fr p) := by
  refine M.pk_ind (l := l) ?_ ?_ ?_
  · intro fr p hf h h' hb
    rw [M.pk_end h]
    have := Pz.runs (l := l) (e := l.length) (ts := []) (Nat.le_refl _) .nil (by simp) (l.length - fr) fr (by omega) (fun j h1 h2 => hb j h1 (by omega))
    simpa using this
  · intro fr p hf h hb ih h' hz
    rw [M.pk_lit h hb]
    exact ih (by omega) (fun j h1 h2 => by
      by_cases he : j = p
      · rw [he]; exact hb
      · exact hz j h1 (by omega))
  · intro fr p hf h hb ih h' hz
    have h1 := M.best_some hb
    have h2 := M.best_le l p
    rw [M.pk_mat h hb]
    refine Pz.runs (by omega) (Pz.mat h rfl h1.1 (ih (by omega) (fun j h1 h2 => by omega))) (fun t ht => ?_) (p - fr) fr (by omega) hz
    simp only [List.head?_cons, Option.some.injEq] at ht
    rw [← ht]
    exact h1.1
theorem rb_tok {t : M.Tok} (h : t.ok) : rb (rt t) = some t.bytes := by
  cases t with
  | lit s =>
    have h1 : lB (rt (.lit s)).1 (rt (.lit s)).2.1 (rt (.lit s)).2.2 = true := by
      unfold lB
      rw [decide_eq_true_iff]
      exact ⟨rfl, rfl, by show 1 ≤ (ba s).size; rw [ba_size]; exact h.1, by show (ba s).size ≤ 128; rw [ba_size]; exact h.2⟩
    unfold rb
    rw [if_pos h1]
    congr 1
    exact runs_one h.1 h.2
  | mat n d =>
    obtain ⟨a, b, c, e⟩ := h
    have h1 : ¬ lB (rt (.mat n d)).1 (rt (.mat n d)).2.1 (rt (.mat n d)).2.2 = true := by
      unfold lB
      rw [decide_eq_true_iff]
      intro k
      have k1 : ((n : Nat) : Int) = 0 := k.1
      omega
    have h2 : mB (rt (.mat n d)).1 (rt (.mat n d)).2.1 (rt (.mat n d)).2.2 = true := by
      unfold mB
      rw [decide_eq_true_iff]
      refine ⟨rfl, ⟨?_, ?_⟩, ?_, ?_⟩
      · show (4 : Int) ≤ (n : Nat); omega
      · show ((n : Nat) : Int) ≤ 131; omega
      · show (1 : Int) ≤ (d : Nat); omega
      · show ((d : Nat) : Int) ≤ 8192; omega
    unfold rb
    rw [if_neg h1, if_pos h2]
    rfl
theorem frm_toks : ∀ ts : List M.Tok, (∀ t ∈ ts, t.ok) → frm (ts.map rt) = some (M.bytesOf ts)
  | [], _ => rfl
  | t :: ts, h => by
    simp only [List.map_cons, frm]
    rw [rb_tok (h t (List.mem_cons_self ..))]
    simp only []
    rw [frm_toks ts (fun u hu => h u (List.mem_cons_of_mem _ hu))]
    rfl
theorem pk_count {l : List UInt8} {k : Nat} {ts : List M.Tok} (h : Pz l k ts) : ts.length ≤ l.length - k := by
  induction h with
  | nil => simp
  | lit h1 h2 h3 h4 h5 h6 h7 ih => rw [List.length_cons]; omega
  | mat h1 h2 h3 h4 ih => rw [List.length_cons]; omega
theorem Pz.le {l : List UInt8} {k : Nat} {ts : List M.Tok} (h : Pz l k ts) : k ≤ l.length := by
  cases h with
  | nil => exact Nat.le_refl _
  | lit h1 h2 h3 => omega
  | mat h1 => omega
end Go.Proofs.YtihokphamgkkcaaGreat.Lz
namespace Go.Proofs.YtihokphamgkkcaaGreat.Lz
open Go.RowKit
set_option maxHeartbeats 1000000 in
theorem rpack_any (s : ByteArray) (w : World) (hs : s.size ≤ 100000000) :
    Calls Tryz.prog 31 #[.string s] w fun e w' => e = .returned (.string (ba (M.pack s.data.toList))) ∧ Below w.heap.size w w' := by
  have cp := fun w => rpacked_any s w (by omega)
  have hfm := frm_toks (M.packT s.data.toList) (M.pk_ok 0 0 (Nat.le_refl _))
  have hpl := pk_len (l := s.data.toList) 0 0 (Nat.le_refl _) (Nat.zero_le _)
  have hpl' : (M.packT s.data.toList).length ≤ s.size := by have h1 : (M.packT s.data.toList).length ≤ s.data.toList.length - 0 := hpl; have := len_ s; omega
  have hfv : frmV (frm ((M.packT s.data.toList).map rt)) = .tuple #[.string (ba (M.pack s.data.toList)), .int .i64 0] := by rw [hfm]; rfl
  generalize M.packT s.data.toList = P at *
  generalize ba (M.pack s.data.toList) = PB at *
  have hml : (P.map rt).length = P.length := by simp
  generalize P.map rt = rs at *
  have CP := hid cp
  have HFV := hid hfv
  clear cp hfm hpl hfv
  go_enter Tryz.func31, Tryz.ntmps31
  go_wp2_with fail
  refine (CP.out _).mono ?_
  rintro e w1 ⟨v, rfl, ho, hb1⟩
  obtain ⟨a, cap, rfl, _, hT⟩ := OwnT.slice ho
  have cf := rform_any a cap rs w1 (by omega) hT
  rw [HFV.out] at cf
  have CF := hid cf
  have HB1 := hid hb1
  clear cf hT ho hb1
  have hml2 : rs.length = rs.length := rfl
  clear hml hml2
  go_wp2_with fail
  refine CF.out.mono ?_
  rintro e w2 ⟨rfl, hb2⟩
  have HB2 := hid (bel_bel HB1.out hb2 HB1.out.size)
  clear hb2
  go_wp2_with fail
  go_ret
  exact ⟨rfl, HB2.out⟩
end Go.Proofs.YtihokphamgkkcaaGreat.Lz
