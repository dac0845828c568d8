/- Tokens, their bytes, packing and unpacking, by plain lists. -/
import Derived.Test.YtdkfenmhfkggdaaMath
namespace M
inductive Tok where
  | lit (s : List UInt8)
  | mat (n d : Nat)
def Tok.ok : Tok → Prop
  | .lit s => 1 ≤ s.length ∧ s.length ≤ 128
  | .mat n d => 4 ≤ n ∧ n ≤ 131 ∧ 1 ≤ d ∧ d ≤ 8192
def Tok.bytes : Tok → List UInt8
  | .lit s => UInt8.ofNat (s.length - 1) :: s
  | .mat n d => [UInt8.ofNat (n + 124), UInt8.ofNat (d / 256), UInt8.ofNat (d % 256)]
def Tok.lits : Tok → List UInt8
  | .lit s => s
  | .mat _ _ => []
def Tok.len : Tok → Nat
  | .lit _ => 0
  | .mat n _ => n
def Tok.dist : Tok → Nat
  | .lit _ => 0
  | .mat _ d => d
def Tok.count (t : Tok) : Nat := t.lits.length + t.len
def bytesOf (ts : List Tok) : List UInt8 := ts.flatMap Tok.bytes
theorem bytesOf_nil : bytesOf [] = [] := rfl
theorem bytesOf_cons (t : Tok) (ts : List Tok) : bytesOf (t :: ts) = t.bytes ++ bytesOf ts := rfl
theorem bytesOf_append (a b : List Tok) : bytesOf (a ++ b) = bytesOf a ++ bytesOf b := by simp [bytesOf]
/-- Literals in tokens of at most 128. -/
def runF : Nat → List UInt8 → List Tok
  | 0, _ => []
  | f + 1, l => if l.length = 0 then [] else Tok.lit (l.take 128) :: runF f (l.drop 128)
theorem runF_eq : ∀ (f g : Nat) (l : List UInt8), l.length ≤ f → l.length ≤ g → runF f l = runF g l
  | 0, 0, _, _, _ => rfl
  | 0, g + 1, l, h, _ => by
    have : l.length = 0 := by omega
    simp [runF, this]
  | f + 1, 0, l, _, h => by
    have : l.length = 0 := by omega
    simp [runF, this]
  | f + 1, g + 1, l, h1, h2 => by
    unfold runF
    split
    · rfl
    · rw [runF_eq f g (l.drop 128) (by simp; omega) (by simp; omega)]
def runs (l : List UInt8) : List Tok := runF l.length l
theorem runs_nil : runs [] = [] := rfl
theorem runs_step {l : List UInt8} (h : l.length ≠ 0) : runs l = Tok.lit (l.take 128) :: runs (l.drop 128) := by
  unfold runs
  obtain ⟨n, hn⟩ : ∃ n, l.length = n + 1 := ⟨l.length - 1, by omega⟩
  rw [hn]
  conv => lhs; unfold runF
  rw [if_neg h, runF_eq n (l.drop 128).length (l.drop 128) (by simp; omega) (Nat.le_refl _)]
theorem runs_ind {P : List UInt8 → Prop} (h0 : P []) (h1 : ∀ l : List UInt8, l.length ≠ 0 → P (l.drop 128) → P l) : ∀ l, P l := by
  intro l
  generalize hn : l.length = n
  induction n using Nat.strongRecOn generalizing l with
  | ind n ih =>
    by_cases h : l.length = 0
    · rw [List.eq_nil_of_length_eq_zero h]; exact h0
    · exact h1 l h (ih (l.drop 128).length (by simp; omega) _ rfl)
theorem runs_ok : ∀ l : List UInt8, ∀ t ∈ runs l, t.ok := by
  refine runs_ind ?_ ?_
  · intro t h; simp [runs_nil] at h
  · intro l hl ih t ht
    rw [runs_step hl] at ht
    rcases List.mem_cons.1 ht with h | h
    · subst h
      simp [Tok.ok]
      omega
    · exact ih t h
theorem runs_size : ∀ l : List UInt8, (bytesOf (runs l)).length = l.length + (l.length + 127) / 128 := by
  refine runs_ind rfl ?_
  intro l hl ih
  rw [runs_step hl, bytesOf_cons, List.length_append, ih]
  simp [Tok.bytes]
  omega
/-- Packing: the tokens from the place at on, where the literals from fr on wait. -/
def pkF (l : List UInt8) : Nat → Nat → Nat → List Tok
  | 0, fr, _ => runs (l.drop fr)
  | f + 1, fr, at' =>
    if at' < l.length then
      if (best l at').1 = 0 then pkF l f fr (at' + 1)
      else runs ((l.take at').drop fr) ++ Tok.mat (best l at').1 (best l at').2 :: pkF l f (at' + (best l at').1) (at' + (best l at').1)
    else runs (l.drop fr)
theorem pkF_eq (l : List UInt8) : ∀ (f g fr at' : Nat), l.length ≤ at' + f → l.length ≤ at' + g → pkF l f fr at' = pkF l g fr at'
  | 0, 0, _, _, _, _ => rfl
  | 0, g + 1, fr, at', h, _ => by
    simp only [pkF]
    rw [if_neg (by omega)]
  | f + 1, 0, fr, at', _, h => by
    simp only [pkF]
    rw [if_neg (by omega)]
  | f + 1, g + 1, fr, at', h1, h2 => by
    simp only [pkF]
    split
    · split
      · exact pkF_eq l f g fr (at' + 1) (by omega) (by omega)
      · rename_i hn
        rw [pkF_eq l f g (at' + (best l at').1) (at' + (best l at').1) (by omega) (by omega)]
    · rfl
def pk (l : List UInt8) (fr at' : Nat) : List Tok := pkF l (l.length - at') fr at'
theorem pk_end {l : List UInt8} {fr at' : Nat} (h : l.length ≤ at') : pk l fr at' = runs (l.drop fr) := by
  unfold pk
  rw [show l.length - at' = 0 from by omega]
  rfl
theorem pk_lit {l : List UInt8} {fr at' : Nat} (h : at' < l.length) (hb : (best l at').1 = 0) : pk l fr at' = pk l fr (at' + 1) := by
  unfold pk
  rw [show l.length - at' = (l.length - (at' + 1)) + 1 from by omega]
  conv => lhs; unfold pkF
  rw [if_pos h, if_pos hb]
theorem pk_mat {l : List UInt8} {fr at' : Nat} (h : at' < l.length) (hb : (best l at').1 ≠ 0) : pk l fr at' = runs ((l.take at').drop fr) ++ Tok.mat (best l at').1 (best l at').2 :: pk l (at' + (best l at').1) (at' + (best l at').1) := by
  unfold pk
  rw [show l.length - at' = (l.length - (at' + 1)) + 1 from by omega]
  conv => lhs; unfold pkF
  rw [if_pos h, if_neg hb]
  rw [pkF_eq l (l.length - (at' + 1)) (l.length - (at' + (best l at').1)) _ _ (by omega) (by omega)]
def packT (l : List UInt8) : List Tok := pk l 0 0
def pack (l : List UInt8) : List UInt8 := bytesOf (packT l)
/-- An induction along packing. -/
theorem pk_ind {l : List UInt8} {P : Nat → Nat → Prop} (h0 : ∀ fr at', fr ≤ at' → l.length ≤ at' → P fr at')
    (h1 : ∀ fr at', fr ≤ at' → at' < l.length → (best l at').1 = 0 → P fr (at' + 1) → P fr at')
    (h2 : ∀ fr at', fr ≤ at' → at' < l.length → (best l at').1 ≠ 0 → P (at' + (best l at').1) (at' + (best l at').1) → P fr at') : ∀ fr at', fr ≤ at' → P fr at' := by
  intro fr at' hf
  generalize hn : l.length - at' = n
  induction n using Nat.strongRecOn generalizing fr at' with
  | ind n ih =>
    by_cases h : at' < l.length
    · by_cases hb : (best l at').1 = 0
      · exact h1 fr at' hf h hb (ih (l.length - (at' + 1)) (by omega) fr (at' + 1) (by omega) rfl)
      · exact h2 fr at' hf h hb (ih (l.length - (at' + (best l at').1)) (by omega) _ _ (Nat.le_refl _) rfl)
    · exact h0 fr at' hf (by omega)
theorem best_some {l : List UInt8} {at' : Nat} (h : (best l at').1 ≠ 0) : 4 ≤ (best l at').1 ∧ 1 ≤ (best l at').2 ∧ alk l (most l at') (at' - (best l at').2) at' = (best l at').1 := by
  rcases best_is l at' with h1 | h1
  · rw [h1] at h; exact absurd rfl h
  · exact h1
theorem pk_ok {l : List UInt8} : ∀ fr at', fr ≤ at' → ∀ t ∈ pk l fr at', t.ok := by
  refine pk_ind (l := l) ?_ ?_ ?_
  · intro fr at' _ h
    rw [pk_end h]; exact runs_ok _
  · intro fr at' _ h hb ih
    rw [pk_lit h hb]; exact ih
  · intro fr at' _ h hb ih t ht
    rw [pk_mat h hb] at ht
    have h1 := best_some hb
    have h2 := best_le l at'
    rcases List.mem_append.1 ht with h3 | h3
    · exact runs_ok _ t h3
    · rcases List.mem_cons.1 h3 with h4 | h4
      · subst h4
        exact ⟨h1.1, h2.2.1, h1.2.1, h2.2.2.2⟩
      · exact ih t h4
theorem pk_size {l : List UInt8} : ∀ fr at', fr ≤ at' → at' ≤ l.length → (bytesOf (pk l fr at')).length ≤ (l.length - fr) + (l.length - fr + 127) / 128 := by
  refine pk_ind (l := l) ?_ ?_ ?_
  · intro fr at' hf h _
    rw [pk_end h, runs_size]
    simp
  · intro fr at' hf h hb ih _
    rw [pk_lit h hb]; exact ih (by omega)
  · intro fr at' hf h hb ih _
    have h1 := best_some hb
    have h2 := best_le l at'
    have h3 := ih (by omega)
    rw [pk_mat h hb, bytesOf_append, List.length_append, runs_size, bytesOf_cons, List.length_append]
    simp only [Tok.bytes, List.length_cons, List.length_nil, List.length_drop, List.length_take]
    generalize (bytesOf (pk l (at' + (best l at').fst) (at' + (best l at').fst))).length = Z at *
    rw [show min at' l.length = at' from by omega]
    omega
theorem pack_size (l : List UInt8) : (pack l).length ≤ l.length + (l.length + 127) / 128 := pk_size 0 0 (Nat.le_refl _) (Nat.zero_le _)
/-- The first token of bytes that are not none, and how many bytes it has. -/
def fst' (p : List UInt8) : Except Nat (Tok × Nat) :=
  let c := (by_ p 0).toNat
  if c < 128 then if p.length < c + 2 then .error 20 else .ok (.lit ((p.drop 1).take (c + 1)), c + 2)
  else if p.length < 3 then .error 20
  else let d := (by_ p 1).toNat * 256 + (by_ p 2).toNat
    if d = 0 ∨ 8192 < d then .error 25 else .ok (.mat (c - 124) d, 3)
theorem u8_of {n : Nat} (h : n < 256) : (UInt8.ofNat n).toNat = n := by rw [UInt8.toNat_ofNat']; omega
/-- A token is read from its bytes, whatever stands behind them. -/
theorem fst_bytes {t : Tok} (h : t.ok) (p : List UInt8) : fst' (t.bytes ++ p) = .ok (t, t.bytes.length) := by
  cases t with
  | lit s =>
    obtain ⟨h1, h2⟩ := h
    unfold fst'
    have e0 : (by_ ((Tok.lit s).bytes ++ p) 0).toNat = s.length - 1 := by
      show (UInt8.ofNat (s.length - 1)).toNat = _
      exact u8_of (by omega)
    simp only [e0]
    rw [if_pos (by omega), if_neg (by simp [Tok.bytes]; omega)]
    have e3 : (((Tok.lit s).bytes ++ p).drop 1).take (s.length - 1 + 1) = s := by
      simp only [Tok.bytes, List.cons_append, List.drop_succ_cons, List.drop_zero]
      rw [show s.length - 1 + 1 = s.length from by omega, List.take_left]
    have e4 : s.length - 1 + 2 = (Tok.lit s).bytes.length := by simp [Tok.bytes]; omega
    rw [e3, e4]
  | mat n d =>
    obtain ⟨h1, h2, h3, h4⟩ := h
    unfold fst'
    have e0 : (by_ ((Tok.mat n d).bytes ++ p) 0).toNat = n + 124 := by
      show (UInt8.ofNat (n + 124)).toNat = _
      exact u8_of (by omega)
    have e1 : (by_ ((Tok.mat n d).bytes ++ p) 1).toNat = d / 256 := by
      show (UInt8.ofNat (d / 256)).toNat = _
      exact u8_of (by omega)
    have e2 : (by_ ((Tok.mat n d).bytes ++ p) 2).toNat = d % 256 := by
      show (UInt8.ofNat (d % 256)).toNat = _
      exact u8_of (by omega)
    simp only [e0, e1, e2]
    rw [if_neg (by omega), if_neg (by simp [Tok.bytes]), if_neg (by omega)]
    have e3 : n + 124 - 124 = n := by omega
    have e4 : d / 256 * 256 + d % 256 = d := by omega
    rw [e3, e4]
    rfl
/-- What is read is right, and has at least two bytes. -/
theorem fst_ok {p : List UInt8} {t : Tok} {n : Nat} (hp : p.length ≠ 0) (h : fst' p = .ok (t, n)) : t.ok ∧ 2 ≤ n ∧ n ≤ p.length ∧ t.bytes.length = n ∧ p = t.bytes ++ p.drop n := by
  unfold fst' at h
  have hb := (by_ p 0).toNat_lt
  have hb1 := (by_ p 1).toNat_lt
  have hb2 := (by_ p 2).toNat_lt
  simp only at h
  split at h
  · rename_i hc
    split at h
    · cases h
    · rename_i hl
      injection h with h
      injection h with h1 h2
      subst h1 h2
      have hlen : ((p.drop 1).take ((by_ p 0).toNat + 1)).length = (by_ p 0).toNat + 1 := by simp; omega
      refine ⟨⟨by rw [hlen]; omega, by rw [hlen]; omega⟩, by omega, by omega, by simp only [Tok.bytes, List.length_cons, hlen], ?_⟩
      simp only [Tok.bytes, hlen]
      cases p with
      | nil => simp at hp
      | cons c q =>
        have e0 : by_ (c :: q) 0 = c := rfl
        rw [e0]
        simp
  · rename_i hc
    split at h
    · cases h
    · rename_i hl
      split at h
      · cases h
      · rename_i hd
        injection h with h
        injection h with h1 h2
        subst h1 h2
        refine ⟨⟨by omega, by omega, by omega, by omega⟩, by omega, by omega, rfl, ?_⟩
        obtain ⟨a, b, c, q, rfl⟩ : ∃ a b c q, p = a :: b :: c :: q := by
          rcases p with _ | ⟨a, _ | ⟨b, _ | ⟨c, q⟩⟩⟩
          · exact absurd rfl hp
          · exact absurd (by decide : 1 < 3) hl
          · exact absurd (by decide : 2 < 3) hl
          · exact ⟨a, b, c, q, rfl⟩
        · have e0 : by_ (a :: b :: c :: q) 0 = a := rfl
          have e1 : by_ (a :: b :: c :: q) 1 = b := rfl
          have e2 : by_ (a :: b :: c :: q) 2 = c := rfl
          rw [e0] at hc hb
          rw [e1] at hb1
          rw [e2] at hb2
          rw [e0, e1, e2]
          clear e0 e1 e2
          simp only [Tok.bytes, List.drop_succ_cons, List.drop_zero, List.cons_append, List.nil_append]
          have f0 : UInt8.ofNat (a.toNat - 124 + 124) = a := by
            apply UInt8.toNat_inj.1
            rw [u8_of (by omega)]; omega
          have f1 : UInt8.ofNat ((b.toNat * 256 + c.toNat) / 256) = b := by
            apply UInt8.toNat_inj.1
            rw [u8_of (by omega)]; omega
          have f2 : UInt8.ofNat ((b.toNat * 256 + c.toNat) % 256) = c := by
            apply UInt8.toNat_inj.1
            rw [u8_of (by omega)]; omega
          rw [f0, f1, f2]
/-- Copied one by one from a distance. -/
def cpy (d : Nat) : Nat → List UInt8 → List UInt8
  | 0, out => out
  | n + 1, out => cpy d n (out ++ [by_ out (out.length - d)])
theorem cpy_len (d : Nat) : ∀ n out, (cpy d n out).length = out.length + n
  | 0, _ => rfl
  | n + 1, out => by unfold cpy; rw [cpy_len]; simp; omega
def app (out : List UInt8) (t : Tok) : List UInt8 := cpy t.dist t.len (out ++ t.lits)
theorem app_len (out : List UInt8) (t : Tok) : (app out t).length = out.length + t.count := by
  unfold app Tok.count; rw [cpy_len]; simp; omega
/-- Unpacking: the bytes p, behind out; an error's number, or all bytes. -/
def unF (len : Nat) : Nat → List UInt8 → List UInt8 → Except Nat (List UInt8)
  | 0, _, out => if out.length < len then .error 20 else .ok out
  | f + 1, p, out =>
    if p.length = 0 then (if out.length < len then .error 20 else .ok out) else
    match fst' p with
    | .error e => .error e
    | .ok (t, n) => if out.length < t.dist then .error 25 else if len - out.length < t.count then .error 22 else unF len f (p.drop n) (app out t)
def un (len : Nat) (p out : List UInt8) : Except Nat (List UInt8) := unF len p.length p out
theorem unF_eq (len : Nat) : ∀ (f g : Nat) (p out : List UInt8), p.length ≤ f → p.length ≤ g → unF len f p out = unF len g p out
  | 0, 0, _, _, _, _ => rfl
  | 0, g + 1, p, out, h, _ => by
    have h0 : p.length = 0 := by omega
    simp only [unF, h0, if_true]
  | f + 1, 0, p, out, _, h => by
    have h0 : p.length = 0 := by omega
    simp only [unF, h0, if_true]
  | f + 1, g + 1, p, out, h1, h2 => by
    simp only [unF]
    split
    · rfl
    · rename_i hp
      split
      · rfl
      · rename_i t n he
        have := fst_ok hp he
        rw [unF_eq len f g (p.drop n) (app out t) (by simp; omega) (by simp; omega)]
theorem un_nil (len : Nat) (out : List UInt8) : un len [] out = if out.length < len then .error 20 else .ok out := rfl
theorem un_step {len : Nat} {p out : List UInt8} (hp : p.length ≠ 0) : un len p out = match fst' p with
    | .error e => .error e
    | .ok (t, n) => if out.length < t.dist then .error 25 else if len - out.length < t.count then .error 22 else un len (p.drop n) (app out t) := by
  unfold un
  obtain ⟨n, hn⟩ : ∃ n, p.length = n + 1 := ⟨p.length - 1, by omega⟩
  rw [hn]
  conv => lhs; unfold unF
  rw [if_neg hp]
  split
  · rfl
  · rename_i t k he
    have := fst_ok hp he
    rw [unF_eq len n (p.drop k).length (p.drop k) (app out t) (by simp; omega) (Nat.le_refl _)]
end M
