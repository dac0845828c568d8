/- Plain facts on records: their form, what is read of some bytes, and that only the form is read. -/
import Derived.Test.YtpfaioncaolmjaaGreatRecM
namespace Go.Proofs.YtpfaioncaolmjaaGreat
open Go.RowKit
abbrev Hdr := ByteArray × Bool × ByteArray
structure Rec where
  t : Int
  kh : Bool
  kd : ByteArray
  vh : Bool
  vd : ByteArray
  hs : List Hdr
/-- Null holds nothing. -/
def Cl (h : Bool) (d : ByteArray) : Prop := h = false → d = ⟨#[]⟩
def Clh (hs : List Hdr) : Prop := ∀ x ∈ hs, Cl x.2.1 x.2.2
def I64 (x : Int) : Prop := -9223372036854775808 ≤ x ∧ x ≤ 9223372036854775807
instance (x : Int) : Decidable (I64 x) := by unfold I64; infer_instance
def hl1 (x : Hdr) : List Nat := tx x.1 ++ ol x.2.1 x.2.2
def hl (hs : List Hdr) : List Nat := hs.flatMap hl1
theorem hl_cons (x : Hdr) (l : List Hdr) : hl (x :: l) = tx x.1 ++ (ol x.2.1 x.2.2 ++ hl l) := by simp [hl, hl1]
/-- A form's own bytes. -/
def own (d : Int) (n : Nat) (r : Rec) : List Nat := [0] ++ (M.form (M.zz d).toNat ++ (M.form n ++ (ol r.kh r.kd ++ (ol r.vh r.vd ++ (M.form r.hs.length ++ hl r.hs)))))
/-- The form. -/
def fm (d : Int) (n : Nat) (r : Rec) : List Nat := M.form (own d n r).length ++ own d n r
def Fin (p : ByteArray) (k : Nat) (l : List Nat) : Prop := Stands p k l ∧ ¬ k + l.length < p.size
theorem fin_app {p : ByteArray} {k : Nat} {l m : List Nat} : Fin p k (l ++ m) ↔ Stands p k l ∧ Fin p (k + l.length) m := by
  unfold Fin
  rw [stands_app, List.length_append, Nat.add_assoc]
  exact ⟨fun ⟨⟨a, b⟩, c⟩ => ⟨a, b, c⟩, fun ⟨a, b, c⟩ => ⟨⟨a, b⟩, c⟩⟩
theorem fin_whole {p : ByteArray} {l : List Nat} : Fin p 0 l ↔ bl p = l := by
  rw [← stands_whole]
  unfold Fin
  rw [Nat.zero_add]
variable {α : Type}
theorem uq_step {p : ByteArray} {k : Nat} {F : Nat → Nat → Except Nat α} {r : α} (hk : k ≤ p.size) : ((if (uq p k 0).2.2 ≠ 0 then .error (uq p k 0).2.2 else F (uq p k 0).1 (uq p k 0).2.1) = .ok r) ↔ ∃ v, v < 18446744073709551616 ∧ Stands p k (M.form v) ∧ F v (k + (M.form v).length) = .ok r := by
  by_cases h : (uq p k 0).2.2 = 0
  · rw [if_neg (by rw [h]; simp)]
    have e : uq p k 0 = ((uq p k 0).1, (uq p k 0).2.1, 0) := Prod.ext rfl (Prod.ext rfl h)
    obtain ⟨h1, h2, h3⟩ := (uq_iff hk).1 e
    constructor
    · intro h4
      exact ⟨_, h1, h2, by rw [← h3]; exact h4⟩
    · rintro ⟨v, h4, h5, h6⟩
      rw [(uq_iff hk).2 ⟨h4, h5, rfl⟩]
      exact h6
  · rw [if_pos h]
    constructor
    · intro h4; cases h4
    · rintro ⟨v, h4, h5, h6⟩
      rw [(uq_iff hk).2 ⟨h4, h5, rfl⟩] at h
      exact absurd rfl h
theorem vq_step {p : ByteArray} {k : Nat} {F : Int → Nat → Except Nat α} {r : α} (hk : k ≤ p.size) : ((if (vq p k 0).2.2 ≠ 0 then .error (vq p k 0).2.2 else F (vq p k 0).1 (vq p k 0).2.1) = .ok r) ↔ ∃ v, I64 v ∧ Stands p k (M.form (M.zz v).toNat) ∧ F v (k + (M.form (M.zz v).toNat).length) = .ok r := by
  by_cases h : (vq p k 0).2.2 = 0
  · rw [if_neg (by rw [h]; simp)]
    have e : vq p k 0 = ((vq p k 0).1, (vq p k 0).2.1, 0) := Prod.ext rfl (Prod.ext rfl h)
    obtain ⟨h1, h2, h3⟩ := (vq_iff hk).1 e
    constructor
    · intro h4
      exact ⟨_, h1, h2, by rw [← h3]; exact h4⟩
    · rintro ⟨v, h4, h5, h6⟩
      rw [(vq_iff hk).2 ⟨h4, h5, rfl⟩]
      exact h6
  · rw [if_pos h]
    constructor
    · intro h4; cases h4
    · rintro ⟨v, h4, h5, h6⟩
      rw [(vq_iff hk).2 ⟨h4, h5, rfl⟩] at h
      exact absurd rfl h
theorem fx_step {p : ByteArray} {k : Nat} {F : Nat → Nat → Except Nat α} {r : α} : ((if (fx 1 p k 0).2.2 ≠ 0 then .error (fx 1 p k 0).2.2 else F (fx 1 p k 0).1 (fx 1 p k 0).2.1) = .ok r) ↔ ∃ v, Stands p k [v] ∧ F v (k + 1) = .ok r := by
  by_cases h : (fx 1 p k 0).2.2 = 0
  · rw [if_neg (by rw [h]; simp)]
    have e : fx 1 p k 0 = ((fx 1 p k 0).1, (fx 1 p k 0).2.1, 0) := Prod.ext rfl (Prod.ext rfl h)
    obtain ⟨h2, h3⟩ := fx1_iff.1 e
    constructor
    · intro h4
      exact ⟨_, h2, by rw [← h3]; exact h4⟩
    · rintro ⟨v, h5, h6⟩
      rw [fx1_iff.2 ⟨h5, rfl⟩]
      exact h6
  · rw [if_pos h]
    constructor
    · intro h4; cases h4
    · rintro ⟨v, h5, h6⟩
      rw [fx1_iff.2 ⟨h5, rfl⟩] at h
      exact absurd rfl h
theorem tq_step {p : ByteArray} {k : Nat} {F : ByteArray → Nat → Except Nat α} {r : α} (hk : k ≤ p.size) (hs : p.size ≤ 9223372036854775807) : ((if (tq MX p k 0).2.2 ≠ 0 then .error (tq MX p k 0).2.2 else F (tq MX p k 0).1 (tq MX p k 0).2.1) = .ok r) ↔ ∃ v, Stands p k (tx v) ∧ F v (k + (tx v).length) = .ok r := by
  have hm : (p.size : Int) - k ≤ MX := by unfold MX; omega
  by_cases h : (tq MX p k 0).2.2 = 0
  · rw [if_neg (by rw [h]; simp)]
    have e : tq MX p k 0 = ((tq MX p k 0).1, (tq MX p k 0).2.1, 0) := Prod.ext rfl (Prod.ext rfl h)
    obtain ⟨h2, h3⟩ := (tq_iff hk hm hs).1 e
    constructor
    · intro h4
      exact ⟨_, h2, by rw [← h3]; exact h4⟩
    · rintro ⟨v, h5, h6⟩
      rw [(tq_iff hk hm hs).2 ⟨h5, rfl⟩]
      exact h6
  · rw [if_pos h]
    constructor
    · intro h4; cases h4
    · rintro ⟨v, h5, h6⟩
      rw [(tq_iff hk hm hs).2 ⟨h5, rfl⟩] at h
      exact absurd rfl h
theorem oq_step {p : ByteArray} {k : Nat} {F : Bool → ByteArray → Nat → Except Nat α} {r : α} (hk : k ≤ p.size) (hs : p.size ≤ 9223372036854775807) : ((if (oq MX p k 0).2.2.2 ≠ 0 then .error (oq MX p k 0).2.2.2 else F (oq MX p k 0).1 (oq MX p k 0).2.1 (oq MX p k 0).2.2.1) = .ok r) ↔ ∃ b v, Stands p k (ol b v) ∧ Cl b v ∧ F b v (k + (ol b v).length) = .ok r := by
  have hm : (p.size : Int) - k ≤ MX := by unfold MX; omega
  by_cases h : (oq MX p k 0).2.2.2 = 0
  · rw [if_neg (by rw [h]; simp)]
    have e : oq MX p k 0 = ((oq MX p k 0).1, (oq MX p k 0).2.1, (oq MX p k 0).2.2.1, 0) := Prod.ext rfl (Prod.ext rfl (Prod.ext rfl h))
    obtain ⟨h2, h3, h7⟩ := (oq_iff hk hm hs).1 e
    constructor
    · intro h4
      exact ⟨_, _, h2, h7, by rw [← h3]; exact h4⟩
    · rintro ⟨b, v, h5, h8, h6⟩
      rw [(oq_iff hk hm hs).2 ⟨h5, rfl, h8⟩]
      exact h6
  · rw [if_pos h]
    constructor
    · intro h4; cases h4
    · rintro ⟨b, v, h5, h8, h6⟩
      rw [(oq_iff hk hm hs).2 ⟨h5, rfl, h8⟩] at h
      exact absurd rfl h
/-- Put ahead. -/
def pre (l : List Hdr) : Except Nat (List Hdr × Nat) → Except Nat (List Hdr × Nat)
  | .error e => .error e
  | .ok (m, k) => .ok (l ++ m, k)
theorem pre_nil (x : Except Nat (List Hdr × Nat)) : pre [] x = x := by cases x <;> rfl
theorem pre_pre (l m : List Hdr) (x : Except Nat (List Hdr × Nat)) : pre l (pre m x) = pre (l ++ m) x := by cases x <;> simp [pre]
/-- c headers. -/
def hdq (p : ByteArray) : Nat → Nat → Except Nat (List Hdr × Nat)
  | 0, k => .ok ([], k)
  | c + 1, k => if (tq MX p k 0).2.2 ≠ 0 then .error (tq MX p k 0).2.2 else if (oq MX p (tq MX p k 0).2.1 0).2.2.2 ≠ 0 then .error (oq MX p (tq MX p k 0).2.1 0).2.2.2 else pre [((tq MX p k 0).1, (oq MX p (tq MX p k 0).2.1 0).1, (oq MX p (tq MX p k 0).2.1 0).2.1)] (hdq p c (oq MX p (tq MX p k 0).2.1 0).2.2.1)
theorem pre_ok {l : List Hdr} {x : Except Nat (List Hdr × Nat)} {r : List Hdr × Nat} : pre l x = .ok r ↔ ∃ m, x = .ok (m, r.2) ∧ r.1 = l ++ m := by
  cases x with
  | error e =>
    constructor
    · intro h; cases h
    · rintro ⟨m, h, _⟩; cases h
  | ok y =>
    obtain ⟨y1, y2⟩ := y
    obtain ⟨r1, r2⟩ := r
    constructor
    · intro h
      injection h with h
      injection h with h1 h2
      subst h1 h2
      exact ⟨y1, rfl, rfl⟩
    · rintro ⟨m, h, h2⟩
      injection h with h
      injection h with h3 h4
      simp only at h2 h4
      subst h2 h3 h4
      rfl
theorem hdq_iff {p : ByteArray} (hs : p.size ≤ 9223372036854775807) : ∀ {c k : Nat} {r : List Hdr × Nat}, k ≤ p.size → (hdq p c k = .ok r ↔ r.1.length = c ∧ Stands p k (hl r.1) ∧ r.2 = k + (hl r.1).length ∧ Clh r.1)
  | 0, k, (l, k'), hk => by
    unfold hdq
    constructor
    · intro h
      injection h with h
      injection h with h1 h2
      subst h1 h2
      exact ⟨rfl, stands_nil hk, by simp [hl], by simp [Clh]⟩
    · rintro ⟨h1, h2, h3, h4⟩
      have := List.eq_nil_of_length_eq_zero h1
      simp only at this h3
      subst this h3
      simp
  | c + 1, k, (l, k'), hk => by
    unfold hdq
    rw [tq_step (F := fun d kk => if (oq MX p kk 0).2.2.2 ≠ 0 then .error (oq MX p kk 0).2.2.2 else pre [(d, (oq MX p kk 0).1, (oq MX p kk 0).2.1)] (hdq p c (oq MX p kk 0).2.2.1)) hk hs]
    constructor
    · rintro ⟨v, h1, h2⟩
      rw [oq_step (F := fun b d kk => pre [(v, b, d)] (hdq p c kk)) h1.le hs] at h2
      obtain ⟨b, d, h3, h4, h5⟩ := h2
      obtain ⟨m, h6, h7⟩ := pre_ok.1 h5
      obtain ⟨h8, h9, h10, h11⟩ := (hdq_iff hs (r := (m, k')) h3.le).1 h6
      simp only at h7 h8 h9 h10 h11 ⊢
      subst h7
      rw [List.singleton_append, hl_cons]
      refine ⟨by simp [h8], stands_app.2 ⟨h1, stands_app.2 ⟨h3, h9⟩⟩, ?_, ?_⟩
      · simp only [List.length_append]; omega
      · intro x hx
        rcases List.mem_cons.1 hx with rfl | hx
        · exact h4
        · exact h11 x hx
    · rintro ⟨h1, h2, h3, h4⟩
      simp only at h1 h2 h3 h4
      match l, h1 with
      | x :: m, h1 =>
        rw [hl_cons] at h2 h3
        obtain ⟨h5, h6⟩ := stands_app.1 h2
        obtain ⟨h7, h8⟩ := stands_app.1 h6
        refine ⟨x.1, h5, ?_⟩
        rw [oq_step (F := fun b d kk => pre [(x.1, b, d)] (hdq p c kk)) h5.le hs]
        refine ⟨x.2.1, x.2.2, h7, h4 x (by simp), ?_⟩
        rw [pre_ok]
        refine ⟨m, (hdq_iff hs (r := (m, k')) h7.le).2 ⟨by simpa using h1, h8, ?_, fun y hy => h4 y (by simp [hy])⟩, rfl⟩
        simp only [List.length_append] at h3 ⊢
        omega
def r7 (p : ByteArray) (t : Int) (kh : Bool) (kd : ByteArray) (vh : Bool) (vd : ByteArray) (c k : Nat) : Except Nat Rec := match hdq p c k with
  | .error e => .error e
  | .ok (hs, k') => if k' < p.size then .error 26 else .ok ⟨t, kh, kd, vh, vd, hs⟩
def r6 (p : ByteArray) (t : Int) (kh : Bool) (kd : ByteArray) (vh : Bool) (vd : ByteArray) (k : Nat) : Except Nat Rec := if (uq p k 0).2.2 ≠ 0 then .error (uq p k 0).2.2 else (fun c k => if 1024 < c then .error 5 else r7 p t kh kd vh vd c k) (uq p k 0).1 (uq p k 0).2.1
def r5 (p : ByteArray) (t : Int) (kh : Bool) (kd : ByteArray) (k : Nat) : Except Nat Rec := if (oq MX p k 0).2.2.2 ≠ 0 then .error (oq MX p k 0).2.2.2 else (fun b d k => r6 p t kh kd b d k) (oq MX p k 0).1 (oq MX p k 0).2.1 (oq MX p k 0).2.2.1
def r4 (p : ByteArray) (t : Int) (k : Nat) : Except Nat Rec := if (oq MX p k 0).2.2.2 ≠ 0 then .error (oq MX p k 0).2.2.2 else (fun b d k => r5 p t b d k) (oq MX p k 0).1 (oq MX p k 0).2.1 (oq MX p k 0).2.2.1
def r3 (p : ByteArray) (t : Int) (n k : Nat) : Except Nat Rec := if (uq p k 0).2.2 ≠ 0 then .error (uq p k 0).2.2 else (fun c k => if c ≠ n then .error 27 else r4 p t k) (uq p k 0).1 (uq p k 0).2.1
def r2 (p : ByteArray) (first : Int) (n k : Nat) : Except Nat Rec := if (vq p k 0).2.2 ≠ 0 then .error (vq p k 0).2.2 else (fun d k => if ¬ I64 (first + d) then .error 27 else r3 p (first + d) n k) (vq p k 0).1 (vq p k 0).2.1
/-- What is read of a form's own bytes. -/
def r1 (p : ByteArray) (first : Int) (n : Nat) : Except Nat Rec := if (fx 1 p 0 0).2.2 ≠ 0 then .error (fx 1 p 0 0).2.2 else (fun a k => if a ≠ 0 then .error 26 else r2 p first n k) (fx 1 p 0 0).1 (fx 1 p 0 0).2.1
theorem r7_iff {p : ByteArray} {t : Int} {kh vh : Bool} {kd vd : ByteArray} {c k : Nat} {r : Rec} (hs : p.size ≤ 9223372036854775807) (hk : k ≤ p.size) : r7 p t kh kd vh vd c k = .ok r ↔ (r.t = t ∧ r.kh = kh ∧ r.kd = kd ∧ r.vh = vh ∧ r.vd = vd) ∧ r.hs.length = c ∧ Clh r.hs ∧ Fin p k (hl r.hs) := by
  unfold r7
  constructor
  · intro h
    split at h
    · cases h
    · rename_i l k' he
      split at h
      · cases h
      · rename_i hn
        injection h with h
        subst h
        obtain ⟨h1, h2, h3, h4⟩ := (hdq_iff hs hk).1 he
        simp only at h1 h2 h3 h4
        exact ⟨⟨rfl, rfl, rfl, rfl, rfl⟩, h1, h4, h2, by show ¬ k + (hl l).length < p.size; omega⟩
  · rintro ⟨⟨rfl, rfl, rfl, rfl, rfl⟩, h1, h2, h3, h4⟩
    rw [(hdq_iff hs hk (r := (r.hs, k + (hl r.hs).length))).2 ⟨h1, h3, rfl, h2⟩]
    simp only
    rw [if_neg h4]
theorem r6_iff {p : ByteArray} {t : Int} {kh vh : Bool} {kd vd : ByteArray} {k : Nat} {r : Rec} (hs : p.size ≤ 9223372036854775807) (hk : k ≤ p.size) : r6 p t kh kd vh vd k = .ok r ↔ (r.t = t ∧ r.kh = kh ∧ r.kd = kd ∧ r.vh = vh ∧ r.vd = vd) ∧ r.hs.length ≤ 1024 ∧ Clh r.hs ∧ Fin p k (M.form r.hs.length ++ hl r.hs) := by
  unfold r6
  refine (uq_step (F := fun c k => if 1024 < c then .error 5 else r7 p t kh kd vh vd c k) hk).trans ?_
  constructor
  · rintro ⟨v, h1, h2, h3⟩
    split at h3
    · cases h3
    · obtain ⟨h4, h5, h6, h7⟩ := (r7_iff hs h2.le).1 h3
      subst h5
      exact ⟨h4, by omega, h6, fin_app.2 ⟨h2, h7⟩⟩
  · rintro ⟨h4, h5, h6, h7⟩
    obtain ⟨h8, h9⟩ := fin_app.1 h7
    refine ⟨_, by omega, h8, ?_⟩
    rw [if_neg (by omega)]
    exact (r7_iff hs h8.le).2 ⟨h4, rfl, h6, h9⟩
theorem r5_iff {p : ByteArray} {t : Int} {kh : Bool} {kd : ByteArray} {k : Nat} {r : Rec} (hs : p.size ≤ 9223372036854775807) (hk : k ≤ p.size) : r5 p t kh kd k = .ok r ↔ (r.t = t ∧ r.kh = kh ∧ r.kd = kd) ∧ Cl r.vh r.vd ∧ r.hs.length ≤ 1024 ∧ Clh r.hs ∧ Fin p k (ol r.vh r.vd ++ (M.form r.hs.length ++ hl r.hs)) := by
  unfold r5
  refine (oq_step (F := fun b d k => r6 p t kh kd b d k) hk hs).trans ?_
  constructor
  · rintro ⟨b, d, h1, h2, h3⟩
    obtain ⟨⟨h4, h5, h6, h7, h8⟩, h9, h10, h11⟩ := (r6_iff hs h1.le).1 h3
    subst h7 h8
    exact ⟨⟨h4, h5, h6⟩, h2, h9, h10, fin_app.2 ⟨h1, h11⟩⟩
  · rintro ⟨⟨h4, h5, h6⟩, h2, h9, h10, h11⟩
    obtain ⟨h7, h8⟩ := fin_app.1 h11
    exact ⟨_, _, h7, h2, (r6_iff hs h7.le).2 ⟨⟨h4, h5, h6, rfl, rfl⟩, h9, h10, h8⟩⟩
theorem r4_iff {p : ByteArray} {t : Int} {k : Nat} {r : Rec} (hs : p.size ≤ 9223372036854775807) (hk : k ≤ p.size) : r4 p t k = .ok r ↔ r.t = t ∧ Cl r.kh r.kd ∧ Cl r.vh r.vd ∧ r.hs.length ≤ 1024 ∧ Clh r.hs ∧ Fin p k (ol r.kh r.kd ++ (ol r.vh r.vd ++ (M.form r.hs.length ++ hl r.hs))) := by
  unfold r4
  refine (oq_step (F := fun b d k => r5 p t b d k) hk hs).trans ?_
  constructor
  · rintro ⟨b, d, h1, h2, h3⟩
    obtain ⟨⟨h4, h7, h8⟩, h9, h10, h12, h11⟩ := (r5_iff hs h1.le).1 h3
    subst h7 h8
    exact ⟨h4, h2, h9, h10, h12, fin_app.2 ⟨h1, h11⟩⟩
  · rintro ⟨h4, h2, h9, h10, h12, h11⟩
    obtain ⟨h7, h8⟩ := fin_app.1 h11
    exact ⟨_, _, h7, h2, (r5_iff hs h7.le).2 ⟨⟨h4, rfl, rfl⟩, h9, h10, h12, h8⟩⟩
theorem r3_iff {p : ByteArray} {t : Int} {n k : Nat} {r : Rec} (hs : p.size ≤ 9223372036854775807) (hk : k ≤ p.size) (hn : n < 18446744073709551616) : r3 p t n k = .ok r ↔ r.t = t ∧ Cl r.kh r.kd ∧ Cl r.vh r.vd ∧ r.hs.length ≤ 1024 ∧ Clh r.hs ∧ Fin p k (M.form n ++ (ol r.kh r.kd ++ (ol r.vh r.vd ++ (M.form r.hs.length ++ hl r.hs)))) := by
  unfold r3
  refine (uq_step (F := fun c k => if c ≠ n then .error 27 else r4 p t k) hk).trans ?_
  constructor
  · rintro ⟨v, h1, h2, h3⟩
    split at h3
    · cases h3
    · rename_i hv
      have hv' : v = n := by omega
      subst hv'
      obtain ⟨h4, h5, h6, h7, h8, h9⟩ := (r4_iff hs h2.le).1 h3
      exact ⟨h4, h5, h6, h7, h8, fin_app.2 ⟨h2, h9⟩⟩
  · rintro ⟨h4, h5, h6, h7, h8, h9⟩
    obtain ⟨h10, h11⟩ := fin_app.1 h9
    refine ⟨n, hn, h10, ?_⟩
    rw [if_neg (by simp)]
    exact (r4_iff hs h10.le).2 ⟨h4, h5, h6, h7, h8, h11⟩
/-- What a record that was read is like. -/
def Good (first : Int) (r : Rec) : Prop := I64 r.t ∧ I64 (r.t - first) ∧ Cl r.kh r.kd ∧ Cl r.vh r.vd ∧ r.hs.length ≤ 1024 ∧ Clh r.hs
theorem r1_iff {p : ByteArray} {first : Int} {n : Nat} {r : Rec} (hs : p.size ≤ 9223372036854775807) (hn : n < 18446744073709551616) : r1 p first n = .ok r ↔ bl p = own (r.t - first) n r ∧ Good first r := by
  unfold r1
  refine (fx_step (F := fun a k => if a ≠ 0 then .error 26 else r2 p first n k)).trans ?_
  constructor
  · rintro ⟨v, h1, h2⟩
    split at h2
    · cases h2
    · rename_i hv
      have hv' : v = 0 := by omega
      subst hv'
      unfold r2 at h2
      replace h2 := (vq_step (F := fun d k => if ¬ I64 (first + d) then .error 27 else r3 p (first + d) n k) h1.le).1 h2
      obtain ⟨d, h3, h4, h5⟩ := h2
      split at h5
      · cases h5
      · rename_i hi
        obtain ⟨h6, h7, h8, h9, h10, h11⟩ := (r3_iff hs h4.le hn).1 h5
        have hd : r.t - first = d := by omega
        refine ⟨?_, by rw [h6]; simpa using hi, by rw [hd]; exact h3, h7, h8, h9, h10⟩
        rw [← fin_whole]
        unfold own
        rw [hd]
        exact fin_app.2 ⟨h1, fin_app.2 ⟨h4, h11⟩⟩
  · rintro ⟨h1, h2, h3, h4, h5, h6, h7⟩
    rw [← fin_whole] at h1
    unfold own at h1
    obtain ⟨h8, h9⟩ := fin_app.1 h1
    obtain ⟨h10, h11⟩ := fin_app.1 h9
    refine ⟨0, h8, ?_⟩
    rw [if_neg (by simp)]
    have h8' : 0 + 1 ≤ p.size := h8.le
    have h10' : Stands p (0 + 1) (M.form (M.zz (r.t - first)).toNat) := h10
    have h11' : Fin p (0 + 1 + (M.form (M.zz (r.t - first)).toNat).length) (M.form n ++ (ol r.kh r.kd ++ (ol r.vh r.vd ++ (M.form r.hs.length ++ hl r.hs)))) := h11
    unfold r2
    refine (vq_step (k := 0 + 1) (F := fun d k => if ¬ I64 (first + d) then .error 27 else r3 p (first + d) n k) h8').2 ?_
    refine ⟨_, h3, h10', ?_⟩
    have e : first + (r.t - first) = r.t := by omega
    rw [e, if_neg (by simpa using h2)]
    exact (r3_iff hs h10'.le hn).2 ⟨rfl, h4, h5, h6, h7, h11'⟩
def nx2 (s : ByteArray) (k : Nat) (first : Int) (n L k1 : Nat) : Except Nat (Rec × Nat) := if s.size < k1 + L then .error 21 else match r1 (s.extract k1 (k1 + L)) first n with
  | .error e => .error e
  | .ok r => if 16777216 < k1 + L - k then .error 66 else .ok (r, k1 + L)
/-- What is read of s from k on as record number n: the record, and where the next begins. -/
def nxt (s : ByteArray) (k : Nat) (first : Int) (n : Nat) : Except Nat (Rec × Nat) := if (uq s k 0).2.2 ≠ 0 then .error (uq s k 0).2.2 else nx2 s k first n (uq s k 0).1 (uq s k 0).2.1
theorem nxt_iff {s : ByteArray} {k : Nat} {first : Int} {n : Nat} {r : Rec} {k' : Nat} (hs : s.size ≤ 9223372036854775807) (hk : k ≤ s.size) (hn : n < 18446744073709551616) : nxt s k first n = .ok (r, k') ↔ Stands s k (fm (r.t - first) n r) ∧ k' = k + (fm (r.t - first) n r).length ∧ Good first r ∧ (fm (r.t - first) n r).length ≤ 16777216 := by
  unfold nxt
  refine (uq_step (F := nx2 s k first n) hk).trans ?_
  constructor
  · rintro ⟨L, h1, h2, h3⟩
    unfold nx2 at h3
    split at h3
    · cases h3
    · rename_i hL
      split at h3
      · cases h3
      · rename_i r' he
        split at h3
        · cases h3
        · rename_i hb
          injection h3 with h3
          injection h3 with h4 h5
          subst h4
          have hz : (s.extract (k + (M.form L).length) (k + (M.form L).length + L)).size = L := by rw [ByteArray.size_extract]; omega
          obtain ⟨h6, h7⟩ := (r1_iff (by omega) hn).1 he
          have hst := stands_ext s (k + (M.form L).length) L (by omega)
          have hl : (own (r'.t - first) n r').length = L := by rw [← h6, bl_len, hz]
          rw [h6] at hst
          unfold fm
          rw [hl]
          refine ⟨stands_app.2 ⟨h2, hst⟩, ?_, h7, ?_⟩
          · rw [List.length_append, hl]; omega
          · rw [List.length_append, hl]; omega
  · rintro ⟨h1, h2, h3, h4⟩
    have h1' := h1
    unfold fm at h1 h2 h4
    obtain ⟨h5, h6⟩ := stands_app.1 h1
    rw [List.length_append] at h2 h4
    have h7 := h6.1
    refine ⟨_, by omega, h5, ?_⟩
    unfold nx2
    rw [if_neg (by omega)]
    have hz : (s.extract (k + (M.form (own (r.t - first) n r).length).length) (k + (M.form (own (r.t - first) n r).length).length + (own (r.t - first) n r).length)).size = (own (r.t - first) n r).length := by rw [ByteArray.size_extract]; omega
    have hx : bl (s.extract (k + (M.form (own (r.t - first) n r).length).length) (k + (M.form (own (r.t - first) n r).length).length + (own (r.t - first) n r).length)) = own (r.t - first) n r := by
      rw [bl_ext, Nat.add_sub_cancel_left]
      exact h6.2
    rw [(r1_iff (by rw [hz]; omega) hn).2 ⟨hx, h3⟩]
    simp only
    rw [if_neg (by omega), h2, Nat.add_assoc]
end Go.Proofs.YtpfaioncaolmjaaGreat
