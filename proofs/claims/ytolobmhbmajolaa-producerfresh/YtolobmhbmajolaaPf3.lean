/- Batches; what Note answers of any head. -/
import Derived.Test.YtolobmhbmajolaaPf2
namespace Go.Proofs.Ytolobmhbmajolaa
open Go.RowKit
set_option maxHeartbeats 1000000 in
theorem batches_any (b : Nat) (m : Option Nat) (fs : List Tl) (id : Int) (h0 : -9223372036854775808 ≤ id) (h1 : id < 9223372036854775808) (w : World) (h : Bk w b m fs) :
    Calls Try.prog 22 #[.pointer (some ⟨b, 0, none⟩), .int .i64 id] w fun e w' => ∃ v, e = .returned v ∧ Oh w v ((fv fs id).map (hdOf id)) w' := by
  have HT := Hid.mk (btail_any b m fs id h0 h1 w h)
  cases hl : look id fs with
  | none =>
    rw [hl] at HT
    simp only [bkOf] at HT
    rw [fv_no hl]
    clear h hl
    go_enter Try.func22, Try.ntmps22
    go_wp2_with (go_at_call 36; refine HT.out.mono ?_; rintro e w' ⟨rfl, rfl⟩)
    go_ret
    exact ⟨_, rfl, Below.refl _ _, OwH.nil _ _⟩
  | some f =>
    obtain ⟨hf, hid⟩ := look_mem hl
    obtain ⟨hne, hok, _⟩ := h.ok f hf
    have HH := Hid.mk (heads_any f.bk f.ns id hok w (h.til f hf))
    rw [hl] at HT
    simp only [bkOf] at HT
    rw [fv_of hl]
    generalize f.bk = B at *
    clear h hl hf hok hne
    go_enter Try.func22, Try.ntmps22
    go_wp2_with (first | (go_at_call 36; refine HT.out.mono ?_; rintro e w' ⟨rfl, rfl⟩) | (go_at_call 43; refine HH.out.mono ?_; rintro e w' ⟨v, rfl, ho⟩; have HO := Hid.mk ho; clear ho))
    go_ret
    exact ⟨_, rfl, HO.out⟩
theorem Bo.batches {w : World} {H b k : Nat} {F : Int → List Nt} {y : World} (h : Bo w H b F k y) (id : Int) (h0 : -9223372036854775808 ≤ id) (h1 : id < 9223372036854775808) :
    Calls Try.prog 22 #[.pointer (some ⟨b, 0, none⟩), .int .i64 id] y fun e w' => ∃ v, e = .returned v ∧ Oh y v ((F id).map (hdOf id)) w' := by
  obtain ⟨m, fs, hb, hF, _⟩ := h.bk
  rw [← hF id]
  exact batches_any b m fs id h0 h1 y hb
/-- What Note answers, and what it makes of a book. -/
def noteE (x : Hd) : Int := if goodB x.b x.c x.p x.s = true then 0 else 1
def noteF (F : Int → List Nt) (x : Hd) : Int → List Nt := if goodB x.b x.c x.p x.s = true ∧ x.p ≠ -1 then kpF' F x.p ⟨x.b, x.c, x.s⟩ else F
abbrev hdA (x : Hd) : Value := hdV x.b x.l x.pk x.c x.f x.g x.p x.s
structure HdOk (x : Hd) : Prop where
  p0 : -9223372036854775808 ≤ x.p
  p1 : x.p < 9223372036854775808
  s0 : -2147483648 ≤ x.s
  s1 : x.s < 2147483648
  c0 : -9223372036854775808 ≤ x.c
  c1 : x.c < 9223372036854775808
  b0 : -9223372036854775808 ≤ x.b
  b1 : x.b < 9223372036854775808
theorem good_p {base cnt p s : Int} (h : goodB base cnt p s = true) (hp : p ≠ -1) : 0 ≤ p := by
  unfold goodB sndB at h
  rw [if_neg hp] at h
  simp only [Bool.and_eq_true, decide_eq_true_eq] at h
  exact h.1.1.1.1.1
theorem Bo.noteAny {w : World} {H b k : Nat} {F : Int → List Nt} {y : World} (h : Bo w H b F k y) (x : Hd) (hx : HdOk x) (hk : k < 4611686018427387904) :
    Calls Try.prog 20 #[.pointer (some ⟨b, 0, none⟩), hdA x] y fun e w' => e = .returned (.int .i64 (noteE x)) ∧ Bo w H b (noteF F x) (k + 1) w' ∧ Ch (fun i => H ≤ i) y w' := by
  have up : ∀ {G : Int → List Nt} {z : World}, Bo w H b G k z → Bo w H b G (k + 1) z := fun {G z} hb => by
    obtain ⟨⟨m, fs, e1, e2, e3, e4⟩, e5, e6⟩ := hb
    exact ⟨⟨m, fs, e1, e2, by omega, e4⟩, e5, e6⟩
  by_cases hg : goodB x.b x.c x.p x.s = true
  · by_cases hp : x.p = -1
    · have e1 : noteE x = 0 := by unfold noteE; rw [if_pos hg]
      have e2 : noteF F x = F := by unfold noteF; rw [if_neg (fun h => h.2 hp)]
      rw [e1, e2]
      exact (note_none b x.b x.l x.pk x.c x.f x.g x.p x.s hg hp y).mono fun e w' hh => ⟨hh.1, up (h.call hh.2), Ch.of_below hh.2⟩
    · have e1 : noteE x = 0 := by unfold noteE; rw [if_pos hg]
      have e2 : noteF F x = kpF' F x.p ⟨x.b, x.c, x.s⟩ := by unfold noteF; rw [if_pos ⟨hg, hp⟩]
      rw [e1, e2]
      exact h.note x.b x.l x.pk x.c x.f x.g x.p x.s hg hx.s1 (good_p hg hp) hx.p1 hk
  · have e1 : noteE x = 1 := by unfold noteE; rw [if_neg hg]
    have e2 : noteF F x = F := by unfold noteF; rw [if_neg (fun h => hg h.1)]
    rw [e1, e2]
    exact (note_bad _ x.b x.l x.pk x.c x.f x.g x.p x.s (by simpa using hg) y).mono fun e w' hh => ⟨hh.1, up (h.call hh.2), Ch.of_below hh.2⟩
end Go.Proofs.Ytolobmhbmajolaa
