/- Records, their body, and records again: plain facts. -/
import Derived.Test.YtoohmbkgdmmghaaRbe
import Derived.Test.YtoohmbkgdmmghaaCan5
import Derived.Test.YtoohmbkgdmmghaaSpl5
namespace Go.Proofs.Ytoohmbkgdmmghaa
open Go.RowKit
theorem fm_byte (d : Int) (n : Nat) (r : Rec) (hd : I64 d) (hn : n < 65536) (hh : r.hs.length ≤ 1024) (hm : Mod r) : ∀ b ∈ fm d n r, b < 256 := by
  intro b hb
  have ho := own_le d n r hm
  unfold fm at hb
  rcases List.mem_append.1 hb with hb | hb
  · exact M.form_byte (by omega) b hb
  · exact own_byte d n r hd (by omega) (by omega) hm b hb
theorem bdy_byte (first : Int) : ∀ (l : List Rec) (n : Nat), n + l.length ≤ 65536 → (∀ i x, l[i]? = some x → sze x first ((n + i : Nat) : Int) = 0 ∧ Mod x) → ∀ b ∈ bdy first n l, b < 256
  | [], n, _, _ => fun b hb => by simp [bdy] at hb
  | r :: l, n, hl, h => fun b hb => by
    rw [bdy] at hb
    rw [List.length_cons] at hl
    rcases List.mem_append.1 hb with hb | hb
    · obtain ⟨h1, h2⟩ := h 0 r rfl
      obtain ⟨_, h3, h4, _⟩ := sze_ok h1
      exact fm_byte _ n r h3 (by omega) h4 h2 b hb
    · refine bdy_byte first l (n + 1) (by omega) (fun i x hx => ?_) b hb
      have := h (i + 1) x (by simpa using hx)
      rw [show n + 1 + i = n + (i + 1) by omega]
      exact this
theorem cln_good {r : Rec} {first : Int} {N : Nat} (ht : I64 r.t) (hz : sze r first N = 0) : Good first (cln r) := by
  obtain ⟨_, hi, hh, _⟩ := sze_ok hz
  refine ⟨ht, hi, cl_bd _ _, cl_bd _ _, by show (List.map _ _).length ≤ 1024; rw [List.length_map]; exact hh, ?_⟩
  intro x hx
  simp only [cln, List.mem_map] at hx
  obtain ⟨y, _, rfl⟩ := hx
  exact cl_bd _ _
theorem run_back {S : ByteArray} {l : List RI} (hT : ∀ x ∈ l, I64 x.r.t) (hL : l.length ≤ 65536) (hS : bl S = bdy (l.getD 0 dri).r.t 0 (l.map RI.r)) (hz : ∀ i, i < l.length → sze (l.getD i dri).r (l.getD 0 dri).r.t i = 0) (hs : S.size ≤ 9223372036854775807) : ∀ j, j ≤ l.length → run S (l.getD 0 dri).r.t j = .ok (((l.take j).map RI.r).map cln, (bdy (l.getD 0 dri).r.t 0 ((l.take j).map RI.r)).length)
  | 0, _ => rfl
  | j + 1, hj => by
    have ih := run_back hT hL hS hz hs j (by omega)
    have h0 := hz j (by omega)
    have hle := (sze_ok h0).2.2.2
    rw [Int.toNat_natCast] at hle
    have hst : Stands S 0 (bdy (l.getD 0 dri).r.t 0 (l.map RI.r)) := (stands_whole.2 hS).1
    rw [← List.take_append_drop (j + 1) l, List.map_append, bdy_app, stands_app] at hst
    have hst := hst.1
    rw [List.take_append_drop, bdy_take _ (by omega), stands_app, Nat.zero_add] at hst
    have hk : (bdy (l.getD 0 dri).r.t 0 ((l.take j).map RI.r)).length ≤ S.size := by have := hst.1.1; omega
    have hn : nxt S (bdy (l.getD 0 dri).r.t 0 ((l.take j).map RI.r)).length (l.getD 0 dri).r.t j = .ok (cln (l.getD j dri).r, (bdy (l.getD 0 dri).r.t 0 ((l.take j).map RI.r)).length + (fm ((l.getD j dri).r.t - (l.getD 0 dri).r.t) j (l.getD j dri).r).length) := by
      refine (nxt_iff hs hk (by omega)).2 ?_
      have ec : (cln (l.getD j dri).r).t = (l.getD j dri).r.t := rfl
      rw [ec, fm_cln]
      exact ⟨hst.2, rfl, cln_good (hT _ (riD_mem (by omega))) h0, hle⟩
    rw [run_next ih, hn]
    dsimp only
    have ht : ¬ (j = 0 ∧ (cln (l.getD j dri).r).t ≠ (l.getD 0 dri).r.t) := by
      rintro ⟨rfl, h⟩
      exact h rfl
    rw [if_neg ht, take_getD (by omega), List.map_append, List.map_append, show List.map RI.r [l.getD j dri] = [(l.getD j dri).r] from rfl, bdy_snoc, List.length_append, List.length_map, List.length_take, Nat.min_eq_left (by omega)]
    rfl
theorem body_back {l : List RI} {S : ByteArray} (hT : ∀ x ∈ l, I64 x.r.t) (hM : ∀ x ∈ l, Mod x.r) (h : BodyP l 0 S) : (1 ≤ l.length ∧ l.length ≤ 65536) ∧ S.size ≤ 16777216 ∧ (∀ i, i < l.length → sze (l.getD i dri).r (l.getD 0 dri).r.t i = 0) ∧ bl S = bdy (l.getD 0 dri).r.t 0 (l.map RI.r) ∧ rbd S (l.getD 0 dri).r.t l.length = .ok ((l.map RI.r).map cln) ∧ ∃ x, rbd S (l.getD 0 dri).r.t (l.length + 1 : Nat) = .error x := by
  obtain ⟨hE, _, hS⟩ := h
  have hS := hS rfl
  rcases hE with ⟨_, h⟩ | ⟨hL, hF⟩
  · cases h
  obtain ⟨hz, hlen⟩ := (fit_zero hF).1 rfl
  have hby : ∀ b ∈ bdy (l.getD 0 dri).r.t 0 (l.map RI.r), b < 256 := by
    refine bdy_byte _ _ 0 (by rw [List.length_map]; omega) (fun i x hx => ?_)
    rw [List.getElem?_map] at hx
    cases hi : l[i]? with
    | none => rw [hi] at hx; cases hx
    | some y =>
      rw [hi] at hx
      injection hx with hx
      subst hx
      have hil : i < l.length := (List.getElem?_eq_some_iff.1 hi).1
      have ey : l.getD i dri = y := by rw [List.getD_eq_getElem?_getD, hi]; rfl
      have := hz i hil
      rw [ey] at this
      rw [Nat.zero_add]
      exact ⟨this, hM y (List.mem_of_getElem? hi)⟩
  have hbl : bl S = bdy (l.getD 0 dri).r.t 0 (l.map RI.r) := by rw [hS, bl_bs _ hby]
  have hsz : S.size = (bdy (l.getD 0 dri).r.t 0 (l.map RI.r)).length := by rw [← hbl, bl_len]
  have hr := run_back hT hL.2 hbl hz (by omega) l.length (Nat.le_refl _)
  rw [List.take_length, ← hsz] at hr
  refine ⟨hL, by omega, hz, hbl, ?_, ?_⟩
  · unfold rbd
    rw [if_neg (by omega), if_neg (by omega), Int.toNat_natCast, hr]
    dsimp only
    rw [if_neg (by omega)]
  · by_cases h65 : l.length + 1 ≤ 65536
    · cases hn : nxt S S.size (l.getD 0 dri).r.t l.length with
      | error x =>
        refine ⟨x, rbd_err (by omega) (by omega) (Nat.le_refl _) ?_⟩
        rw [run_next hr, hn]
      | ok y =>
        obtain ⟨r, k'⟩ := y
        obtain ⟨h1, _⟩ := (nxt_iff (by omega) (Nat.le_refl _) (by omega)).1 hn
        have h2 := h1.1
        have h3 := (fm_len (r.t - (l.getD 0 dri).r.t) l.length r).2
        omega
    · exact ⟨28, by unfold rbd; rw [if_pos (by omega)]⟩
theorem body_again {s : ByteArray} {first count : Int} {l : List RI} (h : rbd s first count = .ok (l.map RI.r)) : (∀ x ∈ l, I64 x.r.t ∧ Mod x.r) ∧ (l.length : Int) = count ∧ 0 < l.length ∧ (l.getD 0 dri).r.t = first ∧ s.size ≤ 16777216 ∧ ∀ E S, BodyP l E S → E = 0 ∧ S = s := by
  unfold rbd at h
  by_cases hc : ¬ (1 ≤ count ∧ count ≤ 65536)
  · rw [if_pos hc] at h; cases h
  rw [if_neg hc] at h
  by_cases hs : 16777216 < s.size
  · rw [if_pos hs] at h; cases h
  rw [if_neg hs] at h
  cases hr : run s first count.toNat with
  | error e => rw [hr] at h; cases h
  | ok y =>
    obtain ⟨m, k⟩ := y
    rw [hr] at h
    dsimp only at h
    by_cases hk : k < s.size
    · rw [if_pos hk] at h; cases h
    rw [if_neg hk] at h
    injection h with h
    subst h
    have R := run_ran (by omega) (by omega) hr
    have hlen : l.length = count.toNat := by have := R.len; rw [List.length_map] at this; exact this
    have hget : ∀ i, i < l.length → (l.map RI.r)[i]? = some (l.getD i dri).r := fun i hi => by
      rw [List.getElem?_map, List.getD_eq_getElem?_getD, List.getElem?_eq_getElem hi]; rfl
    have hgood : ∀ i, i < l.length → Good first (l.getD i dri).r ∧ (fm ((l.getD i dri).r.t - first) i (l.getD i dri).r).length ≤ 16777216 := fun i hi => ⟨R.good _ (List.mem_of_getElem? (hget i hi)), R.fit i _ (hget i hi)⟩
    have hone := R.one _ (hget 0 (by omega))
    have hbl : bl s = bdy first 0 (l.map RI.r) := stands_whole.1 ⟨R.st, by have := R.k; omega⟩
    refine ⟨fun x hx => ?_, by omega, by omega, hone, by omega, fun E S hP => ?_⟩
    · obtain ⟨i, hi⟩ := List.getElem?_of_mem hx
      have hil : i < l.length := (List.getElem?_eq_some_iff.1 hi).1
      have ey : l.getD i dri = x := by rw [List.getD_eq_getElem?_getD, hi]; rfl
      have := hgood i hil
      rw [ey] at this
      exact ⟨this.1.1, good_mod this.1 this.2⟩
    · obtain ⟨hE, _, hS⟩ := hP
      unfold BodyE at hE
      rw [hone] at hE hS
      have hE0 : E = 0 := by
        rcases hE with ⟨h, _⟩ | ⟨_, hF⟩
        · exact absurd (show 1 ≤ l.length ∧ l.length ≤ 65536 by omega) h
        · refine (fit_zero hF).2 ⟨fun i hi => ?_, by rw [← hbl, bl_len]; omega⟩
          obtain ⟨⟨g1, g2, _, _, g5, _⟩, g7⟩ := hgood i hi
          unfold sze
          rw [if_neg (by omega), if_neg (by simpa using g2), if_neg (by omega), Int.toNat_natCast, if_neg (by omega)]
      exact ⟨hE0, by rw [hS hE0, ← hbl, bs_bl]⟩
theorem bs_cat (l m : List Nat) : bs (l ++ m) = bs l ++ bs m := by
  unfold bs
  apply ByteArray.ext
  rw [ByteArray.data_append]
  simp
theorem same_cln (r : Rec) (a a2 : Option Addr) (cap cap2 : Nat) (w : World) (V1 : Hds w a2 (cln r).hs) (V2 : Hds w a r.hs) (hz : r.hs.length ≤ 9223372036854775807) :
    Calls Try.prog 6 #[recV (cln r) a2 cap2, recV r a cap] w fun e w' => e = .returned (.bool true) ∧ Below w.heap.size w w' := by
  have e : (cln r).hs.length = r.hs.length := List.length_map _
  have h := same_yes r.t r.kh r.vh (bd r.kh r.kd) r.kd (bd r.vh r.vd) r.vd (cln r).hs r.hs a2 a cap2 cap w V1 V2 (by omega) (bd_bd _ _).symm (bd_bd _ _).symm e.symm (fun j hj => by
    have hj' : j < r.hs.length := by omega
    have e1 : (cln r).hs.getD j df = ((r.hs.getD j df).1, (r.hs.getD j df).2.1, bd (r.hs.getD j df).2.1 (r.hs.getD j df).2.2) := by
      show (List.map _ _).getD j df = _
      rw [List.getD_eq_getElem?_getD, List.getElem?_map, List.getElem?_eq_getElem hj', List.getD_eq_getElem?_getD, List.getElem?_eq_getElem hj']
      rfl
    rw [e1]
    exact ⟨rfl, rfl, (bd_bd _ _).symm⟩)
  unfold recV
  rw [e] at h ⊢
  exact h
end Go.Proofs.Ytoohmbkgdmmghaa
