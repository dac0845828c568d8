/- Texts of the proof, put together: Bdt, Bfx, Bka, Bkw, Bkx. -/
import Derived.Test.YtihokphamgkkcaaGreatMB5
import Derived.Test.YtihokphamgkkcaaGreatMB6
import Derived.Test.YtihokphamgkkcaaGreatMRf
import Derived.Test.YtihokphamgkkcaaGreatMB7
import Derived.Deep.RegionHeld3
import Derived.Deep.QuietTactic
import Derived.BigQuiet
namespace Go.Proofs.YtihokphamgkkcaaGreat
open Go.RowKit
theorem sto_det {b : Bt} {E E' : Nat} {T T' : ByteArray} (h : StoP b E T) (h' : StoP b E' T') (hd : ∀ E E' S S', BodyP b.l E S → BodyP b.l E' S' → E = E') : E = 0 → E' = 0 ∧ T' = T := by
  intro hE
  subst hE
  obtain ⟨r0, S, q1, q2, q3⟩ := sto_ok h
  cases h' with
  | head h => exact absurd r0 h
  | body E h1 h2 h3 => exact absurd (hd _ _ _ _ h3 q1) h2
  | big S' h1 h2 h3 =>
    have e : S' = S := by rw [h2.2.2 rfl, q1.2.2 rfl]
    subst e
    rw [← q2] at h3
    omega
  | ok S' h1 h2 h3 =>
    have e : S' = S := by rw [h2.2.2 rfl, q1.2.2 rfl]
    subst e
    exact ⟨rfl, q2.symm⟩
theorem body_det {l : List RI} {E E' : Nat} {S S' : ByteArray} (h : BodyP l E S) (h' : BodyP l E' S') : E = E' := by
  rcases h.1 with ⟨a1, a2⟩ | ⟨a1, a2⟩
  · rcases h'.1 with ⟨b1, b2⟩ | ⟨b1, b2⟩
    · rw [a2, b2]
    · exact absurd b1 a1
  · rcases h'.1 with ⟨b1, b2⟩ | ⟨b1, b2⟩
    · exact absurd a1 b1
    · unfold FitE at a2 b2
      rcases a2 with ⟨j, c1, c2, c3, c4⟩ | ⟨c1, c2⟩
      · rcases b2 with ⟨k, d1, d2, d3, d4⟩ | ⟨d1, d2⟩
        · have : j = k := by
            rcases Nat.lt_trichotomy j k with h | h | h
            · exact absurd (d2 j h) c3
            · exact h
            · exact absurd (c2 k h) d3
          subst this
          rw [c4, d4]
        · exact absurd (d1 j c1) c3
      · rcases b2 with ⟨k, d1, d2, d3, d4⟩ | ⟨d1, d2⟩
        · exact absurd (c1 k d1) d3
        · rw [c2, d2]
theorem sto_same {b : Bt} {E E' : Nat} {T T' : ByteArray} (h : StoP b E T) (h' : StoP b E' T') : E = E' := by
  cases h with
  | head h1 =>
    cases h' with
    | head _ => rfl
    | body _ h2 _ _ => exact absurd h2 h1
    | big _ h2 _ _ => exact absurd h2 h1
    | ok _ h2 _ _ => exact absurd h2 h1
  | body E h1 h2 h3 =>
    cases h' with
    | head h => exact absurd h1 h
    | body E' _ _ h6 => exact body_det h3 h6
    | big S _ h6 _ => exact absurd (body_det h3 h6) h2
    | ok S _ h6 _ => exact absurd (body_det h3 h6) h2
  | big S h1 h2 h3 =>
    cases h' with
    | head h => exact absurd h1 h
    | body E' _ h5 h6 => exact absurd (body_det h6 h2) h5
    | big S' _ _ _ => rfl
    | ok S' _ h6 h7 =>
      have e : S' = S := by rw [h6.2.2 rfl, h2.2.2 rfl]
      subst e
      omega
  | ok S h1 h2 h3 =>
    cases h' with
    | head h => exact absurd h1 h
    | body E' _ h5 h6 => exact absurd (body_det h6 h2) h5
    | big S' _ h6 h7 =>
      have e : S' = S := by rw [h6.2.2 rfl, h2.2.2 rfl]
      subst e
      omega
    | ok S' _ _ _ => rfl
theorem body_some {l : List RI} : ∃ E S, BodyP l E S := by
  by_cases h : 1 ≤ l.length ∧ l.length ≤ 65536
  · by_cases hz : ∀ i, i < l.length → sze (l.getD i dri).r (l.getD 0 dri).r.t i = 0
    · by_cases hb : 16777216 < (bdy (l.getD 0 dri).r.t 0 (l.map RI.r)).length
      · exact ⟨66, ⟨#[]⟩, Or.inr ⟨h, Or.inr ⟨hz, by rw [if_pos hb]⟩⟩, fun _ => rfl, fun h => by cases h⟩
      · exact ⟨0, _, Or.inr ⟨h, Or.inr ⟨hz, by rw [if_neg hb]⟩⟩, fun h => absurd rfl h, fun _ => rfl⟩
    · have hex : ∃ j, j < l.length ∧ sze (l.getD j dri).r (l.getD 0 dri).r.t j ≠ 0 := Classical.byContradiction fun hn => hz fun i hi => Classical.byContradiction fun hh => hn ⟨i, hi, hh⟩
      have hmin : ∃ j, (j < l.length ∧ sze (l.getD j dri).r (l.getD 0 dri).r.t j ≠ 0) ∧ ∀ i, i < j → sze (l.getD i dri).r (l.getD 0 dri).r.t i = 0 := by
        obtain ⟨j, hj⟩ := hex
        induction j using Nat.strongRecOn with
        | ind j ih =>
          by_cases hall : ∀ i, i < j → sze (l.getD i dri).r (l.getD 0 dri).r.t i = 0
          · exact ⟨j, hj, hall⟩
          · have : ∃ i, i < j ∧ sze (l.getD i dri).r (l.getD 0 dri).r.t i ≠ 0 := Classical.byContradiction fun hn => hall fun i hi => Classical.byContradiction fun hh => hn ⟨i, hi, hh⟩
            obtain ⟨i, h1, h2⟩ := this
            exact ih i h1 ⟨by omega, h2⟩
      obtain ⟨j, ⟨h1, h2⟩, h3⟩ := hmin
      exact ⟨_, ⟨#[]⟩, Or.inr ⟨h, Or.inl ⟨j, h1, h3, h2, rfl⟩⟩, fun _ => rfl, fun h => absurd h h2⟩
  · exact ⟨28, ⟨#[]⟩, Or.inl ⟨h, rfl⟩, fun _ => rfl, fun h => by cases h⟩
theorem sto_some {b : Bt} (hn : ∀ T, ¬ StoP b 0 T) : ∃ E, E ≠ 0 ∧ StoP b E ⟨#[]⟩ := by
  by_cases h0 : rfh b = 0
  · obtain ⟨E, S, h⟩ := body_some (l := b.l)
    by_cases hE : E = 0
    · subst hE
      by_cases hs : (sto b S).size ≤ 16777165
      · exact absurd (StoP.ok S h0 h hs) (hn _)
      · exact ⟨66, by decide, StoP.big S h0 h (by omega)⟩
    · exact ⟨E, hE, StoP.body E h0 hE (by have := h.2.1 hE; rwa [this] at h)⟩
  · exact ⟨_, h0, StoP.head h0⟩
end Go.Proofs.YtihokphamgkkcaaGreat
namespace Go.Proofs.YtihokphamgkkcaaGreat
open Go.RowKit
theorem nb_be6 : ∀ (n : Nat) (l : List Nat), l.length = n → (∀ b ∈ l, b < 256) → nb n (be l) = l
  | 0, l, h, _ => by rw [List.eq_nil_of_length_eq_zero h]; rfl
  | n + 1, l, h, hb => by
    rcases List.eq_nil_or_concat l with rfl | ⟨l', b, rfl⟩
    · simp at h
    · have h' : l'.length = n := by simpa using h
      have hb1 := hb b (by simp)
      rw [List.concat_eq_append] at hb ⊢
      rw [be_snoc, nb]
      have e1 : (be l' * 256 + b) / 256 = be l' := by omega
      have e2 : (be l' * 256 + b) % 256 = b := by omega
      rw [e1, e2, nb_be6 n l' h' (fun c hc => hb c (by simp [hc]))]
theorem nb_num {s : ByteArray} {k n : Nat} (h : k + n ≤ s.size) : nb n (num s k n) = ((bl s).drop k).take n := by
  unfold num
  rw [nb_be6 n _ (by rw [bl_len, ByteArray.size_extract]; omega) (bl_byte _), bl_ext, show k + n - k = n by omega]
theorem u64_wrap {v : Nat} (h : v < 18446744073709551616) : u64 (wrap64 (v : Int)) = v := by unfold u64 wrap64; omega
theorem u32_wrap {v : Nat} (h : v < 4294967296) : u32 (wrap32 (v : Int)) = v := by unfold u32 wrap32; omega
theorem take_more {l : List Nat} (k n : Nat) : l.take k ++ (l.drop k).take n = l.take (k + n) := by rw [← List.take_add]
/-- A head is its numbers' bytes. -/
theorem head_bytes {s : ByteArray} (h : 51 ≤ s.size) : usm (fsOf s) ++ smd (fsOf s) = (bl s).take 51 := by
  unfold usm smd fsOf
  dsimp only
  rw [u64_wrap (num_lt8 (by omega)), u64_wrap (num_lt8 (by omega)), u64_wrap (num_lt8 (by omega)), u64_wrap (num_lt8 (by omega)), u32_wrap (num_lt4 (by omega))]
  rw [nb_num (by omega), nb_num (by omega), nb_num (by omega), nb_num (by omega), nb_num (by omega), nb_num (by omega), nb_num (by omega), nb_num (by omega), nb_num (by omega), nb_num (by omega)]
  rw [List.drop_zero, ← List.append_assoc, ← List.append_assoc, ← List.append_assoc, ← List.append_assoc, ← List.append_assoc, take_more, take_more, take_more, take_more, take_more, take_more, take_more, take_more, take_more]
/-- What is known of a frame that is taken. -/
structure Tkn (s : ByteArray) (f : Fs) (L : List Rec) (b : ByteArray) : Prop where
  fs : f = fsOf s
  r : Right f
  ok : FsOk f
  n : 12 + f.len ≤ s.size
  sum : crcOf (s.extract 17 (12 + f.len)) = f.sum
  rb : rbd b f.first f.cnt = .ok L
  gr : gr L = f.grt
  bz : b.size ≤ 16777216
theorem ite_pos {α : Type} {x e : Nat} {F : Except Nat α} (h : (if x ≠ 0 then .error x else F) = .error e) : e ≠ 0 ∨ F = .error e := by
  by_cases hx : x ≠ 0
  · rw [if_pos hx] at h
    injection h with h
    exact Or.inl (h ▸ hx)
  · rw [if_neg hx] at h
    exact Or.inr h
theorem pre_err {l : List Hdr} {x : Except Nat (List Hdr × Nat)} {e : Nat} (h : pre l x = .error e) : x = .error e := by
  cases x with
  | error y => exact h
  | ok y => obtain ⟨a, b⟩ := y; cases h
theorem hdq_pos {p : ByteArray} : ∀ {c k e : Nat}, hdq p c k = .error e → e ≠ 0
  | 0, k, e, h => by unfold hdq at h; cases h
  | c + 1, k, e, h => by
    unfold hdq at h
    rcases ite_pos h with h | h
    · exact h
    · rcases ite_pos h with h | h
      · exact h
      · exact hdq_pos (pre_err h)
theorem r7_pos {p : ByteArray} {t : Int} {kh vh : Bool} {kd vd : ByteArray} {c k e : Nat} (h : r7 p t kh kd vh vd c k = .error e) : e ≠ 0 := by
  unfold r7 at h
  split at h
  · rename_i hh; injection h with h; subst h; exact hdq_pos hh
  · split at h
    · injection h with h; omega
    · cases h
theorem r6_pos {p : ByteArray} {t : Int} {kh vh : Bool} {kd vd : ByteArray} {k e : Nat} (h : r6 p t kh kd vh vd k = .error e) : e ≠ 0 := by
  unfold r6 at h
  rcases ite_pos h with h | h
  · exact h
  · dsimp only at h
    split at h
    · injection h with h; omega
    · exact r7_pos h
theorem r5_pos {p : ByteArray} {t : Int} {kh : Bool} {kd : ByteArray} {k e : Nat} (h : r5 p t kh kd k = .error e) : e ≠ 0 := by
  unfold r5 at h
  rcases ite_pos h with h | h
  · exact h
  · exact r6_pos h
theorem r4_pos {p : ByteArray} {t : Int} {k e : Nat} (h : r4 p t k = .error e) : e ≠ 0 := by
  unfold r4 at h
  rcases ite_pos h with h | h
  · exact h
  · exact r5_pos h
theorem r3_pos {p : ByteArray} {t : Int} {n k e : Nat} (h : r3 p t n k = .error e) : e ≠ 0 := by
  unfold r3 at h
  rcases ite_pos h with h | h
  · exact h
  · dsimp only at h
    split at h
    · injection h with h; omega
    · exact r4_pos h
theorem r2_pos {p : ByteArray} {first : Int} {n k e : Nat} (h : r2 p first n k = .error e) : e ≠ 0 := by
  unfold r2 at h
  rcases ite_pos h with h | h
  · exact h
  · dsimp only at h
    split at h
    · injection h with h; omega
    · exact r3_pos h
theorem r1_pos {p : ByteArray} {first : Int} {n e : Nat} (h : r1 p first n = .error e) : e ≠ 0 := by
  unfold r1 at h
  rcases ite_pos h with h | h
  · exact h
  · dsimp only at h
    split at h
    · injection h with h; omega
    · exact r2_pos h
theorem nx2_pos {s : ByteArray} {k : Nat} {first : Int} {n L k1 e : Nat} (h : nx2 s k first n L k1 = .error e) : e ≠ 0 := by
  unfold nx2 at h
  split at h
  · injection h with h; omega
  · split at h
    · rename_i hh; injection h with h; subst h; exact r1_pos hh
    · split at h
      · injection h with h; omega
      · cases h
theorem nxt_pos {s : ByteArray} {k : Nat} {first : Int} {n e : Nat} (h : nxt s k first n = .error e) : e ≠ 0 := by
  unfold nxt at h
  rcases ite_pos h with h | h
  · exact h
  · exact nx2_pos h
theorem rd5_pos {s : ByteArray} {first n : Int} {e : Nat} (h : rd5 s first n = .error e) : e ≠ 0 := by
  unfold rd5 at h
  split at h
  · injection h with h; omega
  · exact nxt_pos h
theorem crunG_pos (rd : Nat → Nat → Except Nat (Rec × Nat)) (hp : ∀ k j e, rd k j = .error e → e ≠ 0) (j : Nat) : ∀ e, crunG rd j = .error e → e ≠ 0 := by
  induction j with
  | zero => intro e h; rw [crunG] at h; cases h
  | succ j ih =>
    intro e h
    rw [crunG_succ] at h
    cases hr : crunG rd j with
    | error x => rw [hr] at h; injection h with h; subst h; exact ih x hr
    | ok y =>
      obtain ⟨l, k⟩ := y
      rw [hr] at h
      dsimp only at h
      cases hn : rd k j with
      | error x => rw [hn] at h; injection h with h; subst h; exact hp k j x hn
      | ok z => rw [hn] at h; cases h
theorem crun_pos {s : ByteArray} {first : Int} : ∀ (j e : Nat), crun s first j = .error e → e ≠ 0 := by
  exact crunG_pos _ (fun _ _ _ h => rd5_pos h)
theorem taken {s : ByteArray} {frame plain : Int} {f : Fs} {b : ByteArray} (h : opn s frame plain = .ok (f, b)) : ∃ L, Tkn s f L b ∧ bod (s.extract 51 (12 + f.len)) f.st (wth plain 7 16777216) = .ok b := by
  obtain ⟨h1, h2, h3, h4, h5⟩ := opn_ok h
  have hz : ¬ s.size < 51 := by intro h; rw [pke_short h] at h1; cases h1
  have hr : rgt (fsOf s) = true := by
    cases hh : rgt (fsOf s) with
    | true => rfl
    | false => rw [pke_no hz hh] at h1; cases h1
  have R := rgt_iff.1 hr
  obtain ⟨w1, w2⟩ := whe_zero h3
  have hsum : crcOf (s.extract 17 (12 + (fsOf s).len)) = (fsOf s).sum := by
    unfold whe at h3
    rw [if_neg w1, if_neg w2] at h3
    split at h3
    · cases h3
    · rename_i h; exact Classical.not_not.1 h
  have hm2 := wth_in plain 7 16777216 (by omega)
  have hbz : b.size ≤ 16777216 := by
    have hb := h4
    unfold bod at hb
    split at hb
    · split at hb
      · cases hb
      · split at hb
        · cases hb
        · rename_i hn
          split at hb
          · cases hb
          · rename_i T hu
            cases hb
            rw [Lz.ba_size]
            have := un_len hu
            omega
    · split at hb
      · cases hb
      · injection hb with hb
        rw [← hb]
        omega
  obtain ⟨L, l1, l2⟩ := (cbe_iff ⟨R.c1, R.c2⟩ hbz (fun j e => crun_pos j e)).1 h5
  subst h2
  exact ⟨L, ⟨rfl, R, fsOf_ok (by omega), by omega, hsum, l1, l2, hbz⟩, h4⟩
end Go.Proofs.YtihokphamgkkcaaGreat
namespace Go.Proofs.YtihokphamgkkcaaGreat
open Go.RowKit
def ovw : ByteArray := ⟨#[119, 114, 105, 116, 116, 101, 110, 32, 111, 118, 101, 114]⟩
def hov : Hdr := (ovw, false, ⟨#[]⟩)
/-- A record whose headers are written over, as far as k. -/
def Ovd (x : RI) (k : Nat) : Prop := ∀ j, j < k → j < x.r.hs.length → (x.r.hs.getD j df).1 = ovw
theorem map_ri {l l' : List RI} (h : l'.map RI.r = l.map RI.r) (i : Nat) : (l'.getD i dri).r = (l.getD i dri).r := by
  have := congrArg (fun z => z[i]?) h
  simp only [List.getElem?_map] at this
  rw [List.getD_eq_getElem?_getD, List.getD_eq_getElem?_getD]
  cases h1 : l'[i]? with
  | none =>
    cases h2 : l[i]? with
    | none => rfl
    | some y => rw [h1, h2] at this; cases this
  | some x =>
    cases h2 : l[i]? with
    | none => rw [h1, h2] at this; cases this
    | some y => rw [h1, h2] at this; injection this
theorem Held.nils {w : World} {B : Nat} {v : Value} {l : List RI} (h : Held w B v l) : ∀ x ∈ l, x.a = none → x.cap = 0 := by
  intro x hx ha
  obtain ⟨a, cap, e, hn, _⟩ := OwnH.slice (h.hds x hx)
  have e2 : x.hv = .slice x.a x.r.hs.length x.cap := rfl
  rw [e2, ha] at e
  injection e with e1 _ e3
  have := (hn e1.symm).1
  rw [e2] at this
  injection this
theorem hs_small {l : List RI} {y : List Rec} (h : l.map RI.r = y) (hy : ∀ r ∈ y, r.hs.length ≤ 1024) : ∀ x ∈ l, x.r.hs.length ≤ 1024 := fun x hx => hy _ (by rw [← h]; exact List.mem_map_of_mem hx)
theorem St.start {w1 w2 w3 w4 : World} {va : Value} {la : List RI} (hH : Held w2 w1.heap.size va la) (b2 : Below w1.heap.size w1 w2) (b3 : Below w2.heap.size w2 w3) (b4 : Below w3.heap.size w3 w4) : St w1 w4 w1.heap.size w2.heap.size va w4 la where
  held := (hH.kept (fun g hg _ => b3.block g hg)).kept (fun g hg _ => b4.block g hg)
  low := fun g hg => by
    rcases hg with hg | ⟨x, hx, hg⟩
    · exact (World.ownsRow.lt hH.row g hg).2
    · exact (World.ownsRow.lt (hH.hds x hx) g hg).2
  kept := fun _ _ _ => rfl
  size := Nat.le_refl _
  lo4 := Nat.le_trans b3.size b4.size
  blo := b2.size
  bel := bel_next (bel_next b2 (Nat.le_refl _) b3) (Nat.le_refl _) b4
/-- What a record of the row shows. -/
theorem St.row {w0 w4 w : World} {B lo j g cap N : Nat} {l : List RI} (h : St w0 w4 B lo (.slice (some ⟨g, 0, none⟩) N cap) w l) (hj : j < l.length) : Six w g (j * 6) (l.getD j dri) ∧ ∀ o, w.frozen? ⟨g, o, none⟩ = false := by
  obtain ⟨a, c, e, hR⟩ := h.held.slice
  injection e with e1 e2 e3
  have hr := h.held.row
  rw [e2] at hr
  refine ⟨?_, fun o => hr.frozenAt o⟩
  rcases hR.2 with h0 | ⟨b, off, e2, _, hc⟩
  · rw [h0] at hj; simp at hj
  · rw [← e1] at e2
    cases e2
    have := hc j hj
    rw [Nat.zero_add] at this
    exact this
theorem St.has {w0 w4 w : World} {B lo cap N : Nat} {a : Option Addr} {l : List RI} (h : St w0 w4 B lo (.slice a N cap) w l) (hN : l.length = N) (hj : 0 < N) : ∃ g, a = some ⟨g, 0, none⟩ := by
  obtain ⟨_, h2⟩ := h.held.row
  rcases h2 with ⟨h2, h3⟩ | ⟨g, c, cur, e, _⟩
  · omega
  · injection e with e1 _ _
    exact ⟨g, e1⟩
theorem St.hdr {w0 w4 w : World} {B lo j k : Nat} {va : Value} {l : List RI} (h : St w0 w4 B lo va w l) (hj : j < l.length) (hk : k < (l.getD j dri).r.hs.length) : ∃ g, (l.getD j dri).a = some ⟨g, 0, none⟩ ∧ (w.cell? ⟨g, k * 3, none⟩ = some (.string ((l.getD j dri).r.hs.getD k df).1) ∧ w.cell? ⟨g, k * 3 + 1, none⟩ = some (.bool ((l.getD j dri).r.hs.getD k df).2.1) ∧ w.cell? ⟨g, k * 3 + 2, none⟩ = some (.string ((l.getD j dri).r.hs.getD k df).2.2)) ∧ ∀ o, w.frozen? ⟨g, o, none⟩ = false := by
  have hh := h.held.hds _ (riD_mem hj)
  unfold OwnH at hh
  have hh2 := hh
  obtain ⟨_, h2⟩ := hh
  rcases h2 with ⟨_, h3⟩ | ⟨g, c, cur, e, _⟩
  · omega
  · rw [e] at hh2
    unfold RI.hv at e
    injection e with e1 _ _
    have hc := hcs_at _ k hk
    refine ⟨g, e1, ⟨?_, ?_, ?_⟩, fun o => hh2.frozenAt o⟩
    · rw [hh2.cellAt _ (by omega)]; exact hc.1
    · rw [hh2.cellAt _ (by omega)]; exact hc.2.1
    · rw [hh2.cellAt _ (by omega)]; exact hc.2.2
theorem getD_set_ne {l : List RI} {i j : Nat} {x : RI} (h : i ≠ j) : (l.set i x).getD j dri = l.getD j dri := by
  rw [List.getD_eq_getElem?_getD, List.getD_eq_getElem?_getD, List.getElem?_set, if_neg h]
theorem getD_set_eq {l : List RI} {i : Nat} {x : RI} (h : i < l.length) : (l.set i x).getD i dri = x := by
  rw [List.getD_eq_getElem?_getD, List.getElem?_set, if_pos rfl, if_pos h]
  rfl
theorem keep_step {l lx : List RI} {N j p n : Nat} {xa : Option Addr} {xc : Nat} (hj : j < N) (h1 : l.length = N) (h2 : ∀ x ∈ l, x.r.hs.length ≤ 1024) (h3 : ∀ t, j < t → t < N → l.getD t dri = lx.getD t dri) (h5 : (l.getD j dri).a = xa ∧ (l.getD j dri).r.hs.length = n ∧ (l.getD j dri).cap = xc) :
    (l.set j (hset (l.getD j dri) p hov)).length = N ∧ (∀ x ∈ l.set j (hset (l.getD j dri) p hov), x.r.hs.length ≤ 1024) ∧ (∀ t, j < t → t < N → (l.set j (hset (l.getD j dri) p hov)).getD t dri = lx.getD t dri) ∧ (((l.set j (hset (l.getD j dri) p hov)).getD j dri).a = xa ∧ ((l.set j (hset (l.getD j dri) p hov)).getD j dri).r.hs.length = n ∧ ((l.set j (hset (l.getD j dri) p hov)).getD j dri).cap = xc) := by
  have hjl : j < l.length := by omega
  refine ⟨by rw [List.length_set]; exact h1, ?_, ?_, ?_⟩
  · intro x hx
    rcases List.mem_or_eq_of_mem_set hx with hx | rfl
    · exact h2 x hx
    · show ((l.getD j dri).r.hs.set p hov).length ≤ 1024
      rw [List.length_set]
      exact h2 _ (riD_mem hjl)
  · intro t ht ht2
    rw [getD_set_ne (by omega)]
    exact h3 t ht ht2
  · rw [getD_set_eq hjl]
    refine ⟨h5.1, ?_, h5.2.2⟩
    show ((l.getD j dri).r.hs.set p hov).length = n
    rw [List.length_set]
    exact h5.2.1
/-- A row of records that has grown, and what stays beside it. -/
structure Gk (w0 w4 : World) (B lo : Nat) (v : Value) (m : Nat) (ys : List Value) (w : World) : Prop where
  own : w.ownsRow B 49 6 v m ys
  far : ∀ g, v.ownBlock = some g → g < lo ∨ w4.heap.size ≤ g
  kept : ∀ g, lo ≤ g → g < w4.heap.size → w.heap[g]? = w4.heap[g]?
  bel : Below B w0 w
  size : w4.heap.size ≤ w.heap.size
  hB : B ≤ lo
  lo4 : lo ≤ w4.heap.size
theorem St.gk {w0 w4 w : World} {B lo : Nat} {va : Value} {l : List RI} (h : St w0 w4 B lo va w l) : Gk w0 w4 B lo va l.length (rcs l) w := ⟨h.held.row, fun g hg => Or.inl (h.low g (Or.inl hg)), h.kept, h.bel, h.size, h.blo, h.lo4⟩
theorem Gk.below {w0 w4 w w' : World} {B lo m : Nat} {v : Value} {ys : List Value} (h : Gk w0 w4 B lo v m ys w) (k : Below w.heap.size w w') : Gk w0 w4 B lo v m ys w' :=
  ⟨own_apart h.own (fun g hg => k.block g (World.ownsRow.lt h.own g hg).2), h.far, fun g h1 h2 => (k.block g (Nat.lt_of_lt_of_le h2 h.size)).trans (h.kept g h1 h2), h.bel.trans (k.mono (Nat.le_trans h.hB (Nat.le_trans h.lo4 h.size))), Nat.le_trans h.size k.size, h.hB, h.lo4⟩
theorem Gk.step {w0 w4 w w' : World} {B lo m g cap : Nat} {v : Value} {ys news : List Value} (h : Gk w0 w4 B lo v m ys w)
    (hown : w'.ownsRow B 49 6 (.slice (some ⟨g, 0, none⟩) (m + 1) cap) (m + 1) (ys ++ news)) (hor : (v = .slice (some ⟨g, 0, none⟩) m cap ∧ w.grownBy w' (some g)) ∨ (g = w.heap.size ∧ Below w.heap.size w w')) :
    Gk w0 w4 B lo (.slice (some ⟨g, 0, none⟩) (m + 1) cap) (m + 1) (ys ++ news) w' := by
  have hBw : B ≤ w.heap.size := Nat.le_trans h.hB (Nat.le_trans h.lo4 h.size)
  have hb : ∀ k cap2 n2, (Value.slice (some ⟨g, 0, none⟩) n2 cap2).ownBlock = some k → g = k := fun k _ _ hk => by simpa [Value.ownBlock] using hk
  rcases hor with ⟨rfl, hg⟩ | ⟨rfl, hbl⟩
  · have hf := h.far g rfl
    have hBg : B ≤ g := (World.ownsRow.lt h.own g rfl).1
    exact ⟨hown, fun k hk => by have := hb k _ _ hk; rw [← this]; exact hf, fun k h1 h2 => (hg.block k (Nat.lt_of_lt_of_le h2 h.size) (fun e => by injection e with e; omega)).trans (h.kept k h1 h2),
      h.bel.grown hg hBw (fun k hk => by injection hk with hk; omega), Nat.le_trans h.size hg.size, h.hB, h.lo4⟩
  · exact ⟨hown, fun k hk => by have := hb k _ _ hk; rw [← this]; exact Or.inr h.size, fun k h1 h2 => (hbl.block k (Nat.lt_of_lt_of_le h2 h.size)).trans (h.kept k h1 h2),
      h.bel.trans (hbl.mono hBw), Nat.le_trans h.size hbl.size, h.hB, h.lo4⟩
set_option maxHeartbeats 2000000 in
set_option maxRecDepth 20000 in
theorem sameHeaders_yes (hs : List Hdr) (a1 a2 : Option Addr) (cap1 cap2 : Nat) (w : World) (V1 : Hds w a1 hs) (V2 : Hds w a2 hs) (hz : hs.length ≤ 9223372036854775807) :
    Calls Tryz.prog 22 #[.slice a1 hs.length cap1, .slice a2 hs.length cap2] w fun e w' => e = .returned (.bool true) ∧ Below w.heap.size w w' := by
  have HV1 := hid V1
  have HV2 := hid V2
  clear V1 V2
  go_enter Tryz.func22, Tryz.ntmps22
  go_wp2_with fail
  go_loopg [5] hs.length (fun k i wr => ∃ j : Nat, j + k = hs.length ∧ i = .int .i64 j ∧ Hid (Below w.heap.size w wr))
  case atStart => exact ⟨0, by omega, rfl, Below.refl _ _⟩
  case round =>
    obtain ⟨j, hk, rfl, HB⟩ := hrel
    by_cases hlt : j < hs.length
    · obtain ⟨k, rfl⟩ : ∃ k, gk = k + 1 := ⟨gk - 1, by omega⟩
      rcases HV1.out with h | ⟨b, off, rfl, hbl, hc⟩
      · rw [h] at hlt; simp at hlt
      rcases HV2.out with h | ⟨b2, off2, rfl, hbl2, hc2⟩
      · rw [h] at hlt; simp at hlt
      obtain ⟨q0, q1, q2⟩ := hc j hlt
      obtain ⟨p0, p1, p2⟩ := hc2 j hlt
      have hcw : ∀ z, Below w.heap.size w z → ∀ b o, b < w.heap.size → z.cell? ⟨b, o, none⟩ = w.cell? ⟨b, o, none⟩ := fun z hz b o h => hz.cell (p := ⟨b, o, none⟩) h
      generalize hs.getD j df = x at *
      obtain ⟨xk, xh, xd⟩ := x
      simp only at q0 q1 q2 p0 p1 p2
      have i1 : (0 : Int) ≤ (j : Int) := by omega
      have i2 : (j : Int) < hs.length := by omega
      have HS : Hid (∀ z, Below w.heap.size w z → (fun z => (z.cell? ⟨b, off + j * 3, none⟩ = some (.string xk) ∧ z.cell? ⟨b, off + j * 3 + 1, none⟩ = some (.bool xh) ∧ z.cell? ⟨b, off + j * 3 + 2, none⟩ = some (.string xd)) ∧ (z.cell? ⟨b2, off2 + j * 3, none⟩ = some (.string xk) ∧ z.cell? ⟨b2, off2 + j * 3 + 1, none⟩ = some (.bool xh) ∧ z.cell? ⟨b2, off2 + j * 3 + 2, none⟩ = some (.string xd)) ∧ Below w.heap.size w z) z) := fun z hz => ⟨⟨(hcw z hz b _ hbl).trans q0, (hcw z hz b _ hbl).trans q1, (hcw z hz b _ hbl).trans q2⟩, ⟨(hcw z hz b2 _ hbl2).trans p0, (hcw z hz b2 _ hbl2).trans p1, (hcw z hz b2 _ hbl2).trans p2⟩, hz⟩
      have h9 := HB.out
      have n3 := fun w => neq_hdr xk xh xd w
      have g3 := fun x y w => run_eqGuard_agg (P := Tryz.prog) w BinOp.neq 51 x y #[.string xk, .bool xh, .string xd] #[.string xk, .bool xh, .string xd] Tryz.hdrGuard
      clear hcw q0 q1 q2 p0 p1 p2 hc hc2
      go_wp2_with fail
      go_region_held3 (fun z => (z.cell? ⟨b, off + j * 3, none⟩ = some (.string xk) ∧ z.cell? ⟨b, off + j * 3 + 1, none⟩ = some (.bool xh) ∧ z.cell? ⟨b, off + j * 3 + 2, none⟩ = some (.string xd)) ∧ (z.cell? ⟨b2, off2 + j * 3, none⟩ = some (.string xk) ∧ z.cell? ⟨b2, off2 + j * 3 + 1, none⟩ = some (.bool xh) ∧ z.cell? ⟨b2, off2 + j * 3 + 2, none⟩ = some (.string xd)) ∧ Below w.heap.size w z) (first | with_reducible exact HS.out _ (by assumption) | with_reducible exact HS.out _ (Below.drew (by assumption))) (fail)
      all_goals
        rename_i hH3
        have HB9 := hid hH3.2.2
        clear hH3 n3 g3
        go_wp2_with fail
        go_roundg k
        case measure => omega
        case rel => exact ⟨j + 1, by omega, by go_num, HB9⟩
    · have i2 : ¬ (j : Int) < hs.length := by omega
      go_wp2_with fail
      go_ret
      exact ⟨rfl, HB.out⟩
end Go.Proofs.YtihokphamgkkcaaGreat
namespace Go.Proofs.YtihokphamgkkcaaGreat
open Go.RowKit
theorem bel_drewN6 (w : World) (k : Nat) : Below w.heap.size w (w.drewN k) := ⟨rfl, rfl, rfl, Nat.le_refl _, fun _ _ => rfl⟩
theorem rcs_one77 : ∀ u ∈ [Value.int .i64 77, .bool false, .string ⟨#[]⟩, .bool false, .string ⟨#[]⟩, .slice none 0 0], u.oneCell' = true := by
  intro u hu
  simp only [List.mem_cons, List.not_mem_nil, or_false] at hu
  rcases hu with rfl | rfl | rfl | rfl | rfl | rfl <;> rfl
theorem Held.slice2 {w : World} {B N cap : Nat} {a : Option Addr} {l : List RI} (h : Held w B (.slice a N cap) l) : Rcs w a l := by
  obtain ⟨a', c', e, h2⟩ := h.slice
  injection e with e1 e2 e3
  rw [e1]; exact h2
theorem bel_keepB {B G : Nat} {x y : World} {c : Array Value} {T : TypeId} (h : Below B x y) (hG : G < B) (k : x.heap[G]? = some (.cells c T (0, 0))) : y.heap[G]? = some (.cells c T (0, 0)) := (h.block G hG).trans k
theorem St.keptC {w0 w4 w : World} {B lo g : Nat} {va : Value} {l : List RI} {o : Obj} (h : St w0 w4 B lo va w l) (h1 : lo ≤ g) (h2 : g < w4.heap.size) (k : w4.heap[g]? = some o) : w.heap[g]? = some o := (h.kept g h1 h2).trans k
theorem St.keptB {w0 w4 w : World} {B lo : Nat} {va vb : Value} {l lb : List RI} (h : St w0 w4 B lo va w l) (k : Held w4 lo vb lb) : Held w lo vb lb := k.kept (fun g hg hg2 => by
  refine h.kept g ?_ hg
  rcases hg2 with h | ⟨x, hx, h⟩
  · exact (World.ownsRow.lt k.row g h).1
  · exact (World.ownsRow.lt (k.hds x hx) g h).1)
set_option maxHeartbeats 8000000 in
set_option maxRecDepth 20000 in
theorem keeps_err (b0 : Int) (pk : Bool) (prod seq : Int) (l : List RI) (N : Nat) (a : Option Addr) (cap : Nat) (w : World) (V : Rcs w a l) (E : Nat) (hx : E ≠ 0) (CE : Hid (∀ w, Rcs w a l → Calls Tryz.prog 9 #[.agg #[.int .i64 b0, .bool pk, .int .i64 prod, .int .i32 seq, .slice a N cap]] w fun e w' => e = .returned (.tuple #[.string ⟨#[]⟩, .int .i64 E]) ∧ Below w.heap.size w w')) : Calls Tryz.prog 7 #[.agg #[.int .i64 b0, .bool pk, .int .i64 prod, .int .i32 seq, .slice a N cap]] w fun e w' => e = .returned (.bool true) ∧ Below w.heap.size w w' := by
  have hx' : ¬ (E : Int) = 0 := by omega
  have CA := hid (fun w => awake6_any w)
  have N0 := Bx1.new w #[.int .i64 b0, .bool pk, .int .i64 prod, .int .i32 seq, .slice a N cap] 24
  go_enter Tryz.func7, Tryz.ntmps7
  go_wp2_with fail
  refine (CA.out _).mono ?_
  rintro e w1 ⟨rfl, b1⟩
  have N1 := N0.call b1
  have V1 := V.below N1.b
  obtain ⟨k0, k1, k2, k3, k4⟩ := cells5 N1.p
  clear b1 N0
  go_wp2_with fail
  refine (CE.out _ V1).mono ?_
  rintro e w2 ⟨rfl, b2⟩
  have N2 := N1.call b2
  have V2 := V.below N2.b
  clear b2 N1 k0 k1 k2 k3 k4 V1
  obtain ⟨k0, k1, k2, k3, k4⟩ := cells5 N2.p
  go_wp2_with fail
  refine (CE.out _ V2).mono ?_
  rintro e w3 ⟨rfl, b3⟩
  have N3 := N2.call b3
  clear b3 N2 k0 k1 k2 k3 k4 V2
  go_wp2_with fail
  go_ret
  exact ⟨rfl, N3.b⟩
set_option maxHeartbeats 8000000 in
set_option maxRecDepth 20000 in
theorem keeps_yes (b0 : Int) (pk : Bool) (prod seq : Int) (l : List RI) (N : Nat) (a : Option Addr) (cap : Nat) (w : World) (V : Rcs w a l) (S : ByteArray) (NN : Int) (y : List Rec) (hyl : y.length = N) (hys : ∀ r ∈ y, r.hs.length ≤ 1024) (hN : N ≤ 65536) (CE : Hid (∀ w, Rcs w a l → Calls Tryz.prog 9 #[.agg #[.int .i64 b0, .bool pk, .int .i64 prod, .int .i32 seq, .slice a N cap]] w fun e w' => e = .returned (.tuple #[.string S, .int .i64 0]) ∧ Below w.heap.size w w'))
    (CD : Hid (∀ w, Calls Tryz.prog 16 #[.string S, .int .i64 16777216, .int .i64 16777216] w fun e w' => Below w.heap.size w w' ∧ ∃ a' cap' lx, e = .returned (.tuple #[.agg #[.int .i64 b0, .bool pk, .int .i64 prod, .int .i32 seq, .slice a' N cap'], .int .i64 NN, .int .i64 0]) ∧ Held w' w.heap.size (.slice a' N cap') lx ∧ lx.map RI.r = y))
    (CS : Hid (∀ (lx : List RI) (a' : Option Addr) (cap' : Nat) x, lx.map RI.r = y → Rcs x a' lx → Rcs x a l → Calls Tryz.prog 20 #[.agg #[.int .i64 b0, .bool pk, .int .i64 prod, .int .i32 seq, .slice a' N cap'], .agg #[.int .i64 b0, .bool pk, .int .i64 prod, .int .i32 seq, .slice a N cap]] x fun e w' => e = .returned (.bool true) ∧ Below x.heap.size x w')) : Calls Tryz.prog 7 #[.agg #[.int .i64 b0, .bool pk, .int .i64 prod, .int .i32 seq, .slice a N cap]] w fun e w' => e = .returned (.bool true) ∧ Below w.heap.size w w' := by
  have CA := hid (fun w => awake6_any w)
  have N0 := Bx1.new w #[.int .i64 b0, .bool pk, .int .i64 prod, .int .i32 seq, .slice a N cap] 24
  go_enter Tryz.func7, Tryz.ntmps7
  go_wp2_with fail
  refine (CA.out _).mono ?_
  rintro e w1 ⟨rfl, b1⟩
  have N1 := N0.call b1
  have V1 := V.below N1.b
  obtain ⟨k0, k1, k2, k3, k4⟩ := cells5 N1.p
  clear b1 N0
  go_wp2_with fail
  refine (CE.out _ V1).mono ?_
  rintro e w2 ⟨rfl, b2⟩
  have N2 := N1.call b2
  have V2 := V.below N2.b
  clear b2 N1 k0 k1 k2 k3 k4 V1
  obtain ⟨k0, k1, k2, k3, k4⟩ := cells5 N2.p
  go_wp2_with fail
  refine (CE.out _ V2).mono ?_
  rintro e w3 ⟨rfl, b3⟩
  have N3 := N2.call b3
  clear b3 N2 k0 k1 k2 k3 k4 V2
  go_wp2_with fail
  refine (CD.out _).mono ?_
  rintro e u2 ⟨hb2, aa, capa, la, rfl, hHa, hma⟩
  have ha2 : Below u2.heap.size u2 (u2.alloc (.cells #[.int .i64 b0, .bool pk, .int .i64 prod, .int .i32 seq, .slice aa N capa] 24)) := (Below.refl _ _).alloc (Nat.le_refl _) _
  have P4 : (u2.alloc (.cells #[.int .i64 b0, .bool pk, .int .i64 prod, .int .i32 seq, .slice aa N capa] 24)).heap[u2.heap.size]? = some (.cells #[.int .i64 b0, .bool pk, .int .i64 prod, .int .i32 seq, .slice aa N capa] 24 (0, 0)) := heap_new _ _
  have hs2 : (u2.alloc (.cells #[.int .i64 b0, .bool pk, .int .i64 prod, .int .i32 seq, .slice aa N capa] 24)).heap.size = u2.heap.size + 1 := by simp
  go_wp2_with fail
  generalize u2.alloc (.cells #[.int .i64 b0, .bool pk, .int .i64 prod, .int .i32 seq, .slice aa N capa] 24) = U2 at *
  refine (CD.out _).mono ?_
  rintro e u3 ⟨hb3, ab, capb, lb, rfl, hHb, hmb⟩
  have ha3 : Below u3.heap.size u3 (u3.alloc (.cells #[.int .i64 b0, .bool pk, .int .i64 prod, .int .i32 seq, .slice ab N capb] 24)) := (Below.refl _ _).alloc (Nat.le_refl _) _
  have Q4 : (u3.alloc (.cells #[.int .i64 b0, .bool pk, .int .i64 prod, .int .i32 seq, .slice ab N capb] 24)).heap[u3.heap.size]? = some (.cells #[.int .i64 b0, .bool pk, .int .i64 prod, .int .i32 seq, .slice ab N capb] 24 (0, 0)) := heap_new _ _
  have hs3 : (u3.alloc (.cells #[.int .i64 b0, .bool pk, .int .i64 prod, .int .i32 seq, .slice ab N capb] 24)).heap.size = u3.heap.size + 1 := by simp
  have b23 : Below u2.heap.size u2 u3 := bel_next ha2 (Nat.le_refl _) hb3
  have P5 := keep (keep P4 hb3) ha3
  have b2x := bel_next b23 (Nat.le_refl _) ha3
  have RX := (hHa.slice2).below b2x
  have b3x := bel_next hb2 (Nat.le_refl _) b2x
  have N5 := N3.call b3x
  have V5 := V.below N5.b
  obtain ⟨k0, k1, k2, k3, k4⟩ := cells5 P5
  obtain ⟨j0, j1, j2, j3, j4⟩ := cells5 N5.p
  go_wp2_with fail
  generalize u3.alloc (.cells #[.int .i64 b0, .bool pk, .int .i64 prod, .int .i32 seq, .slice ab N capb] 24) = U3 at *
  refine (CS.out la aa capa _ hma RX V5).mono ?_
  rintro e u4 ⟨rfl, hb4⟩
  have b34 : Below u3.heap.size u3 u4 := bel_next ha3 (Nat.le_refl _) hb4
  have hst := St.start hHa hb2 b23 b34
  have HST := hid hst
  have P6 := hid (keep P5 hb4)
  have Q6 := hid (keep Q4 hb4)
  have HHB : Hid (Held u4 u2.heap.size (.slice ab N capb) lb) := (hHb.kept (fun g hg _ => b34.block g hg)).lower (by omega)
  have HL4 : Hid (u2.heap.size < u4.heap.size) := by have := b34.size; have := hb3.size; have := hb4.size; show _ < _; omega
  have HG2 : Hid (u3.heap.size < u4.heap.size) := by have := hb4.size; show _ < _; omega
  have HLG : Hid (u2.heap.size ≤ u3.heap.size) := b23.size
  have HBW := hid N3.b
  have HW3 : Hid (w.heap.size < w3.heap.size) := lt_of_heap N3.p
  have HN3 := hid N3.p
  have HMA := hid hma
  have HMB := hid hmb
  have hla : la.length = N := by have := congrArg List.length hma; rw [List.length_map] at this; omega
  have HLA := hid hla
  have HLB : Hid (lb.length = N) := by have := congrArg List.length hmb; rw [List.length_map] at this; show _ = _; omega
  have HSA : Hid (∀ x ∈ la, x.r.hs.length ≤ 1024) := hs_small hma hys
  have HN := hid hN
  clear k0 k1 k2 k3 k4 j0 j1 j2 j3 j4 hst hb4 b34 P5 Q4 RX V5 N5 b3x b2x b23 ha3 ha2 hs3 hs2 P4 hb3 hHb hHa hb2 N3 hma hmb hla hys hN hyl
  generalize u2.heap.size = lo at *
  generalize u3.heap.size = g2 at *
  go_wp2_with fail
  go_loopg [13] N (fun k i wr => ∃ (j : Nat) (l1 : List RI), j + k = N ∧ i = .int .i64 j ∧ Hid (l1.length = N) ∧ Hid (∀ x ∈ l1, x.r.hs.length ≤ 1024) ∧ Hid (∀ t, j ≤ t → t < N → l1.getD t dri = la.getD t dri) ∧ Hid (St w3 u4 w3.heap.size lo (.slice aa N capa) wr l1))
  case atStart => exact ⟨0, la, by omega, rfl, HLA, HSA, fun _ _ _ => rfl, HST⟩
  case round =>
    clear HST HSA HLA
    obtain ⟨j, l1, hk, rfl, HL, HS, HO, HT⟩ := hrel
    have PX := HT.out.keptC (Nat.le_refl _) HL4.out P6.out
    obtain ⟨k0, k1, k2, k3, k4⟩ := cells5 PX
    by_cases hlt : j < N
    · obtain ⟨k, rfl⟩ : ∃ k, gk = k + 1 := ⟨gk - 1, by omega⟩
      obtain ⟨ga, rfl⟩ := HT.out.has HL.out (by omega)
      have hjl : j < l1.length := by have := HL.out; omega
      obtain ⟨⟨_, _, _, _, _, q5⟩, _⟩ := HT.out.row hjl
      obtain ⟨xa, n0, xc, hxa, hn0, hxc⟩ : ∃ xa n0 xc, (l1.getD j dri).a = xa ∧ (l1.getD j dri).r.hs.length = n0 ∧ (l1.getD j dri).cap = xc := ⟨_, _, _, rfl, rfl, rfl⟩
      have HN0 : Hid (n0 ≤ 1024) := by have := HS.out _ (riD_mem hjl); show _ ≤ _; omega
      rw [hxa, hn0, hxc] at q5
      have HX : Hid ((l1.getD j dri).a = xa ∧ (l1.getD j dri).r.hs.length = n0 ∧ (l1.getD j dri).cap = xc) := ⟨hxa, hn0, hxc⟩
      have HKk := hid hk
      have i1 : (0 : Int) ≤ (j : Int) := by omega
      have i2 : (j : Int) < (N : Nat) := by omega
      have hg := Gr.start (w4 := u4) (HT.out.held.hds _ (riD_mem hjl))
      unfold RI.hv at hg
      rw [hxa, hn0, hxc] at hg
      have HG0 := hid hg
      clear hxa hn0 hxc hk hg
      go_wp2_with fail
      clear k0 k1 k2 k3 k4 PX
      go_loopg [14, 15] 5 (fun k vg i wx => ∃ (q m : Nat) (ys : List Value), q + k = 5 ∧ i = .int .i64 q ∧ Hid (m = n0 + q) ∧ Hid (Gr u4 wx w3.heap.size (l1.getD j dri) vg m ys) ∧ Hid (St w3 u4 w3.heap.size lo (.slice (some ⟨ga, 0, none⟩) N capa) wx l1))
      case atStart => exact ⟨0, n0, _, by omega, rfl, rfl, HG0, HT⟩
      case round =>
        clear HT HG0 q5
        obtain ⟨q, m, ys, hkq, rfl, HMQ, HG, HT⟩ := hrel
        by_cases hlq : q < 5
        · obtain ⟨k3, rfl⟩ : ∃ k3, gk = k3 + 1 := ⟨gk - 1, by omega⟩
          obtain ⟨i0, hi, hz0, hz1, hz2⟩ := info_parts Tryz.infoHdr
          have hba : Below wr.heap.size wr (wr.alloc (.cells #[.string ⟨#[103, 114, 111, 119, 110]⟩, .bool false, .string ⟨#[]⟩] 51)) := (Below.refl _ _).alloc (Nat.le_refl _) _
          have HTA := hid (HT.out.fresh hba)
          have HGA := hid (HG.out.below hba)
          have HSZ : Hid (w3.heap.size ≤ wr.heap.size) := HT.out.bel.size
          have hlqI : (q : Int) < 5 := by omega
          clear HT HG hba
          go_wp2_with (at_builtin; refine wpList_append_two _ rfl _ _ 47 rfl w3.heap.size 51 i0 (.agg #[.string ⟨#[]⟩, .bool false, .string ⟨#[]⟩]) 3 40 Tryz.underHdrs hi hz0 hz1 hz2 rfl (by decide) _ m ys rfl HGA.out.1 ⟨wr.heap.size, 0, none⟩ 1 1 [.string ⟨#[103, 114, 111, 119, 110]⟩, .bool false, .string ⟨#[]⟩] rfl rfl ?d1 ?d2 ?d3 ?d4 ?d5 ?d6 ?_)
          try (case d1 => exact cells_new wr [.string ⟨#[103, 114, 111, 119, 110]⟩, .bool false, .string ⟨#[]⟩] 51)
          try (case d2 => exact hcs_one [(⟨#[103, 114, 111, 119, 110]⟩, false, ⟨#[]⟩)])
          try (case d3 => omega)
          try (case d4 => unfold maxLen; have := HMQ.out; have := HN0.out; omega)
          try (case d5 => have := HMQ.out; have := HN0.out; omega)
          try (case d6 => have := HSZ.out; first | omega | (simp; omega))
          intro g3 cap3 w10 hown hor
          have hst := Gr.step HTA.out hjl HGA.out hown (by have e : (wr.alloc (.cells #[.string ⟨#[103, 114, 111, 119, 110]⟩, .bool false, .string ⟨#[]⟩] 51)).heap.size = wr.heap.size + 1 := by { simp }; rw [e]; exact hor)
          have HST := hid hst
          clear hown hor hst HTA HGA hi hz0 hz1 hz2
          go_wp2_with fail
          go_roundg k3
          case measure => omega
          case rel => exact ⟨q + 1, m + 1, _, by omega, by go_num, by show _ = _; have := HMQ.out; omega, HST.out.2, HST.out.1⟩
        · have hlqI : ¬ (q : Int) < 5 := by omega
          have HOJ : Hid (∀ t, j < t → t < N → l1.getD t dri = la.getD t dri) := fun t h1 h2 => HO.out t (by omega) h2
          clear hkq HG HMQ
          go_wp2_with fail
          go_loopg [16] n0 (fun k i wx => ∃ (p : Nat) (l2 : List RI), p + k = n0 ∧ i = .int .i64 p ∧ Hid (l2.length = N) ∧ Hid (∀ x ∈ l2, x.r.hs.length ≤ 1024) ∧ Hid (∀ t, j < t → t < N → l2.getD t dri = la.getD t dri) ∧ Hid ((l2.getD j dri).a = xa ∧ (l2.getD j dri).r.hs.length = n0 ∧ (l2.getD j dri).cap = xc) ∧ Hid (St w3 u4 w3.heap.size lo (.slice (some ⟨ga, 0, none⟩) N capa) wx l2))
          case atStart => exact ⟨0, l1, by omega, rfl, HL, HS, HOJ, HX, HT⟩
          case round =>
            clear HL HS HO HOJ HX HT
            obtain ⟨p, l2, hkp, rfl, HL, HS, HO, HX, HT⟩ := hrel
            have hjl : j < l2.length := by have := HL.out; omega
            have PX := HT.out.keptC (Nat.le_refl _) HL4.out P6.out
            obtain ⟨k0, k1, k2, k3, k4⟩ := cells5 PX
            obtain ⟨⟨_, _, _, _, _, q5⟩, _⟩ := HT.out.row hjl
            rw [HX.out.1, HX.out.2.1, HX.out.2.2] at q5
            by_cases hlp : p < n0
            · obtain ⟨k2', rfl⟩ : ∃ k2, gk = k2 + 1 := ⟨gk - 1, by omega⟩
              obtain ⟨g, e1, ⟨c0, c1, c2⟩, fz⟩ := HT.out.hdr hjl (show p < (l2.getD j dri).r.hs.length by have := HX.out.2.1; omega)
              obtain rfl : xa = some ⟨g, 0, none⟩ := HX.out.1.symm.trans e1
              have HSet : Hid (St w3 u4 w3.heap.size lo (.slice (some ⟨ga, 0, none⟩) N capa) (((wr.setCell ⟨g, p * 3, none⟩ (.string ⟨#[119, 114, 105, 116, 116, 101, 110, 32, 111, 118, 101, 114]⟩)).setCell ⟨g, p * 3 + 1, none⟩ (.bool false)).setCell ⟨g, p * 3 + 2, none⟩ (.string ⟨#[]⟩)) (l2.set j (hset (l2.getD j dri) p hov))) := HT.out.seth hjl e1 hov
              have HOS := hid (keep_step (p := p) hlt HL.out HS.out HO.out HX.out)
              generalize (l2.getD j dri).r.hs.getD p df = z at *
              obtain ⟨z0, z1, z2⟩ := z
              dsimp only at c0 c1 c2
              have b3 : (0 : Int) ≤ (p : Int) := by omega
              have b4 : (p : Int) < (n0 : Nat) := by omega
              have HKp := hid hkp
              clear hkp e1 hjl HL HS HO HX HT
              go_wp2_with fail
              go_roundg k2'
              case measure => omega
              case rel => have hnn := HN0.out; have ew : wrap64 ((p : Int) + 1) = ((p + 1 : Nat) : Int) := by { unfold wrap64; omega }; exact ⟨p + 1, _, by have := HKp.out; omega, congrArg (Value.int .i64) ew, HOS.out.1, HOS.out.2.1, HOS.out.2.2.1, HOS.out.2.2.2, HSet⟩
            · have hlp' : ¬ (p : Int) < (n0 : Nat) := by omega
              have HHYK : Hid True := trivial
              have hpn : p = n0 := by omega
              have HB0 : Hid (Below wr.heap.size wr wr) := Below.refl _ _
              by_cases hJ : j + 1 < N
              · as_aux_lemma =>
                obtain ⟨J, hJd⟩ : ∃ J, J = j + 1 := ⟨_, rfl⟩
                have hw1 : IntKind.i64.wrap ((j : Int) + 1) = (J : Int) := (wrap_in (by omega) (by have := HN.out; omega)).trans (by omega)
                have hw2 : IntKind.i64.wrap (J : Int) = (J : Int) := wrap_in (by omega) (by have := HN.out; omega)
                have hJI : (j : Int) + 1 = (J : Int) := by omega
                have HE3 : Hid ((J : Int) = ((j + 1 : Nat) : Int)) := by show _ = _; omega
                have hJN : (J : Int) < (N : Nat) := by omega
                have hJ0 : (0 : Int) ≤ (J : Int) := by omega
                have hJD : decide ((J : Int) < (N : Nat)) = true := decide_eq_true hJN
                have hJDn : decide (J < N) = true := decide_eq_true (by omega)
                have hJ2 : J < l2.length := by have := HL.out; omega
                have hJb : J < lb.length := by have := HLB.out; omega
                obtain ⟨⟨_, _, _, _, _, s5⟩, _⟩ := HT.out.row hJ2
                have HHY := HT.out.keptB HHB.out
                have hRY := HHY.slice2
                rcases hRY.2 with h | ⟨gb, ob, e2, hgb, hcb⟩
                · rw [h] at hJb; simp at hJb
                subst e2
                obtain ⟨_, _, _, _, _, t5⟩ := hcb J hJb
                have e1 : (l2.getD J dri).r = (lb.getD J dri).r := by rw [HO.out J (by omega) (by omega)]; exact map_ri (HMA.out.trans HMB.out.symm) J
                have hH1 := ownH_hds (HT.out.held.hds _ (riD_mem hJ2))
                have hH2 := ownH_hds (HHY.hds _ (riD_mem hJb))
                have hsz := HS.out _ (riD_mem hJ2)
                have QY := HT.out.keptC HLG.out HG2.out Q6.out
                obtain ⟨y0, y1, y2, y3, y4⟩ := cells5 QY
                generalize l2.getD J dri = x at *
                generalize lb.getD J dri = yy at *
                obtain ⟨xr, x1a, x1c⟩ := x
                obtain ⟨yr, y1a, y1c⟩ := yy
                dsimp only at e1 s5 t5 hH1 hH2 hsz
                subst e1
                have c1 := fun z (hx : Below wr.heap.size wr z) => (sameHeaders_yes xr.hs x1a y1a x1c y1c z (hH1.below hx) (hH2.below hx) (by omega)).mono (fun _ _ h => And.intro h.1 (bel_next hx (Nat.le_refl _) h.2))
                have CC := hid c1
                generalize xr.hs.length = n1 at *
                have hlow : lo < wr.heap.size := Nat.lt_of_lt_of_le HL4.out HT.out.size
                have hgw : g2 < wr.heap.size := Nat.lt_of_lt_of_le HG2.out HT.out.size
                have hga : ga < wr.heap.size := (World.ownsRow.lt HT.out.held.row ga rfl).2
                have HSS : Hid (∀ z, Below wr.heap.size wr z → (fun z => (z.cell? ⟨lo, 4, none⟩ = some (.slice (some ⟨ga, 0, none⟩) N capa) ∧ z.cell? ⟨ga, J * 6 + 5, none⟩ = some (.slice x1a n1 x1c) ∧ z.cell? ⟨g2, 4, none⟩ = some (.slice (some ⟨gb, ob, none⟩) N capb) ∧ z.cell? ⟨gb, ob + J * 6 + 5, none⟩ = some (.slice y1a n1 y1c)) ∧ Below wr.heap.size wr z) z) := fun z hz => ⟨⟨(hz.cell (p := ⟨lo, 4, none⟩) hlow).trans k4, (hz.cell (p := ⟨ga, J * 6 + 5, none⟩) hga).trans s5, (hz.cell (p := ⟨g2, 4, none⟩) hgw).trans y4, (hz.cell (p := ⟨gb, ob + J * 6 + 5, none⟩) hgb).trans t5⟩, hz⟩
                have h9 := HB0.out
                clear c1 hH1 hH2 s5 t5 y0 y1 y2 y3 y4 hsz hcb hgb HHY hRY QY hlow hgw hga HHYK hJd hw1
                go_wp2_with fail
                clear k0 k1 k2 k3 k4 q5 PX
                go_region_held3 (fun z => (z.cell? ⟨lo, 4, none⟩ = some (.slice (some ⟨ga, 0, none⟩) N capa) ∧ z.cell? ⟨ga, J * 6 + 5, none⟩ = some (.slice x1a n1 x1c) ∧ z.cell? ⟨g2, 4, none⟩ = some (.slice (some ⟨gb, ob, none⟩) N capb) ∧ z.cell? ⟨gb, ob + J * 6 + 5, none⟩ = some (.slice y1a n1 y1c)) ∧ Below wr.heap.size wr z) (first | with_reducible exact HSS.out _ (by assumption) | with_reducible exact HSS.out _ (Below.drew (by assumption))) (first | (go_at_call 22; refine (CC.out _ ?_).mono ?_; (first | assumption | exact Below.drew (by assumption)); rintro e w' ⟨rfl, hbel⟩))
                all_goals
                  rename_i hH9
                  have HT9 := hid (HT.out.fresh hH9.2)
                  have HO9 : Hid (∀ t, j + 1 ≤ t → t < N → l2.getD t dri = la.getD t dri) := fun t ht => HO.out t (by omega)
                  clear hH9 HSS CC h9 HB0 HLB HHB HMA HMB HT HO CE CD CS CA HBW HW3 HN3 P6 Q6 HL4 HG2 HLG HX
                  go_wp2_with fail
                  go_roundg k
                  case measure => omega
                  case rel => have hkk : j + 1 + k = N := (by have h := HKk.out; clear HT9 HO9 HS HL; omega); exact ⟨j + 1, l2, hkk, by first | exact congrArg (Value.int .i64) HE3.out | exact congrArg (Value.int .i64) (hJI.trans HE3.out), HL, HS, HO9.out, HT9⟩
              · have hw1 : IntKind.i64.wrap ((j : Int) + 1) = (j : Int) + 1 := wrap_in (by omega) (by have := HN.out; omega)
                have hJI : ¬ (j : Int) + 1 < (N : Nat) := by omega
                have hJD : decide ((j : Int) + 1 < (N : Nat)) = false := decide_eq_false hJI
                have HJO : Hid (∀ t, j + 1 ≤ t → t < N → l2.getD t dri = la.getD t dri) := fun t ht ht2 => by omega
                have HTD := hid (fun n => HT.out.fresh (bel_drewN6 wr n))
                clear hpn hJ
                go_wp2_with fail
                go_quiet (fail)
                go_wp2_with fail
                go_roundg k
                case measure => omega
                case rel => have hnn := HN.out; have ew : ((j : Int) + 1) = ((j + 1 : Nat) : Int) := by { omega }; exact ⟨j + 1, l2, by have := HKk.out; omega, congrArg (Value.int .i64) ew, HL, HS, HJO.out, by first | exact HT | exact HTD.out _⟩
    · have hlt' : ¬ (j : Int) < (N : Nat) := by omega
      go_wp2_with fail
      have HGK0 : Hid (Gk w3 u4 w3.heap.size lo (.slice aa N capa) N (rcs l1) wr) := by
        have h := HT.out.gk
        rw [HL.out] at h
        exact h
      clear HT k0 k1 k2 k3 k4 PX
      go_loopg [17, 18] 5 (fun k vr i wx => ∃ (q m : Nat) (ys : List Value), q + k = 5 ∧ i = .int .i64 q ∧ Hid (m = N + q) ∧ Hid (Gk w3 u4 w3.heap.size lo vr m ys wx))
      case atStart => exact ⟨0, N, _, by omega, rfl, rfl, HGK0⟩
      case round =>
        clear HGK0
        obtain ⟨q, m, ys, hkq, rfl, HMQ, HG⟩ := hrel
        by_cases hlq : q < 5
        · obtain ⟨k3, rfl⟩ : ∃ k3, gk = k3 + 1 := ⟨gk - 1, by omega⟩
          obtain ⟨i0, hi, hz0, hz1, hz2⟩ := info_parts Tryz.infoRec
          have HGA := hid (HG.out.below ((Below.refl _ _).alloc (Nat.le_refl _) (.cells #[.int .i64 77, .bool false, .string ⟨#[]⟩, .bool false, .string ⟨#[]⟩, .slice none 0 0] 49)))
          have HSZ : Hid (w3.heap.size ≤ wr.heap.size) := HG.out.bel.size
          have hlqI : (q : Int) < 5 := by omega
          clear HG
          go_wp2_with (at_builtin; refine wpList_append_two _ rfl _ _ 22 rfl w3.heap.size 49 i0 (.agg #[.int .i64 0, .bool false, .string ⟨#[]⟩, .bool false, .string ⟨#[]⟩, .slice none 0 0]) 6 80 Tryz.underRecs hi hz0 hz1 hz2 rfl (by decide) _ m ys rfl HGA.out.own ⟨wr.heap.size, 0, none⟩ 1 1 [.int .i64 77, .bool false, .string ⟨#[]⟩, .bool false, .string ⟨#[]⟩, .slice none 0 0] rfl rfl ?f1 ?f2 ?f3 ?f4 ?f5 ?f6 ?_)
          try (case f1 => exact cells_new wr [.int .i64 77, .bool false, .string ⟨#[]⟩, .bool false, .string ⟨#[]⟩, .slice none 0 0] 49)
          try (case f2 => exact rcs_one77)
          try (case f3 => omega)
          try (case f4 => unfold maxLen; have := HMQ.out; have := HN.out; omega)
          try (case f5 => have := HMQ.out; have := HN.out; omega)
          try (case f6 => have := HSZ.out; first | omega | (simp; omega))
          intro g3 cap3 w10 hown hor
          have hst := Gk.step HGA.out hown (by have e : (wr.alloc (.cells #[.int .i64 77, .bool false, .string ⟨#[]⟩, .bool false, .string ⟨#[]⟩, .slice none 0 0] 49)).heap.size = wr.heap.size + 1 := by { simp }; rw [e]; exact hor)
          have HST2 := hid hst
          clear hown hor hst HGA hi hz0 hz1 hz2
          go_wp2_with fail
          go_roundg k3
          case measure => omega
          case rel => exact ⟨q + 1, m + 1, _, by omega, by go_num, by show _ = _; have := HMQ.out; omega, HST2.out⟩
        · have hlqI : ¬ (q : Int) < 5 := by omega
          have HQ2 := hid ((HG.out.kept g2 HLG.out HG2.out).trans Q6.out)
          have HB9 := hid (HG.out.bel)
          have HYH : Hid (Held wr lo (.slice ab N capb) lb) := (HHB.out.kept (fun g hg hg2 => by
            refine HG.out.kept g ?_ hg
            rcases hg2 with h | ⟨x, hx, h⟩
            · exact (World.ownsRow.lt HHB.out.row g h).1
            · exact (World.ownsRow.lt (HHB.out.hds x hx) g h).1))
          clear HG
          go_wp2_with fail
          refine (CD.out _).mono ?_
          rintro e w7 ⟨hb7, ac, capc, lc, rfl, hHc, hmc⟩
          have hal : Below w7.heap.size w7 (w7.alloc (.cells #[.int .i64 b0, .bool pk, .int .i64 prod, .int .i32 seq, .slice ac N capc] 24)) := (Below.refl _ _).alloc (Nat.le_refl _) _
          have P8 : (w7.alloc (.cells #[.int .i64 b0, .bool pk, .int .i64 prod, .int .i32 seq, .slice ac N capc] 24)).heap[w7.heap.size]? = some (.cells #[.int .i64 b0, .bool pk, .int .i64 prod, .int .i32 seq, .slice ac N capc] 24 (0, 0)) := heap_new _ _
          have Q8 := keep (keep HQ2.out hb7) hal
          have hbw : Below w.heap.size w (w7.alloc (.cells #[.int .i64 b0, .bool pk, .int .i64 prod, .int .i32 seq, .slice ac N capc] 24)) := (HBW.out.trans (HB9.out.mono HBW.out.size)).trans ((bel_next hb7 (Nat.le_refl _) hal).mono (Nat.le_trans HBW.out.size HB9.out.size))
          have N8 := keep (keep (bel_keepB HB9.out HW3.out HN3.out) hb7) hal
          have RZ := (hHc.slice2).below hal
          have RY := ((HYH.out.slice2).below hb7).below hal
          have VB := V.below hbw
          obtain ⟨r0, r1, r2, r3, r4⟩ := cells5 N8
          obtain ⟨q0, q1, q2, q3, q4⟩ := cells5 Q8
          clear HQ2 HB9 HYH hHc
          go_wp2_with fail
          refine (CS.out lb ab capb _ HMB.out RY VB).mono ?_
          rintro e w8 ⟨rfl, hb8⟩
          have N9 := keep N8 hb8
          have P9 := keep P8 hb8
          have HF := hid (hbw.trans (hb8.mono hbw.size))
          have RZ2 := RZ.below hb8
          have VB2 := VB.below hb8
          clear r0 r1 r2 r3 r4 q0 q1 q2 q3 q4 N8 P8 Q8 hbw
          obtain ⟨r0, r1, r2, r3, r4⟩ := cells5 N9
          obtain ⟨q0, q1, q2, q3, q4⟩ := cells5 P9
          go_wp2_with fail
          refine (CS.out lc ac capc _ hmc RZ2 VB2).mono ?_
          rintro e w9 ⟨rfl, hb9⟩
          have HF2 := hid (HF.out.trans (hb9.mono HF.out.size))
          clear r0 r1 r2 r3 r4 q0 q1 q2 q3 q4 N9 P9 hb9 HF
          go_wp2_with fail
          go_ret
          exact ⟨rfl, HF2.out⟩
end Go.Proofs.YtihokphamgkkcaaGreat
namespace Go.Proofs.YtihokphamgkkcaaGreat
open Go.RowKit
theorem bd_bd7 (h : Bool) (d : ByteArray) : bd h (bd h d) = bd h d := by cases h <;> rfl
theorem cln_cln7 (r : Rec) : cln (cln r) = cln r := by
  unfold cln
  simp only [bd_bd7, List.map_map]
  congr 1
  apply List.map_congr_left
  intro x _
  simp only [Function.comp, bd_bd7]
theorem taken_good7 {s : ByteArray} {frame plain : Int} {f : Fs} {b : ByteArray} (h : opn s frame plain = .ok (f, b)) : ∃ L, dcd s frame plain = .ok (f, L) ∧ (∀ r ∈ L, r.hs.length ≤ 1024) ∧ L.length = f.cnt ∧ f.cnt ≤ 65536 := by
  obtain ⟨L, ht, _⟩ := taken h
  have hr := ht.rb
  obtain ⟨c1, c2, c3, c4, c5⟩ := rbd_crun hr
  have hR := crun_run (by omega) c3.2 c1 (Or.inr c2)
  have hg := (run_ran (by omega) c3.2 hR.1).good
  refine ⟨L, ?_, fun r hr => (hg r hr).2.2.2.2.1, c5, c3.2⟩
  unfold dcd
  rw [h]
  dsimp only
  rw [hr]
theorem dcd_of7 {s : ByteArray} {frame plain : Int} {f : Fs} {b : ByteArray} {L M : List Rec} (h : opn s frame plain = .ok (f, b)) (e : rbd b f.first f.cnt = .ok M) (hd : dcd s frame plain = .ok (f, L)) : L = M := by
  unfold dcd at hd
  rw [h] at hd
  dsimp only at hd
  rw [e] at hd
  injection hd with hd
  injection hd with _ hd
  exact hd.symm
theorem keeps_walk (b : Bt) (w : World) (hb : BtOk b) (V : Rcs w b.a b.l) :
    Calls Tryz.prog 7 #[.agg #[.int .i64 b.base, .bool b.pk, .int .i64 b.prod, .int .i32 b.seq, .slice b.a b.l.length b.cap]] w fun e w' => e = .returned (.bool true) ∧ Below w.heap.size w w' := by
  have ce := fun w V => encode_any b w V hb.t hb.m hb.l
  unfold btV btA at ce
  by_cases hz : ∃ T, StoP b 0 T
  · obtain ⟨T, hT⟩ := hz
    obtain ⟨r0, S0, q1, q2, q3⟩ := sto_ok hT
    have det : ∀ E T', StoP b E T' → E = 0 ∧ T' = T := fun E T' h => sto_det hT h (fun _ _ _ _ h h' => body_det h h') rfl
    have hbk := body_back hb.t hb.m q1
    have hSz : (frm (fsB b T.size) T).size = 51 + T.size := frm_size _ _
    have hop : opn (frm (fsB b T.size) T) 16777216 16777216 = .ok (hdB b T, S0) := by
      have := opn_frame (S := S0) hb r0 q1 (by rw [← q2]; exact q3) ⟨#[]⟩ 16777216 16777216 (by rw [← q2]; unfold wth; omega) (by have := hbk.2.1; unfold wth; omega)
      rw [app_emp, ← q2] at this
      exact this
    obtain ⟨L, hd, hg, hl, hn⟩ := taken_good7 hop
    have hLe : L = (b.l.map RI.r).map cln := by
      have e : rbd S0 (hdB b T).first (hdB b T).cnt = .ok ((b.l.map RI.r).map cln) := hbk.2.2.2.2.1
      exact dcd_of7 hop e hd
    have hcnt : (hdB b T).cnt = b.l.length := rfl
    have hpk : decide ((hdB b T).st = 1) = b.pk := by
      show decide ((if b.pk = true then 1 else 0) = 1) = b.pk
      by_cases hp : b.pk = true
      · simp [hp]
      · simp [hp]
    have ce2 : ∀ w, Rcs w b.a b.l → Calls Tryz.prog 9 #[.agg #[.int .i64 b.base, .bool b.pk, .int .i64 b.prod, .int .i32 b.seq, .slice b.a b.l.length b.cap]] w fun e w' => e = .returned (.tuple #[.string (frm (fsB b T.size) T), .int .i64 0]) ∧ Below w.heap.size w w' := fun w V => by
      refine (ce w V).mono ?_
      rintro e w' ⟨⟨E, S', rfl, hE⟩, hbl⟩
      rcases hE with ⟨h1, h2, _⟩ | ⟨rfl, T', h2, h3⟩
      · exact absurd (det _ _ h2).1 h1
      · have := (det _ _ h2).2
        subst this
        rw [h3]
        exact ⟨rfl, hbl⟩
    refine keeps_yes b.base b.pk b.prod b.seq b.l b.l.length b.a b.cap w V (frm (fsB b T.size) T) ((12 + (hdB b T).len : Nat) : Int) L (by rw [hl, hcnt]) hg (by rw [← hcnt]; exact hn) (hid ce2) (hid fun w => ?_) (hid fun lx a' cap' x hm V1 V2 => ?_)
    · have cd := decode_any (frm (fsB b T.size) T) 16777216 16777216 w (by omega)
      unfold DecPost at cd
      rw [hd] at cd
      dsimp only at cd
      rw [hpk] at cd
      refine cd.mono fun e w' h => ⟨h.1, ?_⟩
      obtain ⟨_, v, lx, rfl, h2, h3⟩ := h
      obtain ⟨a', cap', rfl, _⟩ := h2.slice
      have hlen : lx.length = b.l.length := by have := congrArg List.length h3; rw [List.length_map] at this; omega
      rw [hlen] at h2 ⊢
      exact ⟨a', cap', lx, rfl, h2, h3⟩
    · have hlen : lx.length = b.l.length := by have := congrArg List.length hm; rw [List.length_map] at this; omega
      have c := sayB_yes ⟨b.base, b.pk, b.prod, b.seq, lx, a', cap'⟩ b x V1 V2 ⟨rfl, rfl, rfl, rfl, by
        have e1 : lx.map (fun x => cln x.r) = (lx.map RI.r).map cln := by rw [List.map_map]; rfl
        have e2 : b.l.map (fun x => cln x.r) = (b.l.map RI.r).map cln := by rw [List.map_map]; rfl
        show lx.map (fun x => cln x.r) = b.l.map (fun x => cln x.r)
        rw [e1, e2, hm, hLe, List.map_map]
        apply List.map_congr_left
        intro r _
        exact cln_cln7 r⟩ (by show lx.length ≤ _; omega) (fun y hy => by
          have := hg y.r (by rw [← hm]; exact List.mem_map_of_mem hy)
          omega)
      unfold btV btA at c
      dsimp only at c
      rw [hlen] at c
      exact c
  · obtain ⟨E, hE1, hE2⟩ : ∃ E, E ≠ 0 ∧ StoP b E ⟨#[]⟩ := sto_some (fun T h => hz ⟨T, h⟩)
    refine keeps_err b.base b.pk b.prod b.seq b.l b.l.length b.a b.cap w V E hE1 (hid fun w V => ?_)
    refine (ce w V).mono ?_
    rintro e w' ⟨⟨E', S', rfl, hE⟩, hbl⟩
    rcases hE with ⟨_, h2, rfl⟩ | ⟨_, T, h2, _⟩
    · have := sto_same h2 hE2
      subst this
      exact ⟨rfl, hbl⟩
    · exact absurd ⟨T, h2⟩ hz
end Go.Proofs.YtihokphamgkkcaaGreat
