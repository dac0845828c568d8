/- Texts of the proof, put together: Bdt, Btp, Btu, Btw, Btx. -/
import Derived.Test.YtihokphamgkkcaaGreatMB5
import Derived.Lib.ConvBytes
import Derived.Test.YtihokphamgkkcaaGreatMB7
import Derived.Deep.QuietTactic
import Derived.BigQuiet
namespace Go.Proofs.YtihokphamgkkcaaGreat
open Go.RowKit
theorem sto_det {b : Bt} {E E' : Nat} {T T' : ByteArray} (h : StoP b E T) (h' : StoP b E' T') (hd : ∀ E E' S S', BodyP b.l E S → BodyP b.l E' S' → E = E') : E = 0 → E' = 0 ∧ T' = T := by
  intro hE
  subst hE
  obtain ⟨r0, S, q1, q2, q3⟩ := sto_ok h
  cases h' with
  | head h => exact absurd r0 h
  | body E h1 h2 h3 => exact absurd (hd _ _ _ _ h3 q1) h2
  | big S' h1 h2 h3 =>
    have e : S' = S := by rw [h2.2.2 rfl, q1.2.2 rfl]
    subst e
    rw [← q2] at h3
    omega
  | ok S' h1 h2 h3 =>
    have e : S' = S := by rw [h2.2.2 rfl, q1.2.2 rfl]
    subst e
    exact ⟨rfl, q2.symm⟩
theorem body_det {l : List RI} {E E' : Nat} {S S' : ByteArray} (h : BodyP l E S) (h' : BodyP l E' S') : E = E' := by
  rcases h.1 with ⟨a1, a2⟩ | ⟨a1, a2⟩
  · rcases h'.1 with ⟨b1, b2⟩ | ⟨b1, b2⟩
    · rw [a2, b2]
    · exact absurd b1 a1
  · rcases h'.1 with ⟨b1, b2⟩ | ⟨b1, b2⟩
    · exact absurd a1 b1
    · unfold FitE at a2 b2
      rcases a2 with ⟨j, c1, c2, c3, c4⟩ | ⟨c1, c2⟩
      · rcases b2 with ⟨k, d1, d2, d3, d4⟩ | ⟨d1, d2⟩
        · have : j = k := by
            rcases Nat.lt_trichotomy j k with h | h | h
            · exact absurd (d2 j h) c3
            · exact h
            · exact absurd (c2 k h) d3
          subst this
          rw [c4, d4]
        · exact absurd (d1 j c1) c3
      · rcases b2 with ⟨k, d1, d2, d3, d4⟩ | ⟨d1, d2⟩
        · exact absurd (c1 k d1) d3
        · rw [c2, d2]
theorem sto_same {b : Bt} {E E' : Nat} {T T' : ByteArray} (h : StoP b E T) (h' : StoP b E' T') : E = E' := by
  cases h with
  | head h1 =>
    cases h' with
    | head _ => rfl
    | body _ h2 _ _ => exact absurd h2 h1
    | big _ h2 _ _ => exact absurd h2 h1
    | ok _ h2 _ _ => exact absurd h2 h1
  | body E h1 h2 h3 =>
    cases h' with
    | head h => exact absurd h1 h
    | body E' _ _ h6 => exact body_det h3 h6
    | big S _ h6 _ => exact absurd (body_det h3 h6) h2
    | ok S _ h6 _ => exact absurd (body_det h3 h6) h2
  | big S h1 h2 h3 =>
    cases h' with
    | head h => exact absurd h1 h
    | body E' _ h5 h6 => exact absurd (body_det h6 h2) h5
    | big S' _ _ _ => rfl
    | ok S' _ h6 h7 =>
      have e : S' = S := by rw [h6.2.2 rfl, h2.2.2 rfl]
      subst e
      omega
  | ok S h1 h2 h3 =>
    cases h' with
    | head h => exact absurd h1 h
    | body E' _ h5 h6 => exact absurd (body_det h6 h2) h5
    | big S' _ h6 h7 =>
      have e : S' = S := by rw [h6.2.2 rfl, h2.2.2 rfl]
      subst e
      omega
    | ok S' _ _ _ => rfl
theorem body_some {l : List RI} : ∃ E S, BodyP l E S := by
  by_cases h : 1 ≤ l.length ∧ l.length ≤ 65536
  · by_cases hz : ∀ i, i < l.length → sze (l.getD i dri).r (l.getD 0 dri).r.t i = 0
    · by_cases hb : 16777216 < (bdy (l.getD 0 dri).r.t 0 (l.map RI.r)).length
      · exact ⟨66, ⟨#[]⟩, Or.inr ⟨h, Or.inr ⟨hz, by rw [if_pos hb]⟩⟩, fun _ => rfl, fun h => by cases h⟩
      · exact ⟨0, _, Or.inr ⟨h, Or.inr ⟨hz, by rw [if_neg hb]⟩⟩, fun h => absurd rfl h, fun _ => rfl⟩
    · have hex : ∃ j, j < l.length ∧ sze (l.getD j dri).r (l.getD 0 dri).r.t j ≠ 0 := Classical.byContradiction fun hn => hz fun i hi => Classical.byContradiction fun hh => hn ⟨i, hi, hh⟩
      have hmin : ∃ j, (j < l.length ∧ sze (l.getD j dri).r (l.getD 0 dri).r.t j ≠ 0) ∧ ∀ i, i < j → sze (l.getD i dri).r (l.getD 0 dri).r.t i = 0 := by
        obtain ⟨j, hj⟩ := hex
        induction j using Nat.strongRecOn with
        | ind j ih =>
          by_cases hall : ∀ i, i < j → sze (l.getD i dri).r (l.getD 0 dri).r.t i = 0
          · exact ⟨j, hj, hall⟩
          · have : ∃ i, i < j ∧ sze (l.getD i dri).r (l.getD 0 dri).r.t i ≠ 0 := Classical.byContradiction fun hn => hall fun i hi => Classical.byContradiction fun hh => hn ⟨i, hi, hh⟩
            obtain ⟨i, h1, h2⟩ := this
            exact ih i h1 ⟨by omega, h2⟩
      obtain ⟨j, ⟨h1, h2⟩, h3⟩ := hmin
      exact ⟨_, ⟨#[]⟩, Or.inr ⟨h, Or.inl ⟨j, h1, h3, h2, rfl⟩⟩, fun _ => rfl, fun h => absurd h h2⟩
  · exact ⟨28, ⟨#[]⟩, Or.inl ⟨h, rfl⟩, fun _ => rfl, fun h => by cases h⟩
theorem sto_some {b : Bt} (hn : ∀ T, ¬ StoP b 0 T) : ∃ E, E ≠ 0 ∧ StoP b E ⟨#[]⟩ := by
  by_cases h0 : rfh b = 0
  · obtain ⟨E, S, h⟩ := body_some (l := b.l)
    by_cases hE : E = 0
    · subst hE
      by_cases hs : (sto b S).size ≤ 16777165
      · exact absurd (StoP.ok S h0 h hs) (hn _)
      · exact ⟨66, by decide, StoP.big S h0 h (by omega)⟩
    · exact ⟨E, hE, StoP.body E h0 hE (by have := h.2.1 hE; rwa [this] at h)⟩
  · exact ⟨_, h0, StoP.head h0⟩
end Go.Proofs.YtihokphamgkkcaaGreat
namespace Go.Proofs.YtihokphamgkkcaaGreat
open Go.RowKit
/-- The text with one byte turned. -/
def tn (s : ByteArray) (k m : Nat) : ByteArray := ⟨(s.data.toList.set k (UInt8.ofNat ((s.data.toList.getD k 0).toNat ^^^ m))).toArray⟩
theorem tn_size (s : ByteArray) (k m : Nat) : (tn s k m).size = s.size := by
  show (List.toArray _).size = _
  simp
theorem tn_data (s : ByteArray) (k m : Nat) : (tn s k m).data.toList = s.data.toList.set k (UInt8.ofNat ((s.data.toList.getD k 0).toNat ^^^ m)) := rfl
theorem dl_ext (s : ByteArray) (a b : Nat) : (s.extract a b).data.toList = (s.data.toList.drop a).take (b - a) := by
  rw [ByteArray.data_extract, Array.toList_extract, List.extract_eq_take_drop]
theorem dl_inj {s t : ByteArray} (h : s.data.toList = t.data.toList) : s = t := by
  cases s with
  | mk a =>
    cases t with
    | mk b =>
      have : a = b := Array.ext' h
      rw [this]
theorem tn_lo {s : ByteArray} {c m a b : Nat} (h : b ≤ c) : (tn s c m).extract a b = s.extract a b := by
  apply dl_inj
  rw [dl_ext, dl_ext, tn_data]
  apply List.ext_getElem?
  intro i
  rw [List.getElem?_take, List.getElem?_take]
  split
  · rw [List.getElem?_drop, List.getElem?_drop, List.getElem?_set_ne (by omega)]
  · rfl
theorem tn_hi {s : ByteArray} {c m a b : Nat} (h : c < a) : (tn s c m).extract a b = s.extract a b := by
  apply dl_inj
  rw [dl_ext, dl_ext, tn_data]
  apply List.ext_getElem?
  intro i
  rw [List.getElem?_take, List.getElem?_take]
  split
  · rw [List.getElem?_drop, List.getElem?_drop, List.getElem?_set_ne (by omega)]
  · rfl
theorem xor_ne {x m : Nat} (h : 0 < m) : x ^^^ m ≠ x := fun e => by
  have : (x ^^^ m) ^^^ x = x ^^^ x := by rw [e]
  rw [Nat.xor_comm x m, Nat.xor_assoc, Nat.xor_self, Nat.xor_zero] at this
  omega
/-- The bytes about the turned one. -/
theorem tn_mid {s : ByteArray} {c m a b : Nat} (h0 : 0 < m) (h1 : m < 256) (ha : a ≤ c) (hb : c < b) (hc : c < s.size) : ∃ X x y Y, (s.extract a b).data.toList = X ++ x :: Y ∧ ((tn s c m).extract a b).data.toList = X ++ y :: Y ∧ x ≠ y := by
  have hl : s.data.toList.length = s.size := by simp
  obtain ⟨x, hx⟩ : ∃ x, s.data.toList[c]? = some x := ⟨_, List.getElem?_eq_getElem (by omega)⟩
  have hg : s.data.toList.getD c 0 = x := by rw [List.getD_eq_getElem?_getD, hx]; rfl
  have hne : x ≠ UInt8.ofNat (x.toNat ^^^ m) := fun e => by
    have h2 := congrArg UInt8.toNat e
    rw [UInt8.toNat_ofNat'] at h2
    have h3 : x.toNat ^^^ m < 256 := Nat.xor_lt_two_pow (n := 8) (UInt8.toNat_lt _) h1
    rw [Nat.mod_eq_of_lt h3] at h2
    exact xor_ne h0 h2.symm
  have hsplit : s.data.toList = s.data.toList.take c ++ x :: s.data.toList.drop (c + 1) := by
    obtain ⟨hlt, e⟩ := List.getElem?_eq_some_iff.1 hx
    have e2 := List.drop_eq_getElem_cons hlt
    rw [e] at e2
    rw [← e2, List.take_append_drop]
  have hset : s.data.toList.set c (UInt8.ofNat ((s.data.toList.getD c 0).toNat ^^^ m)) = s.data.toList.take c ++ UInt8.ofNat (x.toNat ^^^ m) :: s.data.toList.drop (c + 1) := by
    rw [hg, List.set_eq_take_append_cons_drop, if_pos (by omega)]
  have hcut : ∀ z : UInt8, ((s.data.toList.take c ++ z :: s.data.toList.drop (c + 1)).drop a).take (b - a) = (s.data.toList.take c).drop a ++ z :: (s.data.toList.drop (c + 1)).take (b - c - 1) := by
    intro z
    have e1 : (s.data.toList.take c).length = c := by rw [List.length_take]; omega
    rw [List.drop_append_of_le_length (by omega), List.take_append, List.length_drop, e1, List.take_of_length_le (by rw [List.length_drop, e1]; omega)]
    congr 1
    have : b - a - (c - a) = (b - c - 1) + 1 := by omega
    rw [this, List.take_succ_cons]
  refine ⟨(s.data.toList.take c).drop a, x, UInt8.ofNat (x.toNat ^^^ m), (s.data.toList.drop (c + 1)).take (b - c - 1), ?_, ?_, hne⟩
  · rw [dl_ext]
    conv => lhs; rw [hsplit]
    exact hcut x
  · rw [dl_ext, tn_data, hset]
    exact hcut _
/-- One byte changes the sum. -/
theorem crc_turn {X Y : List UInt8} {x y : UInt8} (h : K.M.more 0 (X ++ x :: Y) = K.M.more 0 (X ++ y :: Y)) : x = y := by
  unfold K.M.more at h
  have h1 : K.M.run (0 ^^^ 4294967295) (X ++ x :: Y) = K.M.run (0 ^^^ 4294967295) (X ++ y :: Y) := by
    have := congrArg (fun v => v ^^^ 4294967295) h
    simp only [K.M.xor_twice] at this
    exact this
  rw [K.M.run_append, K.M.run_append, K.M.run_cons, K.M.run_cons] at h1
  have hr : K.M.run (0 ^^^ 4294967295) X < 4294967296 := K.M.run_lt X (by decide)
  have h2 := K.M.run_inj (K.M.tk_lt hr (UInt8.toNat_lt x)) (K.M.tk_lt hr (UInt8.toNat_lt y)) h1
  unfold K.M.tk at h2
  have hx : K.M.run (0 ^^^ 4294967295) X ^^^ x.toNat < 4294967296 := Nat.xor_lt_two_pow (n := 32) hr (by have := UInt8.toNat_lt x; omega)
  have hy : K.M.run (0 ^^^ 4294967295) X ^^^ y.toNat < 4294967296 := Nat.xor_lt_two_pow (n := 32) hr (by have := UInt8.toNat_lt y; omega)
  have h3 := K.M.mvN_inj hx hy h2
  generalize K.M.run (0 ^^^ 4294967295) X = r at *
  have h4 : x.toNat = y.toNat := by
    have := congrArg (fun v => r ^^^ v) h3
    simp only [← Nat.xor_assoc, Nat.xor_self, Nat.zero_xor] at this
    exact this
  exact UInt8.toNat_inj.1 h4
theorem bl_eq (s : ByteArray) : bl s = s.data.toList.map UInt8.toNat := by
  unfold bl
  simp
theorem nb_beS : ∀ (n : Nat) (l : List Nat), l.length = n → (∀ b ∈ l, b < 256) → nb n (be l) = l
  | 0, l, h, _ => by rw [List.eq_nil_of_length_eq_zero h]; rfl
  | n + 1, l, h, hb => by
    rcases List.eq_nil_or_concat l with rfl | ⟨l', b, rfl⟩
    · simp at h
    · have h' : l'.length = n := by simpa using h
      have hb1 := hb b (by simp)
      rw [List.concat_eq_append] at hb ⊢
      rw [be_snoc, nb]
      have e1 : (be l' * 256 + b) / 256 = be l' := by omega
      have e2 : (be l' * 256 + b) % 256 = b := by omega
      rw [e1, e2, nb_beS n l' h' (fun c hc => hb c (by simp [hc]))]
theorem be_inj (l m : List Nat) (h : l.length = m.length) (hl : ∀ b ∈ l, b < 256) (hm : ∀ b ∈ m, b < 256) (he : be l = be m) : l = m := by
  rw [← nb_beS _ l rfl hl, ← nb_beS _ m h.symm hm, he]
theorem num_ne {s t : ByteArray} {k n : Nat} {X Y : List UInt8} {x y : UInt8} (h1 : (s.extract k (k + n)).data.toList = X ++ x :: Y) (h2 : (t.extract k (k + n)).data.toList = X ++ y :: Y) (hn : x ≠ y) : num s k n ≠ num t k n := by
  intro h
  unfold num at h
  rw [bl_eq, bl_eq, h1, h2] at h
  have hb : ∀ (l : List UInt8), ∀ b ∈ l.map UInt8.toNat, b < 256 := fun l b hb => by
    obtain ⟨u, _, rfl⟩ := List.mem_map.1 hb
    exact UInt8.toNat_lt _
  have e := be_inj _ _ (by simp) (hb _) (hb _) h
  simp only [List.map_append, List.map_cons] at e
  have e2 := List.append_cancel_left e
  injection e2 with e3
  exact hn (UInt8.toNat_inj.1 e3)
theorem opn_parts {s : ByteArray} {frame plain : Int} {f : Fs} {b : ByteArray} (h : opn s frame plain = .ok (f, b)) : pke s = 0 ∧ fsOf s = f ∧ whe s f (wth frame 58 16777216) = 0 ∧ bod (s.extract 51 (12 + f.len)) f.st (wth plain 7 16777216) = .ok b ∧ cbe b f = 0 := by
  unfold opn at h
  split at h
  · cases h
  · rename_i h1
    split at h
    · cases h
    · rename_i h2
      split at h
      · cases h
      · rename_i b' hb
        split at h
        · cases h
        · rename_i h3
          cases h
          exact ⟨Classical.not_not.1 h1, rfl, Classical.not_not.1 h2, hb, Classical.not_not.1 h3⟩
theorem pke_zero {s : ByteArray} (h : pke s = 0) : 51 ≤ s.size ∧ Right (fsOf s) := by
  unfold pke at h
  split at h
  · cases h
  · rename_i h1
    split at h
    · rename_i h2; exact ⟨by omega, rgt_iff.1 h2⟩
    · cases h
theorem opn_right {s : ByteArray} {frame plain : Int} {f : Fs} {b : ByteArray} (h : opn s frame plain = .ok (f, b)) : Right f ∧ FsOk f ∧ 12 + f.len ≤ s.size := by
  obtain ⟨h1, h2, h3, _, _⟩ := opn_parts h
  obtain ⟨h6, h7⟩ := pke_zero h1
  have h8 := fsOf_ok h6
  rw [h2] at h7 h8
  exact ⟨h7, h8, by have := (whe_zero h3).2; omega⟩
theorem opn_turn {s : ByteArray} {frame plain : Int} {c m : Nat} {f : Fs} {b : ByteArray} (h : opn s frame plain = .ok (f, b)) (h0 : 0 < m) (h1 : m < 256) (hc1 : 12 ≤ c) (hc2 : c < 12 + f.len) : ∀ f' b', opn (tn s c m) frame plain ≠ .ok (f', b') := by
  intro f' b' h'
  obtain ⟨p1, p2, p3, _, _⟩ := opn_parts h
  obtain ⟨q1, q2, q3, _, _⟩ := opn_parts h'
  obtain ⟨_, hR⟩ := pke_zero p1
  obtain ⟨_, hR'⟩ := pke_zero q1
  have hz := (opn_right h).2.2
  have hlen : f'.len = f.len := by
    rw [← p2, ← q2]
    show num (tn s c m) 8 4 = num s 8 4
    unfold num
    rw [tn_lo (by omega)]
  rw [p2] at hR
  rw [q2] at hR'
  have hl := hR.l1
  have sum : crcOf (s.extract 17 (12 + f.len)) = f.sum := by
    obtain ⟨w1, w2⟩ := whe_zero p3
    unfold whe at p3
    rw [if_neg w1, if_neg w2] at p3
    exact Classical.not_not.1 (fun hn => by rw [if_pos hn] at p3; cases p3)
  have sum' : crcOf ((tn s c m).extract 17 (12 + f.len)) = f'.sum := by
    obtain ⟨w1, w2⟩ := whe_zero q3
    unfold whe at q3
    rw [if_neg w1, if_neg w2, hlen] at q3
    exact Classical.not_not.1 (fun hn => by rw [if_pos hn] at q3; cases q3)
  rcases Nat.lt_or_ge c 13 with h12 | h12
  · obtain ⟨X, x, y, Y, e1, e2, hn⟩ := tn_mid (s := s) (c := c) (m := m) (a := 12) (b := 12 + 1) h0 h1 hc1 (by omega) (by omega)
    have := num_ne e1 e2 hn
    have m1 : num s 12 1 = 71 := by have := hR.mark; rw [← p2] at this; exact this
    have m2 : num (tn s c m) 12 1 = 71 := by have := hR'.mark; rw [← q2] at this; exact this
    omega
  · rcases Nat.lt_or_ge c 17 with h17 | h17
    · obtain ⟨X, x, y, Y, e1, e2, hn⟩ := tn_mid (s := s) (c := c) (m := m) (a := 13) (b := 13 + 4) h0 h1 (by omega) (by omega) (by omega)
      have := num_ne e1 e2 hn
      rw [tn_hi h17, sum] at sum'
      rw [← p2, ← q2] at sum'
      exact this sum'
    · obtain ⟨X, x, y, Y, e1, e2, hn⟩ := tn_mid (s := s) (c := c) (m := m) (a := 17) (b := 12 + f.len) h0 h1 (by omega) (by omega) (by omega)
      have hs : f.sum = f'.sum := by
        rw [← p2, ← q2]
        show num s 13 4 = num (tn s c m) 13 4
        unfold num
        rw [tn_lo (by omega)]
      unfold crcOf at sum sum'
      rw [e1] at sum
      rw [e2] at sum'
      exact hn (crc_turn (by rw [sum, sum', hs]))
theorem tn_zero (s : ByteArray) (c : Nat) : tn s c 0 = s := by
  apply dl_inj
  rw [tn_data]
  apply List.ext_getElem?
  intro i
  by_cases h : c = i
  · subst h
    rw [List.getElem?_set]
    simp only [if_true]
    split
    · rename_i hl
      rw [List.getElem?_eq_getElem hl, List.getD_eq_getElem?_getD, List.getElem?_eq_getElem hl, Nat.xor_zero]
      simp
    · rename_i hl
      rw [List.getElem?_eq_none (by omega)]
  · rw [List.getElem?_set_ne h]
theorem num_lo {s : ByteArray} {c m k n : Nat} (h : k + n ≤ c) : num (tn s c m) k n = num s k n := by unfold num; rw [tn_lo h]
theorem num_hi {s : ByteArray} {c m k n : Nat} (h : c < k) : num (tn s c m) k n = num s k n := by unfold num; rw [tn_hi h]
theorem fs_turn {s : ByteArray} {c m : Nat} (h1 : 13 ≤ c) (h2 : c < 17) : fsOf (tn s c m) = { fsOf s with sum := num (tn s c m) 13 4 } := by
  unfold fsOf
  rw [num_lo (k := 0) (n := 8) (by omega), num_lo (k := 8) (n := 4) (by omega), num_lo (k := 12) (n := 1) (by omega), num_hi (k := 17) (by omega), num_hi (k := 19) (by omega), num_hi (k := 23) (by omega), num_hi (k := 31) (by omega), num_hi (k := 39) (by omega), num_hi (k := 47) (by omega)]
theorem fs_sum (s : ByteArray) : (fsOf s).sum = num s 13 4 := by simp only [fsOf]
theorem opn_err0 {s : ByteArray} {frame plain : Int} {E : Nat} (h : opn s frame plain = .error E) : E ≠ 0 := by
  unfold opn at h
  split at h
  · rename_i h1; injection h with h; rw [← h]; exact h1
  · split at h
    · rename_i h1; injection h with h; rw [← h]; exact h1
    · split at h
      · rename_i e he
        injection h with h
        subst h
        unfold bod at he
        split at he
        · split at he
          · injection he with he; omega
          · split at he
            · injection he with he; omega
            · split at he
              · injection he with he; omega
              · cases he
        · split at he
          · injection he with he; omega
          · cases he
      · split at h
        · rename_i h1; injection h with h; rw [← h]; exact h1
        · cases h
theorem opn_mark {s : ByteArray} {frame plain : Int} {m : Nat} (h : 51 ≤ s.size) (hm : num s 12 1 = 71) (h0 : 0 < m) (h1 : m < 256) : opn (tn s 12 m) frame plain = .error 28 := by
  obtain ⟨X, x, y, Y, e1, e2, hn⟩ := tn_mid (s := s) (c := 12) (m := m) (a := 12) (b := 12 + 1) h0 h1 (by omega) (by omega) (by omega)
  have hne := num_ne e1 e2 hn
  have hp : pke (tn s 12 m) = 28 := by
    refine pke_no (by rw [tn_size]; omega) ?_
    rw [← Bool.not_eq_true, rgt_iff]
    intro R
    have : num (tn s 12 m) 12 1 = 71 := R.mark
    omega
  unfold opn
  rw [hp, if_pos (by decide)]
theorem opn_sum {s : ByteArray} {frame plain : Int} {c m : Nat} {f : Fs} {b : ByteArray} (h : opn s frame plain = .ok (f, b)) (h0 : 0 < m) (h1 : m < 256) (hc1 : 13 ≤ c) (hc2 : c < 17) : opn (tn s c m) frame plain = .error 24 := by
  obtain ⟨p1, p2, p3, _, _⟩ := opn_parts h
  obtain ⟨h51, hR⟩ := pke_zero p1
  obtain ⟨w1, w2⟩ := whe_zero p3
  have hs : crcOf (s.extract 17 (12 + f.len)) = f.sum := by
    unfold whe at p3
    rw [if_neg w1, if_neg w2] at p3
    exact Classical.not_not.1 (fun hn => by rw [if_pos hn] at p3; cases p3)
  obtain ⟨X, x, y, Y, e1, e2, hn⟩ := tn_mid (s := s) (c := c) (m := m) (a := 13) (b := 13 + 4) h0 h1 (by omega) (by omega) (by omega)
  have hne := num_ne e1 e2 hn
  have hR' : Right (fsOf (tn s c m)) := by
    rw [fs_turn hc1 hc2]
    exact ⟨hR.mark, hR.st, hR.c1, hR.c2, hR.b, hR.o, hR.t, hR.p, hR.l1, hR.l2⟩
  have hp : pke (tn s c m) = 0 := by
    unfold pke
    rw [if_neg (by rw [tn_size]; omega), if_pos (rgt_iff.2 hR')]
  have hw : whe (tn s c m) (fsOf (tn s c m)) (wth frame 58 16777216) = 24 := by
    have el : (fsOf (tn s c m)).len = f.len := by rw [fs_turn hc1 hc2, ← p2]
    have es : (fsOf (tn s c m)).sum = num (tn s c m) 13 4 := by rw [fs_turn hc1 hc2]
    unfold whe
    rw [el, es, if_neg w1, if_neg (by rw [tn_size]; exact w2), tn_hi (by omega), hs, if_pos]
    intro e
    apply hne
    rw [← e, ← p2, fs_sum]
  unfold opn
  rw [hp, if_neg (by simp), hw, if_pos (by decide)]
/-- What a frame with one byte turned is. -/
theorem opn_turnE {s : ByteArray} {frame plain : Int} {c m : Nat} {f : Fs} {b : ByteArray} (h : opn s frame plain = .ok (f, b)) (h0 : 0 < m) (h1 : m < 256) (hc1 : 12 ≤ c) (hc2 : c < 12 + f.len) : ∃ E : Nat, opn (tn s c m) frame plain = .error E ∧ E ≠ 0 ∧ (c = 12 → E = 28) ∧ (13 ≤ c → c ≤ 16 → E = 24) := by
  obtain ⟨p1, p2, p3, _, _⟩ := opn_parts h
  obtain ⟨h51, hR⟩ := pke_zero p1
  rcases Nat.lt_or_ge c 13 with h12 | h12
  · have : c = 12 := by omega
    subst this
    have m1 : num s 12 1 = 71 := hR.mark
    exact ⟨28, opn_mark h51 m1 h0 h1, by decide, fun _ => rfl, fun h => absurd h (by omega)⟩
  · rcases Nat.lt_or_ge c 17 with h17 | h17
    · exact ⟨24, opn_sum h h0 h1 h12 h17, by decide, fun h => by omega, fun _ _ => rfl⟩
    · have ht := opn_turn h h0 h1 hc1 hc2
      cases hx : opn (tn s c m) frame plain with
      | error E => exact ⟨E, rfl, opn_err0 hx, fun h => by omega, fun _ h => by omega⟩
      | ok y =>
        obtain ⟨f', b'⟩ := y
        exact absurd hx (ht f' b')
/-- A frame that is cut anywhere. -/
theorem opn_cutA {b : Bt} {T : ByteArray} (hb : BtOk b) (h : StoP b 0 T) (k : Nat) (h2 : k < 51 + T.size) (frame plain : Int) (hm : ((51 + T.size : Nat) : Int) ≤ wth frame 58 16777216) :
    opn ((frm (fsB b T.size) T).extract 0 k) frame plain = .error 20 := by
  rcases Nat.lt_or_ge k 51 with h1 | h1
  · have hz : ((frm (fsB b T.size) T).extract 0 k).size = k := by rw [ByteArray.size_extract, frm_size]; omega
    have hp : pke ((frm (fsB b T.size) T).extract 0 k) = 20 := pke_short (by omega)
    unfold opn
    rw [hp, if_pos (by decide)]
  · exact opn_cut hb h k h1 h2 frame plain hm
end Go.Proofs.YtihokphamgkkcaaGreat
namespace Go.Proofs.YtihokphamgkkcaaGreat
open Go.RowKit Go.WideShapes
theorem Tryz.stStr : Tryz.prog.underlying 9 = some .string := by kernel_rfl
theorem Tryz.stBytes : Tryz.prog.underlying 63 = some (.slice 5) := by kernel_rfl
theorem Tryz.stU8 : Tryz.prog.underlying 5 = some (.int .u8) := by kernel_rfl
theorem bel_bytes (w : World) (e : TypeId) (s : ByteArray) : Below w.heap.size w (Lib.bytesWorld w e s) :=
  ⟨rfl, rfl, rfl, by rw [Lib.bytesWorld_size]; omega, fun k hk => Lib.bytesWorld_at_old w e s k hk⟩
set_option maxRecDepth 20000 in
/-- The bytes of a text in a row of their own, one of them turned. -/
theorem turned_row (s : ByteArray) (k m : Nat) (w : World) (hk : k < s.size) (hm : m < 256) :
    ∃ (C B : Nat) (V : World), (convert 9 63 (.string s)).run Tryz.prog w = .ok (.slice (some ⟨w.heap.size, 0, none⟩) s.size C) V ∧ V.cell? ⟨w.heap.size, k, none⟩ = some (.int .u8 B) ∧ V.frozen? ⟨w.heap.size, k, none⟩ = false ∧ B < 256 ∧ Below w.heap.size w (V.setCell ⟨w.heap.size, k, none⟩ (.int .u8 (B ^^^ m : Nat))) ∧
      ∀ y, Below (V.setCell ⟨w.heap.size, k, none⟩ (.int .u8 (B ^^^ m : Nat))).heap.size (V.setCell ⟨w.heap.size, k, none⟩ (.int .u8 (B ^^^ m : Nat))) y → (convert 63 9 (.slice (some ⟨w.heap.size, 0, none⟩) s.size C)).run Tryz.prog y = .ok (.string (tn s k m)) y := by
  have hcv := Lib.run_convert_string_bytes (P := Tryz.prog) w 9 63 5 s Tryz.stStr Tryz.stBytes Tryz.stU8
  have hbel := bel_bytes w 5 s
  have hcell := fun j hj => Lib.bytesWorld_cell w 5 s j hj
  have hnew := Lib.bytesWorld_at_new w 5 s
  have hcs : s.size ≤ (Lib.bytesCells w 5 s).size := by simp [Lib.bytesCells]
  have hfz : (Lib.bytesWorld w 5 s).frozen? ⟨w.heap.size, k, none⟩ = false := by
    simp [World.frozen?, hnew]; omega
  generalize grownCap w s.size 0 5 = C at *
  generalize Lib.bytesWorld w 5 s = V at *
  obtain ⟨B, hB⟩ : ∃ B : Nat, B = (s.data.toList.getD k 0).toNat := ⟨_, rfl⟩
  have hBl : B < 256 := by rw [hB]; exact UInt8.toNat_lt _
  have hck := hcell k hk
  rw [← hB] at hck
  have hxl : B ^^^ m < 256 := Nat.xor_lt_two_pow (n := 8) hBl hm
  refine ⟨C, B, V, hcv, hck, hfz, hBl, hbel.setCell (Nat.le_refl _) _, fun y hy => ?_⟩
  have hVn := heap_set (i := k) (v := .int .u8 (B ^^^ m : Nat)) hnew
  have hyn := keep hVn hy
  have h := run_convert_bytes_back (P := Tryz.prog) y 63 9 5 ⟨w.heap.size, 0, none⟩ C (tn s k m).data.toList Tryz.stBytes Tryz.stU8 Tryz.stStr (by
    intro j hj
    have hj2 : j < s.size := by rw [tn_data] at hj; simpa using hj
    have hadd : (⟨w.heap.size, 0, none⟩ : Addr).add j = ⟨w.heap.size, j, none⟩ := by unfold Addr.add; split <;> simp_all
    rw [hadd]
    have hc1 := hcell j hj2
    rw [cell_of hnew] at hc1
    rw [cell_of hyn, Array.getElem?_setIfInBounds]
    by_cases he : k = j
    · subst he
      rw [if_pos rfl, if_pos (by omega)]
      simp only [tn_data, List.getElem_set_self, UInt8.toNat_ofNat', ← hB]
      congr 2; omega
    · rw [if_neg he, hc1]
      simp only [tn_data, List.getElem_set_ne he]
      congr 3
      rw [List.getD_eq_getElem?_getD, List.getElem?_eq_getElem (by simpa using hj2)]
      rfl)
  rw [show (tn s k m).data.toList.length = s.size by rw [tn_data]; simp] at h
  exact h
set_option maxHeartbeats 1000000 in
set_option maxRecDepth 20000 in
theorem turned_any (s : ByteArray) (k m : Nat) (w : World) (hk : k < s.size) (hm : m < 256) :
    Calls Tryz.prog 21 #[.string s, .int .i64 k, .int .u8 m] w fun e w' => e = .returned (.string (tn s k m)) ∧ Below w.heap.size w w' := by
  obtain ⟨C, Bv, V, hcv, hck, hfk, hBl, hb2, hback⟩ := turned_row s k m w hk hm
  have hx := u8_xor_nat Bv m hBl hm
  have HBK := hid hback
  have hcI : (k : Int) < s.size := by omega
  have hc0 : (0 : Int) ≤ (k : Int) := by omega
  clear hback
  obtain ⟨V2, hV2⟩ : ∃ V2, V.setCell ⟨w.heap.size, k, none⟩ (.int .u8 (Bv ^^^ m : Nat)) = V2 := ⟨_, rfl⟩
  rw [hV2] at hb2 HBK
  have hbk := HBK.out V2 (Below.refl _ _)
  go_enter Tryz.func21, Tryz.ntmps21
  go_wp2_with fail
  go_ret
  exact ⟨rfl, hb2⟩
end Go.Proofs.YtihokphamgkkcaaGreat
namespace Go.Proofs.YtihokphamgkkcaaGreat
open Go.RowKit
set_option maxHeartbeats 4000000 in
set_option maxRecDepth 20000 in
theorem turns_err (b0 : Int) (pk : Bool) (prod seq : Int) (l : List RI) (L : Nat) (a : Option Addr) (cap : Nat) (at' : Int) (m : Nat) (w : World) (V : Rcs w a l) (E : Nat) (hx : E ≠ 0) (CE : Hid (∀ w, Rcs w a l → Calls Tryz.prog 9 #[.agg #[.int .i64 b0, .bool pk, .int .i64 prod, .int .i32 seq, .slice a L cap]] w fun e w' => e = .returned (.tuple #[.string ⟨#[]⟩, .int .i64 E]) ∧ Below w.heap.size w w')) : Calls Tryz.prog 6 #[.agg #[.int .i64 b0, .bool pk, .int .i64 prod, .int .i32 seq, .slice a L cap], .int .i64 at', .int .u8 m] w fun e w' => e = .returned (.bool true) ∧ Below w.heap.size w w' := by
  have hx' : ¬ (E : Int) = 0 := by omega
  have CA := hid (fun w => awake6_any w)
  have N0 := Bx1.new w #[.int .i64 b0, .bool pk, .int .i64 prod, .int .i32 seq, .slice a L cap] 24
  go_enter Tryz.func6, Tryz.ntmps6
  go_wp2_with fail
  refine (CA.out _).mono ?_
  rintro e w1 ⟨rfl, b1⟩
  have N1 := N0.call b1
  have V1 := V.below N1.b
  obtain ⟨k0, k1, k2, k3, k4⟩ := cells5 N1.p
  clear b1 N0
  go_wp2_with fail
  refine (CE.out _ V1).mono ?_
  rintro e w2 ⟨rfl, b2⟩
  have N2 := N1.call b2
  clear b2 N1 k0 k1 k2 k3 k4 V1
  go_wp2_with fail
  go_ret
  exact ⟨rfl, N2.b⟩
set_option maxHeartbeats 4000000 in
set_option maxRecDepth 20000 in
theorem turns_walk (b0 : Int) (pk : Bool) (prod seq : Int) (l : List RI) (L : Nat) (a : Option Addr) (cap : Nat) (at' : Int) (m : Nat) (w : World) (V : Rcs w a l) (S : ByteArray) (N : Nat) (hN : 58 ≤ N) (hN2 : N ≤ 16777216) (hS : S.size = N) (hm : m < 256) (ha1 : -9223372036854775808 ≤ at') (ha2 : at' ≤ 9223372036854775807) (CE : Hid (∀ w, Rcs w a l → Calls Tryz.prog 9 #[.agg #[.int .i64 b0, .bool pk, .int .i64 prod, .int .i32 seq, .slice a L cap]] w fun e w' => e = .returned (.tuple #[.string S, .int .i64 0]) ∧ Below w.heap.size w w'))
    (CK : Hid (∀ (k : Nat) w, k < N → Calls Tryz.prog 14 #[.string (S.extract 0 k), .int .i64 16777216, .int .i64 16777216] w fun e w' => e = .returned (.tuple #[.agg #[.int .i64 0, .int .i64 0, .bool false, .int .i64 0, .int .i64 0, .int .i64 0, .int .i64 0, .int .i32 0], .int .i64 20]) ∧ Below w.heap.size w w'))
    (CT : Hid (∀ (c : Nat) w, c < N → 12 ≤ c → ∃ (h0 h1 : Int) (h2 : Bool) (h3 h4 h5 h6 h7 : Int) (E : Nat), (Calls Tryz.prog 14 #[.string (tn S c m), .int .i64 16777216, .int .i64 16777216] w fun e w' => e = .returned (.tuple #[.agg #[.int .i64 h0, .int .i64 h1, .bool h2, .int .i64 h3, .int .i64 h4, .int .i64 h5, .int .i64 h6, .int .i32 h7], .int .i64 E]) ∧ Below w.heap.size w w') ∧ (m = 0 → E = 0) ∧ (m ≠ 0 → E ≠ 0 ∧ (c = 12 → E = 28) ∧ (13 ≤ c → c ≤ 16 → E = 24) ∧ h0 = 0 ∧ h1 = 0 ∧ h2 = false ∧ h3 = 0 ∧ h4 = 0 ∧ h5 = 0 ∧ h6 = 0 ∧ h7 = 0))) : Calls Tryz.prog 6 #[.agg #[.int .i64 b0, .bool pk, .int .i64 prod, .int .i32 seq, .slice a L cap], .int .i64 at', .int .u8 m] w fun e w' => e = .returned (.bool true) ∧ Below w.heap.size w w' := by
  have CA := hid (fun w => awake6_any w)
  have N0 := Bx1.new w #[.int .i64 b0, .bool pk, .int .i64 prod, .int .i32 seq, .slice a L cap] 24
  go_enter Tryz.func6, Tryz.ntmps6
  go_wp2_with fail
  refine (CA.out _).mono ?_
  rintro e w1 ⟨rfl, b1⟩
  have N1 := N0.call b1
  have V1 := V.below N1.b
  obtain ⟨k0, k1, k2, k3, k4⟩ := cells5 N1.p
  clear b1 N0
  go_wp2_with fail
  refine (CE.out _ V1).mono ?_
  rintro e w2 ⟨rfl, b2⟩
  have N2 := N1.call b2
  clear b2 N1 k0 k1 k2 k3 k4 V1
  by_cases h1 : at' < 0
  · obtain ⟨A, hA⟩ : ∃ A : Nat, -(at' + 1) = (A : Int) := ⟨(-(at' + 1)).toNat, by omega⟩
    obtain ⟨c, hcd⟩ : ∃ c, c = A % N := ⟨_, rfl⟩
    have hc : c < N := by rw [hcd]; exact Nat.mod_lt _ (by omega)
    have hmod : (A : Int) % (N : Int) = (c : Int) := by rw [hcd]; rfl
    have hc0 : (0 : Int) ≤ (c : Int) := by omega
    have hcI : (c : Int) ≤ (N : Int) := by omega
    have hN0 : ¬ (N : Int) = 0 := by omega
    clear hcd
    go_wp2_with fail
    refine (CK.out c _ hc).mono ?_
    rintro e w3 ⟨rfl, b3⟩
    have N3 := (N2.call b3).alloc (.cells #[.int .i64 0, .int .i64 0, .bool false, .int .i64 0, .int .i64 0, .int .i64 0, .int .i64 0, .int .i32 0] 35)
    obtain ⟨d, hdd⟩ : ∃ d, d = A % (N - 12) := ⟨_, rfl⟩
    have hd : d < N - 12 := by rw [hdd]; exact Nat.mod_lt _ (by omega)
    obtain ⟨M, hM⟩ : ∃ M : Nat, M = N - 12 := ⟨_, rfl⟩
    have hMI : (N : Int) - 12 = (M : Int) := by omega
    have hdm : (A : Int) % (M : Int) = (d : Int) := by rw [hdd, ← hM]; rfl
    have hM0 : ¬ (M : Int) = 0 := by omega
    obtain ⟨C, hC⟩ : ∃ C : Nat, C = 12 + d := ⟨_, rfl⟩
    have hCI : (12 : Int) + (d : Int) = (C : Int) := by omega
    have hCs : C < S.size := by omega
    have hCN : C < N := by omega
    have hC12 : 12 ≤ C := by omega
    clear hdd hmod hc hc0 hcI b3 N2 CK hM hC hd
    go_wp2_with fail
    generalize w3.alloc (.cells #[.int .i64 0, .int .i64 0, .bool false, .int .i64 0, .int .i64 0, .int .i64 0, .int .i64 0, .int .i32 0] 35) = W3 at *
    refine (turned_any S C m _ hCs hm).mono ?_
    rintro e w4 ⟨rfl, b4⟩
    have N4 := N3.call b4
    clear b4 N3
    obtain ⟨h0, h1, h2, h3, h4, h5, h6, h7, E, CC, z1, z2⟩ := CT.out C w4 hCN hC12
    clear CT
    go_wp2_with fail
    refine CC.mono ?_
    rintro e w5 ⟨rfl, b5⟩
    have N5 := N4.call b5
    have N6 := N5.alloc (.cells #[.int .i64 h0, .int .i64 h1, .bool h2, .int .i64 h3, .int .i64 h4, .int .i64 h5, .int .i64 h6, .int .i32 h7] 35)
    have H6 : (w5.alloc (.cells #[.int .i64 h0, .int .i64 h1, .bool h2, .int .i64 h3, .int .i64 h4, .int .i64 h5, .int .i64 h6, .int .i32 h7] 35)).heap[w5.heap.size]? = some (.cells #[.int .i64 h0, .int .i64 h1, .bool h2, .int .i64 h3, .int .i64 h4, .int .i64 h5, .int .i64 h6, .int .i32 h7] 35 (0, 0)) := heap_new _ _
    clear b5 N4 N5 CC hM0 hMI hdm hCI hCs
    by_cases hm0 : m = 0
    · have hE0 := z1 hm0
      subst hE0 hm0
      clear z1 z2 H6
      go_wp2_with fail
      go_ret
      exact ⟨rfl, N6.b⟩
    · obtain ⟨y0, y1, y2, rfl, rfl, rfl, rfl, rfl, rfl, rfl, rfl⟩ := z2 hm0
      have hm0I : ¬ (m : Int) = 0 := by omega
      have hm0B : ((m : Int) == 0) = false := by simp; omega
      have hEI : ¬ (E : Int) = 0 := by omega
      have hEB : ((E : Int) != 0) = true := by rw [bne_iff_ne]; exact hEI
      obtain ⟨c0, c1, c2, c3, c4, c5, c6, c7⟩ := cells8 H6
      have EH := fun w => eql_head 0 0 false 0 0 0 0 0 w
      clear z1 z2 H6 hm0
      rcases Nat.lt_or_ge C 13 with g1 | g1
      · have hC : C = 12 := by omega
        subst hC
        have hE := y1 rfl
        subst hE
        clear y0 y1 y2
        go_wp2_with fail
        go_ret
        exact ⟨rfl, N6.b⟩
      · have f1 : ¬ (C : Int) = 12 := by omega
        have f2 : ((C : Int) != 12) = true := by rw [bne_iff_ne]; exact f1
        have f3 : ¬ (C : Int) < 13 := by omega
        have f4 : decide ((C : Int) < 13) = false := decide_eq_false f3
        rcases Nat.lt_or_ge C 17 with g2 | g2
        · have hE := y2 g1 (by omega)
          subst hE
          have f5 : ¬ (16 : Int) < (C : Int) := by omega
          have f6 : decide ((16 : Int) < (C : Int)) = false := decide_eq_false f5
          clear y0 y1 y2
          go_wp2_with fail
          go_ret
          exact ⟨rfl, N6.b⟩
        · have f5 : (16 : Int) < (C : Int) := by omega
          have f6 : decide ((16 : Int) < (C : Int)) = true := decide_eq_true f5
          clear y0 y1 y2
          go_wp2_with fail
          go_ret
          exact ⟨rfl, N6.b⟩
  · obtain ⟨A, rfl⟩ : ∃ A : Nat, at' = (A : Int) := ⟨at'.toNat, by omega⟩
    obtain ⟨c, hcd⟩ : ∃ c, c = A % N := ⟨_, rfl⟩
    have hc : c < N := by rw [hcd]; exact Nat.mod_lt _ (by omega)
    have hmod : (A : Int) % (N : Int) = (c : Int) := by rw [hcd]; rfl
    have hc0 : (0 : Int) ≤ (c : Int) := by omega
    have hcI : (c : Int) ≤ (N : Int) := by omega
    have hN0 : ¬ (N : Int) = 0 := by omega
    clear hcd
    go_wp2_with fail
    refine (CK.out c _ hc).mono ?_
    rintro e w3 ⟨rfl, b3⟩
    have N3 := (N2.call b3).alloc (.cells #[.int .i64 0, .int .i64 0, .bool false, .int .i64 0, .int .i64 0, .int .i64 0, .int .i64 0, .int .i32 0] 35)
    obtain ⟨d, hdd⟩ : ∃ d, d = A % (N - 12) := ⟨_, rfl⟩
    have hd : d < N - 12 := by rw [hdd]; exact Nat.mod_lt _ (by omega)
    obtain ⟨M, hM⟩ : ∃ M : Nat, M = N - 12 := ⟨_, rfl⟩
    have hMI : (N : Int) - 12 = (M : Int) := by omega
    have hdm : (A : Int) % (M : Int) = (d : Int) := by rw [hdd, ← hM]; rfl
    have hM0 : ¬ (M : Int) = 0 := by omega
    obtain ⟨C, hC⟩ : ∃ C : Nat, C = 12 + d := ⟨_, rfl⟩
    have hCI : (12 : Int) + (d : Int) = (C : Int) := by omega
    have hCs : C < S.size := by omega
    have hCN : C < N := by omega
    have hC12 : 12 ≤ C := by omega
    clear hdd hmod hc hc0 hcI b3 N2 CK hM hC hd
    go_wp2_with fail
    generalize w3.alloc (.cells #[.int .i64 0, .int .i64 0, .bool false, .int .i64 0, .int .i64 0, .int .i64 0, .int .i64 0, .int .i32 0] 35) = W3 at *
    refine (turned_any S C m _ hCs hm).mono ?_
    rintro e w4 ⟨rfl, b4⟩
    have N4 := N3.call b4
    clear b4 N3
    obtain ⟨h0, h1, h2, h3, h4, h5, h6, h7, E, CC, z1, z2⟩ := CT.out C w4 hCN hC12
    clear CT
    go_wp2_with fail
    refine CC.mono ?_
    rintro e w5 ⟨rfl, b5⟩
    have N5 := N4.call b5
    have N6 := N5.alloc (.cells #[.int .i64 h0, .int .i64 h1, .bool h2, .int .i64 h3, .int .i64 h4, .int .i64 h5, .int .i64 h6, .int .i32 h7] 35)
    have H6 : (w5.alloc (.cells #[.int .i64 h0, .int .i64 h1, .bool h2, .int .i64 h3, .int .i64 h4, .int .i64 h5, .int .i64 h6, .int .i32 h7] 35)).heap[w5.heap.size]? = some (.cells #[.int .i64 h0, .int .i64 h1, .bool h2, .int .i64 h3, .int .i64 h4, .int .i64 h5, .int .i64 h6, .int .i32 h7] 35 (0, 0)) := heap_new _ _
    clear b5 N4 N5 CC hM0 hMI hdm hCI hCs
    by_cases hm0 : m = 0
    · have hE0 := z1 hm0
      subst hE0 hm0
      clear z1 z2 H6
      go_wp2_with fail
      go_ret
      exact ⟨rfl, N6.b⟩
    · obtain ⟨y0, y1, y2, rfl, rfl, rfl, rfl, rfl, rfl, rfl, rfl⟩ := z2 hm0
      have hm0I : ¬ (m : Int) = 0 := by omega
      have hm0B : ((m : Int) == 0) = false := by simp; omega
      have hEI : ¬ (E : Int) = 0 := by omega
      have hEB : ((E : Int) != 0) = true := by rw [bne_iff_ne]; exact hEI
      obtain ⟨c0, c1, c2, c3, c4, c5, c6, c7⟩ := cells8 H6
      have EH := fun w => eql_head 0 0 false 0 0 0 0 0 w
      clear z1 z2 H6 hm0
      rcases Nat.lt_or_ge C 13 with g1 | g1
      · have hC : C = 12 := by omega
        subst hC
        have hE := y1 rfl
        subst hE
        clear y0 y1 y2
        go_wp2_with fail
        go_ret
        exact ⟨rfl, N6.b⟩
      · have f1 : ¬ (C : Int) = 12 := by omega
        have f2 : ((C : Int) != 12) = true := by rw [bne_iff_ne]; exact f1
        have f3 : ¬ (C : Int) < 13 := by omega
        have f4 : decide ((C : Int) < 13) = false := decide_eq_false f3
        rcases Nat.lt_or_ge C 17 with g2 | g2
        · have hE := y2 g1 (by omega)
          subst hE
          have f5 : ¬ (16 : Int) < (C : Int) := by omega
          have f6 : decide ((16 : Int) < (C : Int)) = false := decide_eq_false f5
          clear y0 y1 y2
          go_wp2_with fail
          go_ret
          exact ⟨rfl, N6.b⟩
        · have f5 : (16 : Int) < (C : Int) := by omega
          have f6 : decide ((16 : Int) < (C : Int)) = true := decide_eq_true f5
          clear y0 y1 y2
          go_wp2_with fail
          go_ret
          exact ⟨rfl, N6.b⟩
end Go.Proofs.YtihokphamgkkcaaGreat
namespace Go.Proofs.YtihokphamgkkcaaGreat
open Go.RowKit
theorem hd_eqT {b : Bt} {T : ByteArray} : hdV (hdB b T) = .agg #[.int .i64 b.base, .int .i64 (51 + T.size : Nat), .bool b.pk, .int .i64 b.l.length, .int .i64 (b.l.getD 0 dri).r.t, .int .i64 (grt b.l), .int .i64 b.prod, .int .i32 b.seq] := by
  have hlen : ((12 + (hdB b T).len : Nat) : Int) = ((51 + T.size : Nat) : Int) := by show ((12 + (39 + T.size) : Nat) : Int) = _; omega
  have hpk : decide ((hdB b T).st = 1) = b.pk := by
    show decide ((if b.pk = true then 1 else 0) = 1) = b.pk
    by_cases hp : b.pk = true
    · simp [hp]
    · simp [hp]
  unfold hdV
  rw [hlen, hpk]
  rfl
theorem turns6_walk (b : Bt) (at' m : Int) (w : World) (hb : BtOk b) (V : Rcs w b.a b.l) (ha1 : -9223372036854775808 ≤ at') (ha2 : at' ≤ 9223372036854775807) (hm0 : 0 ≤ m) (hm1 : m ≤ 255) :
    Calls Tryz.prog 6 #[.agg #[.int .i64 b.base, .bool b.pk, .int .i64 b.prod, .int .i32 b.seq, .slice b.a b.l.length b.cap], .int .i64 at', .int .u8 m] w fun e w' => e = .returned (.bool true) ∧ Below w.heap.size w w' := by
  obtain ⟨m, rfl⟩ : ∃ k : Nat, m = k := ⟨m.toNat, by omega⟩
  have ce := fun w V => encode_any b w V hb.t hb.m hb.l
  unfold btV btA at ce
  by_cases hz : ∃ T, StoP b 0 T
  · obtain ⟨T, hT⟩ := hz
    obtain ⟨r0, S0, q1, q2, q3⟩ := sto_ok hT
    have det : ∀ E T', StoP b E T' → E = 0 ∧ T' = T := fun E T' h => sto_det hT h (fun _ _ _ _ h h' => body_det h h') rfl
    have hbk := body_back hb.t hb.m q1
    have hSz : (frm (fsB b T.size) T).size = 51 + T.size := frm_size _ _
    have hR := frm_right hb hT
    have h46 : 46 ≤ 39 + T.size := hR.1.l1
    have hop : opn (frm (fsB b T.size) T) 16777216 16777216 = .ok (hdB b T, S0) := by
      have := opn_frame (S := S0) hb r0 q1 (by rw [← q2]; exact q3) ⟨#[]⟩ 16777216 16777216 (by rw [← q2]; unfold wth; omega) (by have := hbk.2.1; unfold wth; omega)
      rw [app_emp, ← q2] at this
      exact this
    have hcut := fun k hk => opn_cutA hb hT k hk 16777216 16777216 (by unfold wth; omega)
    have ce2 : ∀ w, Rcs w b.a b.l → Calls Tryz.prog 9 #[.agg #[.int .i64 b.base, .bool b.pk, .int .i64 b.prod, .int .i32 b.seq, .slice b.a b.l.length b.cap]] w fun e w' => e = .returned (.tuple #[.string (frm (fsB b T.size) T), .int .i64 0]) ∧ Below w.heap.size w w' := fun w V => by
      refine (ce w V).mono ?_
      rintro e w' ⟨⟨E, S', rfl, hE⟩, hbl⟩
      rcases hE with ⟨h1, h2, _⟩ | ⟨rfl, T', h2, h3⟩
      · exact absurd (det _ _ h2).1 h1
      · have := (det _ _ h2).2
        subst this
        rw [h3]
        exact ⟨rfl, hbl⟩
    refine turns_walk b.base b.pk b.prod b.seq b.l b.l.length b.a b.cap at' m w V (frm (fsB b T.size) T) (51 + T.size) (by omega) (by omega) hSz (by omega) ha1 ha2 (hid ce2) (hid fun k w hk => ?_) (hid fun c w hc hc2 => ?_)
    · have c := check6_any ((frm (fsB b T.size) T).extract 0 k) 16777216 16777216 w (by rw [ByteArray.size_extract]; omega)
      rw [hcut k hk] at c
      exact c
    · have ck := check6_any (tn (frm (fsB b T.size) T) c m) 16777216 16777216 w (by rw [tn_size]; omega)
      by_cases h0 : m = 0
      · subst h0
        rw [tn_zero, hop] at ck
        unfold ChkV at ck
        dsimp only at ck
        rw [hd_eqT] at ck
        rw [tn_zero]
        exact ⟨_, _, _, _, _, _, _, _, 0, ck, fun _ => rfl, fun h => absurd rfl h⟩
      · obtain ⟨E, e1, e2, e3, e4⟩ := opn_turnE (m := m) hop (by omega) (by omega) hc2 (show c < 12 + (39 + T.size) by omega)
        rw [e1] at ck
        exact ⟨0, 0, false, 0, 0, 0, 0, 0, E, ck, fun h => absurd h h0, fun _ => ⟨e2, e3, e4, rfl, rfl, rfl, rfl, rfl, rfl, rfl, rfl⟩⟩
  · obtain ⟨E, hE1, hE2⟩ : ∃ E, E ≠ 0 ∧ StoP b E ⟨#[]⟩ := sto_some (fun T h => hz ⟨T, h⟩)
    refine turns_err b.base b.pk b.prod b.seq b.l b.l.length b.a b.cap at' m w V E hE1 (hid fun w V => ?_)
    refine (ce w V).mono ?_
    rintro e w' ⟨⟨E', S', rfl, hE⟩, hbl⟩
    rcases hE with ⟨_, h2, rfl⟩ | ⟨_, T, h2, _⟩
    · have := sto_same h2 hE2
      subst this
      exact ⟨rfl, hbl⟩
    · exact absurd ⟨T, h2⟩ hz
end Go.Proofs.YtihokphamgkkcaaGreat
