/- Texts of the proof, put together: Srp, Stp, Stq, Stw. -/
import Derived.Test.YtgcgnkafhpjdiabGreatMSd
import Derived.Lib.ConvBytes
namespace Go.Proofs.YtgcgnkafhpjdiabGreat
open Go.RowKit
def dpp : Bt × ByteArray := (dbt, ⟨#[]⟩)
theorem fys_getD : ∀ (ps : List (Bt × ByteArray)) (k j : Nat), j < ps.length → (frs (fys k ps)).getD j dfd = (hdP (ps.getD j dpp), k + (cat (ps.take j)).size)
  | [], _, _, h => by cases h
  | p :: ps, k, 0, _ => by show (hdP p, k) = (hdP p, k + 0); rfl
  | p :: ps, k, j + 1, h => by
    show (frs (fys (k + (frB p).size) ps)).getD j dfd = _
    rw [fys_getD ps _ j (by simpa using h)]
    show (hdP (ps.getD j dpp), k + (frB p).size + (cat (ps.take j)).size) = (hdP (ps.getD j dpp), k + (frB p ++ cat (ps.take j)).size)
    rw [ByteArray.size_append, Nat.add_assoc]
theorem ppD_take {l : List (Bt × ByteArray)} {j : Nat} (h : j < l.length) : l.take (j + 1) = l.take j ++ [l.getD j dpp] := by
  rw [List.getD_eq_getElem?_getD, List.getElem?_eq_getElem h, Option.getD_some, List.take_succ_eq_append_getElem h]
theorem ppD_mem {l : List (Bt × ByteArray)} {j : Nat} (h : j < l.length) : l.getD j dpp ∈ l := by
  rw [List.getD_eq_getElem?_getD, List.getElem?_eq_getElem h, Option.getD_some]
  exact List.getElem_mem h
theorem cat_step {l : List (Bt × ByteArray)} {j : Nat} (h : j < l.length) : (cat (l.take (j + 1))).size = (cat (l.take j)).size + (frB (l.getD j dpp)).size := by
  rw [ppD_take h, cat_snoc, ByteArray.size_append]
theorem cat_part {l : List (Bt × ByteArray)} {j : Nat} (h : j < l.length) : (cat l).extract (cat (l.take j)).size ((cat (l.take j)).size + (frB (l.getD j dpp)).size) = frB (l.getD j dpp) ∧ (cat (l.take j)).size + (frB (l.getD j dpp)).size ≤ (cat l).size := by
  have e : cat l = cat (l.take j) ++ (frB (l.getD j dpp) ++ cat (l.drop (j + 1))) := by
    conv => lhs; rw [← List.take_append_drop (j + 1) l, cat_app, ppD_take h, cat_snoc, ByteArray.append_assoc]
  refine ⟨?_, by rw [e, ByteArray.size_append, ByteArray.size_append]; omega⟩
  conv => lhs; rw [e]
  apply bl_inj
  rw [bl_ext, bl_app, bl_app, List.drop_left' (bl_len _)]
  exact List.take_left' (by rw [bl_len]; omega)
theorem FrC.mem : ∀ {b0 b1 : Int} {ps : List (Bt × ByteArray)}, FrC b0 ps b1 → ∀ p ∈ ps, BtOk p.1 ∧ StoP p.1 0 p.2
  | _, _, [], _, p, hp => by cases hp
  | _, _, q :: ps, h, p, hp => by
    rcases List.mem_cons.1 hp with rfl | hp
    · exact ⟨h.2.1, h.2.2.1⟩
    · exact FrC.mem h.2.2.2 p hp
theorem trc_ge {lk : Nat → Int → Except Nat Fs} {N : Nat} : ∀ (m k : Nat) (b : Int), k ≤ enG k (trc lk N m k b)
  | 0, k, b => Nat.le_refl _
  | m + 1, k, b => by
    by_cases hlt : k < N
    · cases h : lk k b with
      | error e => rw [trc_no hlt h]; exact Nat.le_refl _
      | ok f =>
        rw [trc_fr hlt h]
        have := trc_ge (lk := lk) (N := N) m (k + (12 + f.len)) (f.base + f.cnt)
        show k ≤ enG (k + (12 + f.len)) (trc lk N m (k + (12 + f.len)) (f.base + f.cnt))
        omega
    · rw [trc_end hlt]; exact Nat.le_refl _
theorem trc_why {lk : Nat → Int → Except Nat Fs} {N : Nat} (hl : ∀ k b f, lk k b = .ok f → k + (12 + f.len) ≤ N) (hp : ∀ k b e, lk k b = .error e → e ≠ 0) : ∀ (m k : Nat) (b : Int), k ≤ N → N - k < m → wyG 0 (trc lk N m k b) = 0 → enG k (trc lk N m k b) = N
  | 0, k, b, _, h, _ => by omega
  | m + 1, k, b, hk, h, hw => by
    by_cases hlt : k < N
    · cases he : lk k b with
      | error e =>
        rw [trc_no hlt he] at hw
        exact absurd hw (hp k b e he)
      | ok f =>
        rw [trc_fr hlt he] at hw ⊢
        exact trc_why hl hp m (k + (12 + f.len)) (f.base + f.cnt) (hl k b f he) (by omega) hw
    · rw [trc_end hlt]
      show k = N
      omega
theorem lks_in {s : ByteArray} {frame plain : Int} (k : Nat) (b : Int) (f : Fs) (h : lks s frame plain k b = .ok f) : k + (12 + f.len) ≤ s.size := by
  obtain ⟨bb, ho, _⟩ := lks_ok h
  have hr := opn_right ho
  rw [ByteArray.size_extract] at hr
  have := hr.1.l1
  omega
/-- The run with more behind it. -/
theorem tr_more {ps : List (Bt × ByteArray)} {b0 b1 : Int} (h : FrC b0 ps b1) (more : ByteArray) : ∃ X, frs (tr (cat ps ++ more) b0 16777216 16777216) = frs (fys 0 ps) ++ X ∧ (cat ps).size ≤ enG 0 (tr (cat ps ++ more) b0 16777216 16777216) ∧ (wyG 0 (tr (cat ps ++ more) b0 16777216 16777216) = 0 → enG 0 (tr (cat ps ++ more) b0 16777216 16777216) = (cat ps).size + more.size) := by
  obtain ⟨m, h1, h2⟩ := tr_cat h more
  rw [h2, frs_app, enG_app, wyG_app, fys_en, fys_wy, Nat.zero_add]
  refine ⟨_, rfl, trc_ge _ _ _, fun hw => ?_⟩
  rw [trc_why (fun k b f => lks_in k b f) (fun k b e => lks_pos) m _ _ (by rw [ByteArray.size_append]; omega) h1 hw, ByteArray.size_append]
theorem check_part {p : Bt × ByteArray} (h1 : BtOk p.1) (h2 : StoP p.1 0 p.2) (w : World) : Calls Tryz.prog 31 #[.string (frB p), .int .i64 16777216, .int .i64 16777216] w fun e w' => e = .returned (.tuple #[hdV (hdP p), .int .i64 0]) ∧ Below w.heap.size w w' := by
  have h := check6_any (frB p) 16777216 16777216 w (by have := (sto_zero h2).2 rfl; rw [frB_size]; omega)
  obtain ⟨S, ho⟩ := opn_sto h1 h2 ⟨#[]⟩
  rw [app_emp] at ho
  have ho' : opn (frB p) 16777216 16777216 = .ok (hdP p, S) := ho
  rw [ho'] at h
  exact h
theorem all_B (s : ByteArray) (base frame plain : Int) (hs : s.size ≤ 70368744177664) (w : World) :
    Calls Tryz.prog 6 #[.string s, .int .i64 base, .int .i64 frame, .int .i64 plain] w fun e w' => ∃ a cap, e = .returned (.tuple #[.slice a (frs (tr s base frame plain)).length cap, .int .i64 (enG 0 (tr s base frame plain)), .int .i64 (wyG 0 (tr s base frame plain))]) ∧ Fds w' a (frs (tr s base frame plain)) ∧ (frs (tr s base frame plain)).length ≤ cap ∧ Below w.heap.size w w' := by
  have hl := tr_le s base frame plain
  refine (all_any s base frame plain (by omega) (by omega) w).mono ?_
  rintro e w' ⟨v, rfl, hO, hb⟩
  obtain ⟨a, cap, rfl, V, hc⟩ := OwF.fds hO
  exact ⟨a, cap, rfl, V, hc, hb⟩
/-- A row of texts where it lies. -/
def Txr (w : World) (a : Option Addr) (ps : List (Bt × ByteArray)) : Prop := ps = [] ∨ ∃ g, a = some ⟨g, 0, none⟩ ∧ g < w.heap.size ∧ ∀ j, j < ps.length → w.cell? ⟨g, j, none⟩ = some (.string (frB (ps.getD j dpp)))
theorem Txr.below {w w' : World} {a : Option Addr} {ps : List (Bt × ByteArray)} (h : Txr w a ps) (k : Below w.heap.size w w') : Txr w' a ps := by
  rcases h with h | ⟨g, h1, h2, h3⟩
  · exact Or.inl h
  · exact Or.inr ⟨g, h1, Nat.lt_of_lt_of_le h2 k.size, fun j hj => (k.cell (p := ⟨g, j, none⟩) h2).trans (h3 j hj)⟩
theorem own_txr {w : World} {B : Nat} {v : Value} {ps : List (Bt × ByteArray)} (h : w.ownsRow B 9 1 v ps.length (pst ps)) : ∃ a cap, v = .slice a ps.length cap ∧ Txr w a ps := by
  by_cases h0 : ps.length = 0
  · rcases h.2 with ⟨rfl, _⟩ | ⟨g, cap, cur, rfl, _⟩
    · exact ⟨none, 0, by rw [h0], Or.inl (List.eq_nil_of_length_eq_zero h0)⟩
    · exact ⟨_, cap, rfl, Or.inl (List.eq_nil_of_length_eq_zero h0)⟩
  · obtain ⟨g, cap, rfl, hc, _, hg⟩ := own_some h h0
    refine ⟨_, cap, rfl, Or.inr ⟨g, rfl, hg, fun j hj => hc j _ ?_⟩⟩
    unfold pst
    rw [List.getElem?_map, List.getElem?_eq_getElem hj, List.getD_eq_getElem?_getD, List.getElem?_eq_getElem hj]
    rfl
end Go.Proofs.YtgcgnkafhpjdiabGreat
namespace Go.Proofs.YtgcgnkafhpjdiabGreat
open Go.RowKit
/-- The text with one byte turned. -/
def tn (s : ByteArray) (k m : Nat) : ByteArray := ⟨(s.data.toList.set k (UInt8.ofNat ((s.data.toList.getD k 0).toNat ^^^ m))).toArray⟩
theorem tn_size (s : ByteArray) (k m : Nat) : (tn s k m).size = s.size := by
  show (List.toArray _).size = _
  simp
theorem tn_data (s : ByteArray) (k m : Nat) : (tn s k m).data.toList = s.data.toList.set k (UInt8.ofNat ((s.data.toList.getD k 0).toNat ^^^ m)) := rfl
theorem dl_ext (s : ByteArray) (a b : Nat) : (s.extract a b).data.toList = (s.data.toList.drop a).take (b - a) := by
  rw [ByteArray.data_extract, Array.toList_extract, List.extract_eq_take_drop]
theorem dl_inj {s t : ByteArray} (h : s.data.toList = t.data.toList) : s = t := by
  cases s with
  | mk a =>
    cases t with
    | mk b =>
      have : a = b := Array.ext' h
      rw [this]
theorem tn_lo {s : ByteArray} {c m a b : Nat} (h : b ≤ c) : (tn s c m).extract a b = s.extract a b := by
  apply dl_inj
  rw [dl_ext, dl_ext, tn_data]
  apply List.ext_getElem?
  intro i
  rw [List.getElem?_take, List.getElem?_take]
  split
  · rw [List.getElem?_drop, List.getElem?_drop, List.getElem?_set_ne (by omega)]
  · rfl
theorem tn_hi {s : ByteArray} {c m a b : Nat} (h : c < a) : (tn s c m).extract a b = s.extract a b := by
  apply dl_inj
  rw [dl_ext, dl_ext, tn_data]
  apply List.ext_getElem?
  intro i
  rw [List.getElem?_take, List.getElem?_take]
  split
  · rw [List.getElem?_drop, List.getElem?_drop, List.getElem?_set_ne (by omega)]
  · rfl
theorem xor_ne {x m : Nat} (h : 0 < m) : x ^^^ m ≠ x := fun e => by
  have : (x ^^^ m) ^^^ x = x ^^^ x := by rw [e]
  rw [Nat.xor_comm x m, Nat.xor_assoc, Nat.xor_self, Nat.xor_zero] at this
  omega
/-- The bytes about the turned one. -/
theorem tn_mid {s : ByteArray} {c m a b : Nat} (h0 : 0 < m) (h1 : m < 256) (ha : a ≤ c) (hb : c < b) (hc : c < s.size) : ∃ X x y Y, (s.extract a b).data.toList = X ++ x :: Y ∧ ((tn s c m).extract a b).data.toList = X ++ y :: Y ∧ x ≠ y := by
  have hl : s.data.toList.length = s.size := by simp
  obtain ⟨x, hx⟩ : ∃ x, s.data.toList[c]? = some x := ⟨_, List.getElem?_eq_getElem (by omega)⟩
  have hg : s.data.toList.getD c 0 = x := by rw [List.getD_eq_getElem?_getD, hx]; rfl
  have hne : x ≠ UInt8.ofNat (x.toNat ^^^ m) := fun e => by
    have h2 := congrArg UInt8.toNat e
    rw [UInt8.toNat_ofNat'] at h2
    have h3 : x.toNat ^^^ m < 256 := Nat.xor_lt_two_pow (n := 8) (UInt8.toNat_lt _) h1
    rw [Nat.mod_eq_of_lt h3] at h2
    exact xor_ne h0 h2.symm
  have hsplit : s.data.toList = s.data.toList.take c ++ x :: s.data.toList.drop (c + 1) := by
    obtain ⟨hlt, e⟩ := List.getElem?_eq_some_iff.1 hx
    have e2 := List.drop_eq_getElem_cons hlt
    rw [e] at e2
    rw [← e2, List.take_append_drop]
  have hset : s.data.toList.set c (UInt8.ofNat ((s.data.toList.getD c 0).toNat ^^^ m)) = s.data.toList.take c ++ UInt8.ofNat (x.toNat ^^^ m) :: s.data.toList.drop (c + 1) := by
    rw [hg, List.set_eq_take_append_cons_drop, if_pos (by omega)]
  have hcut : ∀ z : UInt8, ((s.data.toList.take c ++ z :: s.data.toList.drop (c + 1)).drop a).take (b - a) = (s.data.toList.take c).drop a ++ z :: (s.data.toList.drop (c + 1)).take (b - c - 1) := by
    intro z
    have e1 : (s.data.toList.take c).length = c := by rw [List.length_take]; omega
    rw [List.drop_append_of_le_length (by omega), List.take_append, List.length_drop, e1, List.take_of_length_le (by rw [List.length_drop, e1]; omega)]
    congr 1
    have : b - a - (c - a) = (b - c - 1) + 1 := by omega
    rw [this, List.take_succ_cons]
  refine ⟨(s.data.toList.take c).drop a, x, UInt8.ofNat (x.toNat ^^^ m), (s.data.toList.drop (c + 1)).take (b - c - 1), ?_, ?_, hne⟩
  · rw [dl_ext]
    conv => lhs; rw [hsplit]
    exact hcut x
  · rw [dl_ext, tn_data, hset]
    exact hcut _
/-- One byte changes the sum. -/
theorem crc_turn {X Y : List UInt8} {x y : UInt8} (h : K.M.more 0 (X ++ x :: Y) = K.M.more 0 (X ++ y :: Y)) : x = y := by
  unfold K.M.more at h
  have h1 : K.M.run (0 ^^^ 4294967295) (X ++ x :: Y) = K.M.run (0 ^^^ 4294967295) (X ++ y :: Y) := by
    have := congrArg (fun v => v ^^^ 4294967295) h
    simp only [K.M.xor_twice] at this
    exact this
  rw [K.M.run_append, K.M.run_append, K.M.run_cons, K.M.run_cons] at h1
  have hr : K.M.run (0 ^^^ 4294967295) X < 4294967296 := K.M.run_lt X (by decide)
  have h2 := K.M.run_inj (K.M.tk_lt hr (UInt8.toNat_lt x)) (K.M.tk_lt hr (UInt8.toNat_lt y)) h1
  unfold K.M.tk at h2
  have hx : K.M.run (0 ^^^ 4294967295) X ^^^ x.toNat < 4294967296 := Nat.xor_lt_two_pow (n := 32) hr (by have := UInt8.toNat_lt x; omega)
  have hy : K.M.run (0 ^^^ 4294967295) X ^^^ y.toNat < 4294967296 := Nat.xor_lt_two_pow (n := 32) hr (by have := UInt8.toNat_lt y; omega)
  have h3 := K.M.mvN_inj hx hy h2
  generalize K.M.run (0 ^^^ 4294967295) X = r at *
  have h4 : x.toNat = y.toNat := by
    have := congrArg (fun v => r ^^^ v) h3
    simp only [← Nat.xor_assoc, Nat.xor_self, Nat.zero_xor] at this
    exact this
  exact UInt8.toNat_inj.1 h4
theorem bl_eq (s : ByteArray) : bl s = s.data.toList.map UInt8.toNat := by
  unfold bl
  simp
theorem nb_beS : ∀ (n : Nat) (l : List Nat), l.length = n → (∀ b ∈ l, b < 256) → nb n (be l) = l
  | 0, l, h, _ => by rw [List.eq_nil_of_length_eq_zero h]; rfl
  | n + 1, l, h, hb => by
    rcases List.eq_nil_or_concat l with rfl | ⟨l', b, rfl⟩
    · simp at h
    · have h' : l'.length = n := by simpa using h
      have hb1 := hb b (by simp)
      rw [List.concat_eq_append] at hb ⊢
      rw [be_snoc, nb]
      have e1 : (be l' * 256 + b) / 256 = be l' := by omega
      have e2 : (be l' * 256 + b) % 256 = b := by omega
      rw [e1, e2, nb_beS n l' h' (fun c hc => hb c (by simp [hc]))]
theorem be_inj (l m : List Nat) (h : l.length = m.length) (hl : ∀ b ∈ l, b < 256) (hm : ∀ b ∈ m, b < 256) (he : be l = be m) : l = m := by
  rw [← nb_beS _ l rfl hl, ← nb_beS _ m h.symm hm, he]
theorem num_ne {s t : ByteArray} {k n : Nat} {X Y : List UInt8} {x y : UInt8} (h1 : (s.extract k (k + n)).data.toList = X ++ x :: Y) (h2 : (t.extract k (k + n)).data.toList = X ++ y :: Y) (hn : x ≠ y) : num s k n ≠ num t k n := by
  intro h
  unfold num at h
  rw [bl_eq, bl_eq, h1, h2] at h
  have hb : ∀ (l : List UInt8), ∀ b ∈ l.map UInt8.toNat, b < 256 := fun l b hb => by
    obtain ⟨u, _, rfl⟩ := List.mem_map.1 hb
    exact UInt8.toNat_lt _
  have e := be_inj _ _ (by simp) (hb _) (hb _) h
  simp only [List.map_append, List.map_cons] at e
  have e2 := List.append_cancel_left e
  injection e2 with e3
  exact hn (UInt8.toNat_inj.1 e3)
theorem opn_turn {s : ByteArray} {frame plain : Int} {c m : Nat} {f : Fs} {b : ByteArray} (h : opn s frame plain = .ok (f, b)) (h0 : 0 < m) (h1 : m < 256) (hc1 : 12 ≤ c) (hc2 : c < 12 + f.len) : ∀ f' b', opn (tn s c m) frame plain ≠ .ok (f', b') := by
  intro f' b' h'
  obtain ⟨p1, p2, p3, _, _⟩ := opn_parts h
  obtain ⟨q1, q2, q3, _, _⟩ := opn_parts h'
  obtain ⟨_, hR⟩ := pke_zero p1
  obtain ⟨_, hR'⟩ := pke_zero q1
  have hz := (opn_right h).2.2
  have hlen : f'.len = f.len := by
    rw [← p2, ← q2]
    show num (tn s c m) 8 4 = num s 8 4
    unfold num
    rw [tn_lo (by omega)]
  rw [p2] at hR
  rw [q2] at hR'
  have hl := hR.l1
  have sum : crcOf (s.extract 17 (12 + f.len)) = f.sum := by
    obtain ⟨w1, w2⟩ := whe_zero p3
    unfold whe at p3
    rw [if_neg w1, if_neg w2] at p3
    exact Classical.not_not.1 (fun hn => by rw [if_pos hn] at p3; cases p3)
  have sum' : crcOf ((tn s c m).extract 17 (12 + f.len)) = f'.sum := by
    obtain ⟨w1, w2⟩ := whe_zero q3
    unfold whe at q3
    rw [if_neg w1, if_neg w2, hlen] at q3
    exact Classical.not_not.1 (fun hn => by rw [if_pos hn] at q3; cases q3)
  rcases Nat.lt_or_ge c 13 with h12 | h12
  · obtain ⟨X, x, y, Y, e1, e2, hn⟩ := tn_mid (s := s) (c := c) (m := m) (a := 12) (b := 12 + 1) h0 h1 hc1 (by omega) (by omega)
    have := num_ne e1 e2 hn
    have m1 : num s 12 1 = 71 := by have := hR.mark; rw [← p2] at this; exact this
    have m2 : num (tn s c m) 12 1 = 71 := by have := hR'.mark; rw [← q2] at this; exact this
    omega
  · rcases Nat.lt_or_ge c 17 with h17 | h17
    · obtain ⟨X, x, y, Y, e1, e2, hn⟩ := tn_mid (s := s) (c := c) (m := m) (a := 13) (b := 13 + 4) h0 h1 (by omega) (by omega) (by omega)
      have := num_ne e1 e2 hn
      rw [tn_hi h17, sum] at sum'
      rw [← p2, ← q2] at sum'
      exact this sum'
    · obtain ⟨X, x, y, Y, e1, e2, hn⟩ := tn_mid (s := s) (c := c) (m := m) (a := 17) (b := 12 + f.len) h0 h1 (by omega) (by omega) (by omega)
      have hs : f.sum = f'.sum := by
        rw [← p2, ← q2]
        show num s 13 4 = num (tn s c m) 13 4
        unfold num
        rw [tn_lo (by omega)]
      unfold crcOf at sum sum'
      rw [e1] at sum
      rw [e2] at sum'
      exact hn (crc_turn (by rw [sum, sum', hs]))
end Go.Proofs.YtgcgnkafhpjdiabGreat
namespace Go.Proofs.YtgcgnkafhpjdiabGreat
open Go.RowKit
theorem tn_sub {s : ByteArray} {c k m : Nat} (hk : k ≤ c) : (tn s c m).extract k (tn s c m).size = tn (s.extract k s.size) (c - k) m := by
  apply dl_inj
  have hl : s.data.toList.length = s.size := by simp
  have e0 : (s.data.toList.drop k).take (s.size - k) = s.data.toList.drop k := List.take_of_length_le (by rw [List.length_drop]; omega)
  have e1 : ((s.data.toList.drop k).set (c - k) (UInt8.ofNat ((s.data.toList.getD c 0).toNat ^^^ m))).length ≤ s.size - k := by rw [List.length_set, List.length_drop]; omega
  have eg : (s.data.toList.drop k).getD (c - k) 0 = s.data.toList.getD c 0 := by
    rw [List.getD_eq_getElem?_getD, List.getD_eq_getElem?_getD, List.getElem?_drop, show k + (c - k) = c by omega]
  rw [tn_size, dl_ext, tn_data, tn_data, dl_ext, e0, eg, List.drop_set, if_neg (by omega), List.take_of_length_le e1]
theorem lks_turn {s : ByteArray} {frame plain : Int} {c m k : Nat} {b : Int} {f : Fs} (h : lks s frame plain k b = .ok f) (h0 : 0 < m) (h1 : m < 256) (hc1 : k + 12 ≤ c) (hc2 : c < k + (12 + f.len)) : ∃ e, lks (tn s c m) frame plain k b = .error e := by
  obtain ⟨bb, ho, hb⟩ := lks_ok h
  have ht := opn_turn (c := c - k) ho h0 h1 (by omega) (by omega)
  unfold lks
  rw [tn_sub (by omega)]
  cases hx : opn (tn (s.extract k s.size) (c - k) m) frame plain with
  | error e => exact ⟨e, rfl⟩
  | ok y =>
    obtain ⟨f', b'⟩ := y
    exact absurd hx (ht f' b')
theorem lks_kept {s : ByteArray} {frame plain : Int} {c m k : Nat} {b : Int} {f : Fs} (h : lks s frame plain k b = .ok f) (hc : k + (12 + f.len) ≤ c) : lks (tn s c m) frame plain k b = .ok f := by
  obtain ⟨bb, ho, hb⟩ := lks_ok h
  have hr := opn_right ho
  rw [ByteArray.size_extract] at hr
  have ho2 : opn ((tn s c m).extract k (tn s c m).size) frame plain = .ok (f, bb) := opn_loc ho (by rw [ByteArray.size_extract, tn_size]; omega) (by
    rw [ByteArray.extract_extract, ByteArray.extract_extract, tn_size]
    have : (tn s c m).extract (k + 0) (min (k + (12 + f.len)) s.size) = s.extract (k + 0) (min (k + (12 + f.len)) s.size) := tn_lo (by omega)
    rw [this])
  unfold lks
  rw [ho2]
  dsimp only
  rw [if_pos hb]
theorem trc_turn {lk lk' : Nat → Int → Except Nat Fs} {N c : Nat} {P : Prop} (hK : ∀ k b f, lk k b = .ok f → k + (12 + f.len) ≤ c → lk' k b = .ok f) (hT : ∀ k b f, lk k b = .ok f → P → k + 12 ≤ c → c < k + (12 + f.len) → ∃ e, lk' k b = .error e) : ∀ (mm k : Nat) (b : Int) (n : Nat),
    n ≤ (frs (trc lk N mm k b)).length → (∀ i, i < n → fen ((frs (trc lk N mm k b)).getD i dfd) ≤ c) →
    (∀ i, i < n → i < (frs (trc lk' N mm k b)).length ∧ (frs (trc lk' N mm k b)).getD i dfd = (frs (trc lk N mm k b)).getD i dfd) ∧
    (n < (frs (trc lk N mm k b)).length → c < fen ((frs (trc lk N mm k b)).getD n dfd) → ((frs (trc lk N mm k b)).getD n dfd).2 + 12 ≤ c → P → (frs (trc lk' N mm k b)).length = n ∧ enG k (trc lk' N mm k b) = ((frs (trc lk N mm k b)).getD n dfd).2)
  | 0, k, b, n, h3, h4 => by
    have h3' : n ≤ 0 := h3
    have : n = 0 := by omega
    subst this
    exact ⟨fun i hi => absurd hi (by omega), fun h => absurd h (by show ¬ 0 < 0; omega)⟩
  | mm + 1, k, b, n, h3, h4 => by
    by_cases hlt : k < N
    · cases hs : lk k b with
      | error e =>
        rw [trc_no hlt hs] at h3 ⊢
        have h3' : n ≤ 0 := h3
        have : n = 0 := by omega
        subst this
        exact ⟨fun i hi => absurd hi (by omega), fun h => absurd h (by show ¬ 0 < 0; omega)⟩
      | ok f =>
        rw [trc_fr hlt hs] at h3 h4 ⊢
        dsimp only [frs] at h3 h4 ⊢
        cases n with
        | zero =>
          refine ⟨fun i hi => absurd hi (by omega), fun _ hc hd h0 => ?_⟩
          rw [List.getD_cons_zero] at hc hd ⊢
          obtain ⟨e, he⟩ := hT k b f hs h0 hd hc
          rw [trc_no hlt he]
          exact ⟨rfl, rfl⟩
        | succ n =>
          have h5 := h4 0 (by omega)
          rw [List.getD_cons_zero] at h5
          have ht := hK k b f hs h5
          rw [trc_fr hlt ht]
          dsimp only [frs]
          rw [List.length_cons] at h3
          obtain ⟨i1, i2⟩ := trc_turn (N := N) hK hT mm (k + (12 + f.len)) (f.base + f.cnt) n (by omega) (fun i hi => by have := h4 (i + 1) (by omega); rwa [List.getD_cons_succ] at this)
          refine ⟨fun i hi => ?_, fun ha hc hd h0 => ?_⟩
          · cases i with
            | zero => exact ⟨by rw [List.length_cons]; omega, rfl⟩
            | succ i =>
              obtain ⟨j1, j2⟩ := i1 i (by omega)
              exact ⟨by rw [List.length_cons]; omega, by rw [List.getD_cons_succ, List.getD_cons_succ]; exact j2⟩
          · rw [List.length_cons] at ha
            rw [List.getD_cons_succ] at hc hd ⊢
            obtain ⟨j1, j2⟩ := i2 (by omega) hc hd h0
            exact ⟨by rw [List.length_cons, j1], j2⟩
    · rw [trc_end (lk := lk) hlt] at h3 ⊢
      have h3' : n ≤ 0 := h3
      have : n = 0 := by omega
      subst this
      exact ⟨fun i hi => absurd hi (by omega), fun h => absurd h (by show ¬ 0 < 0; omega)⟩
theorem tr_turn {s : ByteArray} {base frame plain : Int} {c msk n : Nat} (h1 : msk < 256) (h3 : n ≤ (frs (tr s base frame plain)).length) (h4 : ∀ i, i < n → fen ((frs (tr s base frame plain)).getD i dfd) ≤ c) :
    (∀ i, i < n → i < (frs (tr (tn s c msk) base frame plain)).length ∧ (frs (tr (tn s c msk) base frame plain)).getD i dfd = (frs (tr s base frame plain)).getD i dfd) ∧
    (n < (frs (tr s base frame plain)).length → c < fen ((frs (tr s base frame plain)).getD n dfd) → ((frs (tr s base frame plain)).getD n dfd).2 + 12 ≤ c → 0 < msk → (frs (tr (tn s c msk) base frame plain)).length = n ∧ enG 0 (tr (tn s c msk) base frame plain) = ((frs (tr s base frame plain)).getD n dfd).2) := by
  have e : tr (tn s c msk) base frame plain = trc (lks (tn s c msk) frame plain) s.size (s.size + 1) 0 base := by unfold tr; rw [tn_size]
  rw [e]
  exact trc_turn (N := s.size) (c := c) (lk := lks s frame plain) (lk' := lks (tn s c msk) frame plain) (P := 0 < msk) (fun k b f h h2 => lks_kept h h2) (fun k b f h h0 h2 h3 => lks_turn h h0 h1 h2 h3) (s.size + 1) 0 base n h3 h4
end Go.Proofs.YtgcgnkafhpjdiabGreat
namespace Go.Proofs.YtgcgnkafhpjdiabGreat
open Go.RowKit Go.WideShapes
theorem Tryz.stStr : Tryz.prog.underlying 9 = some .string := by kernel_rfl
theorem Tryz.stBytes : Tryz.prog.underlying 25 = some (.slice 5) := by kernel_rfl
theorem Tryz.stU8 : Tryz.prog.underlying 5 = some (.int .u8) := by kernel_rfl
theorem bel_bytes (w : World) (e : TypeId) (s : ByteArray) : Below w.heap.size w (Lib.bytesWorld w e s) :=
  ⟨rfl, rfl, rfl, by rw [Lib.bytesWorld_size]; omega, fun k hk => Lib.bytesWorld_at_old w e s k hk⟩
/-- The question's box. -/
structure AB (w : World) (B : Nat) (s : ByteArray) (base frame plain : Int) (y : World) : Prop where
  b : Below w.heap.size w y
  f : y.heap[B]? = some (.cells #[.string s, .int .i64 base, .int .i64 frame, .int .i64 plain] 23 (0, 0))
theorem AB.call {w : World} {B : Nat} {s : ByteArray} {base frame plain : Int} {y y' : World} (h : AB w B s base frame plain y) (k : Below y.heap.size y y') : AB w B s base frame plain y' := ⟨h.b.trans (k.mono h.b.size), keep h.f k⟩
set_option maxRecDepth 20000 in
/-- The bytes of a text in a row of their own, one of them turned. -/
theorem turned_row (s : ByteArray) (k m : Nat) (w : World) (hk : k < s.size) (hm : m < 256) :
    ∃ (C B : Nat) (V : World), (convert 9 25 (.string s)).run Tryz.prog w = .ok (.slice (some ⟨w.heap.size, 0, none⟩) s.size C) V ∧ V.cell? ⟨w.heap.size, k, none⟩ = some (.int .u8 B) ∧ V.frozen? ⟨w.heap.size, k, none⟩ = false ∧ B < 256 ∧ Below w.heap.size w (V.setCell ⟨w.heap.size, k, none⟩ (.int .u8 (B ^^^ m : Nat))) ∧
      ∀ y, Below (V.setCell ⟨w.heap.size, k, none⟩ (.int .u8 (B ^^^ m : Nat))).heap.size (V.setCell ⟨w.heap.size, k, none⟩ (.int .u8 (B ^^^ m : Nat))) y → (convert 25 9 (.slice (some ⟨w.heap.size, 0, none⟩) s.size C)).run Tryz.prog y = .ok (.string (tn s k m)) y := by
  have hcv := Lib.run_convert_string_bytes (P := Tryz.prog) w 9 25 5 s Tryz.stStr Tryz.stBytes Tryz.stU8
  have hbel := bel_bytes w 5 s
  have hcell := fun j hj => Lib.bytesWorld_cell w 5 s j hj
  have hnew := Lib.bytesWorld_at_new w 5 s
  have hcs : s.size ≤ (Lib.bytesCells w 5 s).size := by simp [Lib.bytesCells]
  have hfz : (Lib.bytesWorld w 5 s).frozen? ⟨w.heap.size, k, none⟩ = false := by
    simp [World.frozen?, hnew]; omega
  generalize grownCap w s.size 0 5 = C at *
  generalize Lib.bytesWorld w 5 s = V at *
  obtain ⟨B, hB⟩ : ∃ B : Nat, B = (s.data.toList.getD k 0).toNat := ⟨_, rfl⟩
  have hBl : B < 256 := by rw [hB]; exact UInt8.toNat_lt _
  have hck := hcell k hk
  rw [← hB] at hck
  have hxl : B ^^^ m < 256 := Nat.xor_lt_two_pow (n := 8) hBl hm
  refine ⟨C, B, V, hcv, hck, hfz, hBl, hbel.setCell (Nat.le_refl _) _, fun y hy => ?_⟩
  have hVn := heap_set (i := k) (v := .int .u8 (B ^^^ m : Nat)) hnew
  have hyn := keep hVn hy
  have h := run_convert_bytes_back (P := Tryz.prog) y 25 9 5 ⟨w.heap.size, 0, none⟩ C (tn s k m).data.toList Tryz.stBytes Tryz.stU8 Tryz.stStr (by
    intro j hj
    have hj2 : j < s.size := by rw [tn_data] at hj; simpa using hj
    have hadd : (⟨w.heap.size, 0, none⟩ : Addr).add j = ⟨w.heap.size, j, none⟩ := by unfold Addr.add; split <;> simp_all
    rw [hadd]
    have hc1 := hcell j hj2
    rw [cell_of hnew] at hc1
    rw [cell_of hyn, Array.getElem?_setIfInBounds]
    by_cases he : k = j
    · subst he
      rw [if_pos rfl, if_pos (by omega)]
      simp only [tn_data, List.getElem_set_self, UInt8.toNat_ofNat', ← hB]
      congr 2; omega
    · rw [if_neg he, hc1]
      simp only [tn_data, List.getElem_set_ne he]
      congr 3
      rw [List.getD_eq_getElem?_getD, List.getElem?_eq_getElem (by simpa using hj2)]
      rfl)
  rw [show (tn s k m).data.toList.length = s.size by rw [tn_data]; simp] at h
  exact h
set_option maxHeartbeats 8000000 in
set_option maxRecDepth 20000 in
theorem turns_walk (s : ByteArray) (base frame plain at' : Int) (m : Nat) (w : World) (hs : s.size ≤ 1048576) (ha1 : -9223372036854775808 ≤ at') (ha2 : at' ≤ 9223372036854775807) (hm : m < 256) :
    Calls Tryz.prog 3 #[.agg #[.string s, .int .i64 base, .int .i64 frame, .int .i64 plain], .int .i64 at', .int .u8 m] w fun e w' => e = .returned (.bool true) ∧ Below w.heap.size w w' := by
  have N0 : AB w w.heap.size s base frame plain (w.alloc (.cells #[.string s, .int .i64 base, .int .i64 frame, .int .i64 plain] 23)) := ⟨(Below.refl _ _).alloc (Nat.le_refl _) _, heap_new _ _⟩
  have CW := hid (fun w => awake_any w)
  have CA := hid (fun w => all_B s base frame plain (by omega) w)
  have CT : Hid (∀ (c : Nat) w, Calls Tryz.prog 6 #[.string (tn s c m), .int .i64 base, .int .i64 frame, .int .i64 plain] w fun e w' => ∃ a cap, e = .returned (.tuple #[.slice a (frs (tr (tn s c m) base frame plain)).length cap, .int .i64 (enG 0 (tr (tn s c m) base frame plain)), .int .i64 (wyG 0 (tr (tn s c m) base frame plain))]) ∧ Fds w' a (frs (tr (tn s c m) base frame plain)) ∧ (frs (tr (tn s c m) base frame plain)).length ≤ cap ∧ Below w.heap.size w w') := fun c w => all_B _ base frame plain (by rw [tn_size]; omega) w
  have HTT := hid (fun c n h3 h4 => tr_turn (s := s) (base := base) (frame := frame) (plain := plain) (c := c) (n := n) hm h3 h4)
  have HIN : Hid (∀ i, i < (frs (tr s base frame plain)).length → fen ((frs (tr s base frame plain)).getD i dfd) ≤ s.size) := fun i hi => (tr_in (fdD_mem hi)).2
  have hLn : (frs (tr s base frame plain)).length ≤ 1048577 := by
    have h1 := tr_le s base frame plain
    have h2 := frs_le (tr s base frame plain)
    omega
  go_enter Tryz.func3, Tryz.ntmps3
  go_wp2_with fail
  refine (CW.out _).mono ?_
  rintro e w1 ⟨rfl, b1⟩
  have N1 := N0.call b1
  clear b1 N0 CW
  obtain ⟨k0, k1, k2, k3⟩ := cells4 N1.f
  by_cases hz : s.size = 0
  · have hzI : (s.size : Int) = 0 := by omega
    go_wp2_with fail
    go_ret
    exact ⟨rfl, N1.b⟩
  have hz' : ¬ (s.size : Int) = 0 := by omega
  by_cases h1 : at' < 0
  · obtain ⟨A, hA⟩ : ∃ A : Nat, -(at' + 1) = (A : Int) := ⟨(-(at' + 1)).toNat, by omega⟩
    obtain ⟨c, hcd⟩ : ∃ c, c = A % s.size := ⟨_, rfl⟩
    have hc : c < s.size := by rw [hcd]; exact Nat.mod_lt _ (by omega)
    have hmod : (A : Int) % (s.size : Int) = (c : Int) := by rw [hcd]; rfl
    clear hcd
    obtain ⟨C, Bv, V, hcv, hck, hfk, hBl, hb2, hback⟩ := turned_row s c m w1 hc hm
    have hx := u8_xor_nat Bv m hBl hm
    have HBK := hid hback
    have hcI : (c : Int) < s.size := by omega
    have hc0 : (0 : Int) ≤ (c : Int) := by omega
    have N2 := N1.call hb2
    clear hback hb2
    obtain ⟨V2, hV2⟩ : ∃ V2, V.setCell ⟨w1.heap.size, c, none⟩ (.int .u8 (Bv ^^^ m : Nat)) = V2 := ⟨_, rfl⟩
    rw [hV2] at N2 HBK
    obtain ⟨j0, j1, j2, j3⟩ := cells4 N2.f
    go_wp2_with fail
    rw [hmod]
    clear hmod hcv hck hfk hx j0 j1 j2 j3 k0 k1 k2 k3 hV2
    refine (CA.out _).mono ?_
    rintro e w3 ⟨a1, cap1, rfl, V1, hcap1, b3⟩
    have N3 := N2.call b3
    have hbk := HBK.out _ b3
    have CTc := hid (fun w => CT.out c w)
    have HT := hid (fun n h3 h4 => HTT.out c n h3 h4)
    have HV3 := hid V1
    clear b3 V1 N2 CT HTT CA N1 HBK
    obtain ⟨R2, hR2⟩ : ∃ R2, frs (tr (tn s c m) base frame plain) = R2 := ⟨_, rfl⟩
    obtain ⟨EN, hEN⟩ : ∃ EN, enG 0 (tr (tn s c m) base frame plain) = EN := ⟨_, rfl⟩
    obtain ⟨WY, hWY⟩ : ∃ WY, wyG 0 (tr (tn s c m) base frame plain) = WY := ⟨_, rfl⟩
    rw [hR2, hEN, hWY] at CTc
    rw [hR2, hEN] at HT
    clear hR2 hEN hWY
    generalize tn s c m = T at *
    generalize frs (tr s base frame plain) = L at *
    generalize tr s base frame plain = TR at *
    obtain ⟨j0, j1, j2, j3⟩ := cells4 N3.f
    have HB3 := hid N3.b
    go_wp2_with fail
    refine (CTc.out _).mono ?_
    rintro e w4 ⟨a2, cap2, rfl, V4, hcap2, b4⟩
    have HV2 := hid V4
    have HV4 := hid (HV3.out.below b4)
    have HB4 := hid (HB3.out.trans (b4.mono HB3.out.size))
    clear b4 V4 N3 CTc HV3 HB3 j0 j1 j2 j3 hbk
    have hsI : (s.size : Int) ≤ 1048576 := by omega
    go_wp2_with fail
    go_loopg [14] L.length (fun k v14 wr => ∃ n : Nat, n + k = L.length ∧ v14 = .int .i64 n ∧ Hid (∀ i, i < n → fen (L.getD i dfd) ≤ c) ∧ Hid (Below w4.heap.size w4 wr))
    case atStart => exact ⟨0, by omega, rfl, fun i hi => absurd hi (by omega), Below.refl _ _⟩
    case round =>
      obtain ⟨n, hk, rfl, HA, HW⟩ := hrel
      have HBW := hid (HB4.out.trans (HW.out.mono HB4.out.size))
      by_cases hlt : n < L.length
      · obtain ⟨k, rfl⟩ : ∃ k, gk = k + 1 := ⟨gk - 1, by omega⟩
        rcases HV4.out.below HW.out with e | ⟨b, off, rfl, hb, hcc⟩
        · rw [e] at hlt; cases hlt
        obtain ⟨q0, q1, q2, q3, q4, q5, q6, q7, q8⟩ := hcc n hlt
        have hf := HIN.out n hlt
        unfold fen at hf
        have HFE : Hid (fen (L.getD n dfd) = (L.getD n dfd).2 + (12 + (L.getD n dfd).1.len)) := rfl
        obtain ⟨i1, i2⟩ := HT.out n (by omega) HA.out
        have HI2 := hid (i2 hlt)
        have hnI : (n : Int) < L.length := by omega
        have hn0 : (0 : Int) ≤ (n : Int) := by omega
        clear i1 i2
        by_cases hcut : (L.getD n dfd).2 + (12 + (L.getD n dfd).1.len) ≤ c
        · have HN1 : Hid (∀ i, i < n + 1 → fen (L.getD i dfd) ≤ c) := fun i hi => by
            rcases Nat.lt_or_ge i n with h5 | h5
            · exact HA.out i h5
            · have : i = n := by omega
              subst this
              exact hcut
          obtain ⟨u1, u2⟩ := (HT.out (n + 1) (by omega) HN1.out).1 n (by omega)
          rcases HV2.out.below HW.out with e | ⟨b2, off2, rfl, hb2, hcc2⟩
          · rw [e] at u1; cases u1
          have hq2 := hcc2 n u1
          rw [u2] at hq2
          obtain ⟨p0, p1, p2, p3, p4, p5, p6, p7, p8⟩ := hq2
          generalize L.getD n dfd = r at *
          obtain ⟨f, at2⟩ := r
          dsimp only at q0 q1 q2 q3 q4 q5 q6 q7 q8 p0 p1 p2 p3 p4 p5 p6 p7 p8 hf hcut
          have hsum : (at2 : Int) + ((12 + f.len : Nat) : Int) ≤ 1048576 := by omega
          have hcutI : (at2 : Int) + ((12 + f.len : Nat) : Int) ≤ c := by omega
          have hLN : 0 ≤ ((12 + f.len : Nat) : Int) := by omega
          generalize ((12 + f.len : Nat) : Int) = LN at *
          have hne := neq_fd f.base LN (decide (f.st = 1)) f.cnt f.first f.grt f.prod f.seq at2
          have hgd := fun x y w => run_eqGuard_agg (P := Tryz.prog) w BinOp.neq 33 x y #[.int .i64 f.base, .int .i64 LN, .bool (decide (f.st = 1)), .int .i64 f.cnt, .int .i64 f.first, .int .i64 f.grt, .int .i64 f.prod, .int .i32 f.seq, .int .i64 at2] #[.int .i64 f.base, .int .i64 LN, .bool (decide (f.st = 1)), .int .i64 f.cnt, .int .i64 f.first, .int .i64 f.grt, .int .i64 f.prod, .int .i32 f.seq, .int .i64 at2] Tryz.fdGuard
          have hn2 : ¬ ((R2.length : Nat) : Int) ≤ n := by omega
          have hn2' : (n : Int) < R2.length := by omega
          have hn2D : decide (((R2.length : Nat) : Int) ≤ n) = false := decide_eq_false hn2
          clear hcc hcc2 HI2 hf hcut u2
          go_wp2_with fail
          go_quiet (fail)
          go_wp2_with fail
          go_quiet (fail)
          go_wp2_with fail
          go_roundg k
          case measure => omega
          case rel => exact ⟨n + 1, by omega, by go_num, HN1.out, HW.out.trans ((bel_drewN _ _).mono HW.out.size)⟩
        · generalize L.getD n dfd = r at *
          obtain ⟨f, at2⟩ := r
          dsimp only at q0 q1 q2 q3 q4 q5 q6 q7 q8 hf hcut
          have hsum : (at2 : Int) + ((12 + f.len : Nat) : Int) ≤ 1048576 := by omega
          have hcutI : ¬ (at2 : Int) + ((12 + f.len : Nat) : Int) ≤ c := by omega
          have hcutD : decide ((at2 : Int) + ((12 + f.len : Nat) : Int) ≤ c) = false := decide_eq_false hcutI
          have hLN : 0 ≤ ((12 + f.len : Nat) : Int) := by omega
          have hfn : c < fen (f, at2) := by show c < at2 + (12 + f.len); omega
          have HI3 := hid (HI2.out hfn)
          have hat : (at2 : Int) ≤ 1048576 := by omega
          generalize ((12 + f.len : Nat) : Int) = LN at *
          clear HI2 hcc hfn HFE hf hcut
          by_cases hP : at2 + 12 ≤ c
          · have hPI : (at2 : Int) + 12 ≤ c := by omega
            have hPD : decide ((at2 : Int) + 12 ≤ c) = true := decide_eq_true hPI
            by_cases hm0 : m = 0
            · subst hm0
              go_wp2_with fail
              go_quiet (fail)
              go_wp2_with fail
              go_ret
              exact ⟨rfl, HBW.out.trans ((bel_drewN _ _).mono HBW.out.size)⟩
            · have hm0I : ¬ (m : Int) = 0 := by omega
              have hm0B : ((m : Int) == 0) = false := by simp; omega
              obtain ⟨z1, z2⟩ := HI3.out hP (by omega)
              have z1' : R2.length = n := z1
              have z2' : EN = at2 := z2
              subst z1' z2'
              go_wp2_with fail
              go_quiet (fail)
              go_wp2_with fail
              go_ret
              exact ⟨rfl, HBW.out.trans ((bel_drewN _ _).mono HBW.out.size)⟩
          · have hPI : ¬ (at2 : Int) + 12 ≤ c := by omega
            have hPD : decide ((at2 : Int) + 12 ≤ c) = false := decide_eq_false hPI
            go_wp2_with fail
            go_quiet (fail)
            go_wp2_with fail
            go_ret
            exact ⟨rfl, HBW.out.trans ((bel_drewN _ _).mono HBW.out.size)⟩
      · have hltI : ¬ (n : Int) < L.length := by omega
        go_wp2_with fail
        go_ret
        exact ⟨rfl, HBW.out⟩
  · obtain ⟨A, rfl⟩ : ∃ A : Nat, at' = (A : Int) := ⟨at'.toNat, by omega⟩
    obtain ⟨c, hcd⟩ : ∃ c, c = A % s.size := ⟨_, rfl⟩
    have hc : c < s.size := by rw [hcd]; exact Nat.mod_lt _ (by omega)
    have hmod : (A : Int) % (s.size : Int) = (c : Int) := by rw [hcd]; rfl
    clear hcd
    obtain ⟨C, Bv, V, hcv, hck, hfk, hBl, hb2, hback⟩ := turned_row s c m w1 hc hm
    have hx := u8_xor_nat Bv m hBl hm
    have HBK := hid hback
    have hcI : (c : Int) < s.size := by omega
    have hc0 : (0 : Int) ≤ (c : Int) := by omega
    have N2 := N1.call hb2
    clear hback hb2
    obtain ⟨V2, hV2⟩ : ∃ V2, V.setCell ⟨w1.heap.size, c, none⟩ (.int .u8 (Bv ^^^ m : Nat)) = V2 := ⟨_, rfl⟩
    rw [hV2] at N2 HBK
    obtain ⟨j0, j1, j2, j3⟩ := cells4 N2.f
    go_wp2_with fail
    rw [hmod]
    clear hmod hcv hck hfk hx j0 j1 j2 j3 k0 k1 k2 k3 hV2
    refine (CA.out _).mono ?_
    rintro e w3 ⟨a1, cap1, rfl, V1, hcap1, b3⟩
    have N3 := N2.call b3
    have hbk := HBK.out _ b3
    have CTc := hid (fun w => CT.out c w)
    have HT := hid (fun n h3 h4 => HTT.out c n h3 h4)
    have HV3 := hid V1
    clear b3 V1 N2 CT HTT CA N1 HBK
    obtain ⟨R2, hR2⟩ : ∃ R2, frs (tr (tn s c m) base frame plain) = R2 := ⟨_, rfl⟩
    obtain ⟨EN, hEN⟩ : ∃ EN, enG 0 (tr (tn s c m) base frame plain) = EN := ⟨_, rfl⟩
    obtain ⟨WY, hWY⟩ : ∃ WY, wyG 0 (tr (tn s c m) base frame plain) = WY := ⟨_, rfl⟩
    rw [hR2, hEN, hWY] at CTc
    rw [hR2, hEN] at HT
    clear hR2 hEN hWY
    generalize tn s c m = T at *
    generalize frs (tr s base frame plain) = L at *
    generalize tr s base frame plain = TR at *
    obtain ⟨j0, j1, j2, j3⟩ := cells4 N3.f
    have HB3 := hid N3.b
    go_wp2_with fail
    refine (CTc.out _).mono ?_
    rintro e w4 ⟨a2, cap2, rfl, V4, hcap2, b4⟩
    have HV2 := hid V4
    have HV4 := hid (HV3.out.below b4)
    have HB4 := hid (HB3.out.trans (b4.mono HB3.out.size))
    clear b4 V4 N3 CTc HV3 HB3 j0 j1 j2 j3 hbk
    have hsI : (s.size : Int) ≤ 1048576 := by omega
    go_wp2_with fail
    go_loopg [14] L.length (fun k v14 wr => ∃ n : Nat, n + k = L.length ∧ v14 = .int .i64 n ∧ Hid (∀ i, i < n → fen (L.getD i dfd) ≤ c) ∧ Hid (Below w4.heap.size w4 wr))
    case atStart => exact ⟨0, by omega, rfl, fun i hi => absurd hi (by omega), Below.refl _ _⟩
    case round =>
      obtain ⟨n, hk, rfl, HA, HW⟩ := hrel
      have HBW := hid (HB4.out.trans (HW.out.mono HB4.out.size))
      by_cases hlt : n < L.length
      · obtain ⟨k, rfl⟩ : ∃ k, gk = k + 1 := ⟨gk - 1, by omega⟩
        rcases HV4.out.below HW.out with e | ⟨b, off, rfl, hb, hcc⟩
        · rw [e] at hlt; cases hlt
        obtain ⟨q0, q1, q2, q3, q4, q5, q6, q7, q8⟩ := hcc n hlt
        have hf := HIN.out n hlt
        unfold fen at hf
        have HFE : Hid (fen (L.getD n dfd) = (L.getD n dfd).2 + (12 + (L.getD n dfd).1.len)) := rfl
        obtain ⟨i1, i2⟩ := HT.out n (by omega) HA.out
        have HI2 := hid (i2 hlt)
        have hnI : (n : Int) < L.length := by omega
        have hn0 : (0 : Int) ≤ (n : Int) := by omega
        clear i1 i2
        by_cases hcut : (L.getD n dfd).2 + (12 + (L.getD n dfd).1.len) ≤ c
        · have HN1 : Hid (∀ i, i < n + 1 → fen (L.getD i dfd) ≤ c) := fun i hi => by
            rcases Nat.lt_or_ge i n with h5 | h5
            · exact HA.out i h5
            · have : i = n := by omega
              subst this
              exact hcut
          obtain ⟨u1, u2⟩ := (HT.out (n + 1) (by omega) HN1.out).1 n (by omega)
          rcases HV2.out.below HW.out with e | ⟨b2, off2, rfl, hb2, hcc2⟩
          · rw [e] at u1; cases u1
          have hq2 := hcc2 n u1
          rw [u2] at hq2
          obtain ⟨p0, p1, p2, p3, p4, p5, p6, p7, p8⟩ := hq2
          generalize L.getD n dfd = r at *
          obtain ⟨f, at2⟩ := r
          dsimp only at q0 q1 q2 q3 q4 q5 q6 q7 q8 p0 p1 p2 p3 p4 p5 p6 p7 p8 hf hcut
          have hsum : (at2 : Int) + ((12 + f.len : Nat) : Int) ≤ 1048576 := by omega
          have hcutI : (at2 : Int) + ((12 + f.len : Nat) : Int) ≤ c := by omega
          have hLN : 0 ≤ ((12 + f.len : Nat) : Int) := by omega
          generalize ((12 + f.len : Nat) : Int) = LN at *
          have hne := neq_fd f.base LN (decide (f.st = 1)) f.cnt f.first f.grt f.prod f.seq at2
          have hgd := fun x y w => run_eqGuard_agg (P := Tryz.prog) w BinOp.neq 33 x y #[.int .i64 f.base, .int .i64 LN, .bool (decide (f.st = 1)), .int .i64 f.cnt, .int .i64 f.first, .int .i64 f.grt, .int .i64 f.prod, .int .i32 f.seq, .int .i64 at2] #[.int .i64 f.base, .int .i64 LN, .bool (decide (f.st = 1)), .int .i64 f.cnt, .int .i64 f.first, .int .i64 f.grt, .int .i64 f.prod, .int .i32 f.seq, .int .i64 at2] Tryz.fdGuard
          have hn2 : ¬ ((R2.length : Nat) : Int) ≤ n := by omega
          have hn2' : (n : Int) < R2.length := by omega
          have hn2D : decide (((R2.length : Nat) : Int) ≤ n) = false := decide_eq_false hn2
          clear hcc hcc2 HI2 hf hcut u2
          go_wp2_with fail
          go_quiet (fail)
          go_wp2_with fail
          go_quiet (fail)
          go_wp2_with fail
          go_roundg k
          case measure => omega
          case rel => exact ⟨n + 1, by omega, by go_num, HN1.out, HW.out.trans ((bel_drewN _ _).mono HW.out.size)⟩
        · generalize L.getD n dfd = r at *
          obtain ⟨f, at2⟩ := r
          dsimp only at q0 q1 q2 q3 q4 q5 q6 q7 q8 hf hcut
          have hsum : (at2 : Int) + ((12 + f.len : Nat) : Int) ≤ 1048576 := by omega
          have hcutI : ¬ (at2 : Int) + ((12 + f.len : Nat) : Int) ≤ c := by omega
          have hcutD : decide ((at2 : Int) + ((12 + f.len : Nat) : Int) ≤ c) = false := decide_eq_false hcutI
          have hLN : 0 ≤ ((12 + f.len : Nat) : Int) := by omega
          have hfn : c < fen (f, at2) := by show c < at2 + (12 + f.len); omega
          have HI3 := hid (HI2.out hfn)
          have hat : (at2 : Int) ≤ 1048576 := by omega
          generalize ((12 + f.len : Nat) : Int) = LN at *
          clear HI2 hcc hfn HFE hf hcut
          by_cases hP : at2 + 12 ≤ c
          · have hPI : (at2 : Int) + 12 ≤ c := by omega
            have hPD : decide ((at2 : Int) + 12 ≤ c) = true := decide_eq_true hPI
            by_cases hm0 : m = 0
            · subst hm0
              go_wp2_with fail
              go_quiet (fail)
              go_wp2_with fail
              go_ret
              exact ⟨rfl, HBW.out.trans ((bel_drewN _ _).mono HBW.out.size)⟩
            · have hm0I : ¬ (m : Int) = 0 := by omega
              have hm0B : ((m : Int) == 0) = false := by simp; omega
              obtain ⟨z1, z2⟩ := HI3.out hP (by omega)
              have z1' : R2.length = n := z1
              have z2' : EN = at2 := z2
              subst z1' z2'
              go_wp2_with fail
              go_quiet (fail)
              go_wp2_with fail
              go_ret
              exact ⟨rfl, HBW.out.trans ((bel_drewN _ _).mono HBW.out.size)⟩
          · have hPI : ¬ (at2 : Int) + 12 ≤ c := by omega
            have hPD : decide ((at2 : Int) + 12 ≤ c) = false := decide_eq_false hPI
            go_wp2_with fail
            go_quiet (fail)
            go_wp2_with fail
            go_ret
            exact ⟨rfl, HBW.out.trans ((bel_drewN _ _).mono HBW.out.size)⟩
      · have hltI : ¬ (n : Int) < L.length := by omega
        go_wp2_with fail
        go_ret
        exact ⟨rfl, HBW.out⟩
theorem turns_walkZ (s : ByteArray) (base frame plain at' m : Int) (w : World) (hs : s.size ≤ 1048576) (ha1 : -9223372036854775808 ≤ at') (ha2 : at' ≤ 9223372036854775807) (h0 : 0 ≤ m) (hm : m ≤ 255) :
    Calls Tryz.prog 3 #[.agg #[.string s, .int .i64 base, .int .i64 frame, .int .i64 plain], .int .i64 at', .int .u8 m] w fun e w' => e = .returned (.bool true) ∧ Below w.heap.size w w' := by
  obtain ⟨k, rfl⟩ : ∃ k : Nat, m = k := ⟨m.toNat, by omega⟩
  exact turns_walk s base frame plain at' k w hs ha1 ha2 (by omega)
end Go.Proofs.YtgcgnkafhpjdiabGreat
