/- Texts of the proof, put together: Srp, Shp, Shw. -/
import Derived.Test.YtgcgnkafhpjdiabGreatMSd
namespace Go.Proofs.YtgcgnkafhpjdiabGreat
open Go.RowKit
def dpp : Bt × ByteArray := (dbt, ⟨#[]⟩)
theorem fys_getD : ∀ (ps : List (Bt × ByteArray)) (k j : Nat), j < ps.length → (frs (fys k ps)).getD j dfd = (hdP (ps.getD j dpp), k + (cat (ps.take j)).size)
  | [], _, _, h => by cases h
  | p :: ps, k, 0, _ => by show (hdP p, k) = (hdP p, k + 0); rfl
  | p :: ps, k, j + 1, h => by
    show (frs (fys (k + (frB p).size) ps)).getD j dfd = _
    rw [fys_getD ps _ j (by simpa using h)]
    show (hdP (ps.getD j dpp), k + (frB p).size + (cat (ps.take j)).size) = (hdP (ps.getD j dpp), k + (frB p ++ cat (ps.take j)).size)
    rw [ByteArray.size_append, Nat.add_assoc]
theorem ppD_take {l : List (Bt × ByteArray)} {j : Nat} (h : j < l.length) : l.take (j + 1) = l.take j ++ [l.getD j dpp] := by
  rw [List.getD_eq_getElem?_getD, List.getElem?_eq_getElem h, Option.getD_some, List.take_succ_eq_append_getElem h]
theorem ppD_mem {l : List (Bt × ByteArray)} {j : Nat} (h : j < l.length) : l.getD j dpp ∈ l := by
  rw [List.getD_eq_getElem?_getD, List.getElem?_eq_getElem h, Option.getD_some]
  exact List.getElem_mem h
theorem cat_step {l : List (Bt × ByteArray)} {j : Nat} (h : j < l.length) : (cat (l.take (j + 1))).size = (cat (l.take j)).size + (frB (l.getD j dpp)).size := by
  rw [ppD_take h, cat_snoc, ByteArray.size_append]
theorem cat_part {l : List (Bt × ByteArray)} {j : Nat} (h : j < l.length) : (cat l).extract (cat (l.take j)).size ((cat (l.take j)).size + (frB (l.getD j dpp)).size) = frB (l.getD j dpp) ∧ (cat (l.take j)).size + (frB (l.getD j dpp)).size ≤ (cat l).size := by
  have e : cat l = cat (l.take j) ++ (frB (l.getD j dpp) ++ cat (l.drop (j + 1))) := by
    conv => lhs; rw [← List.take_append_drop (j + 1) l, cat_app, ppD_take h, cat_snoc, ByteArray.append_assoc]
  refine ⟨?_, by rw [e, ByteArray.size_append, ByteArray.size_append]; omega⟩
  conv => lhs; rw [e]
  apply bl_inj
  rw [bl_ext, bl_app, bl_app, List.drop_left' (bl_len _)]
  exact List.take_left' (by rw [bl_len]; omega)
theorem FrC.mem : ∀ {b0 b1 : Int} {ps : List (Bt × ByteArray)}, FrC b0 ps b1 → ∀ p ∈ ps, BtOk p.1 ∧ StoP p.1 0 p.2
  | _, _, [], _, p, hp => by cases hp
  | _, _, q :: ps, h, p, hp => by
    rcases List.mem_cons.1 hp with rfl | hp
    · exact ⟨h.2.1, h.2.2.1⟩
    · exact FrC.mem h.2.2.2 p hp
theorem trc_ge {lk : Nat → Int → Except Nat Fs} {N : Nat} : ∀ (m k : Nat) (b : Int), k ≤ enG k (trc lk N m k b)
  | 0, k, b => Nat.le_refl _
  | m + 1, k, b => by
    by_cases hlt : k < N
    · cases h : lk k b with
      | error e => rw [trc_no hlt h]; exact Nat.le_refl _
      | ok f =>
        rw [trc_fr hlt h]
        have := trc_ge (lk := lk) (N := N) m (k + (12 + f.len)) (f.base + f.cnt)
        show k ≤ enG (k + (12 + f.len)) (trc lk N m (k + (12 + f.len)) (f.base + f.cnt))
        omega
    · rw [trc_end hlt]; exact Nat.le_refl _
theorem trc_why {lk : Nat → Int → Except Nat Fs} {N : Nat} (hl : ∀ k b f, lk k b = .ok f → k + (12 + f.len) ≤ N) (hp : ∀ k b e, lk k b = .error e → e ≠ 0) : ∀ (m k : Nat) (b : Int), k ≤ N → N - k < m → wyG 0 (trc lk N m k b) = 0 → enG k (trc lk N m k b) = N
  | 0, k, b, _, h, _ => by omega
  | m + 1, k, b, hk, h, hw => by
    by_cases hlt : k < N
    · cases he : lk k b with
      | error e =>
        rw [trc_no hlt he] at hw
        exact absurd hw (hp k b e he)
      | ok f =>
        rw [trc_fr hlt he] at hw ⊢
        exact trc_why hl hp m (k + (12 + f.len)) (f.base + f.cnt) (hl k b f he) (by omega) hw
    · rw [trc_end hlt]
      show k = N
      omega
theorem lks_in {s : ByteArray} {frame plain : Int} (k : Nat) (b : Int) (f : Fs) (h : lks s frame plain k b = .ok f) : k + (12 + f.len) ≤ s.size := by
  obtain ⟨bb, ho, _⟩ := lks_ok h
  have hr := opn_right ho
  rw [ByteArray.size_extract] at hr
  have := hr.1.l1
  omega
/-- The run with more behind it. -/
theorem tr_more {ps : List (Bt × ByteArray)} {b0 b1 : Int} (h : FrC b0 ps b1) (more : ByteArray) : ∃ X, frs (tr (cat ps ++ more) b0 16777216 16777216) = frs (fys 0 ps) ++ X ∧ (cat ps).size ≤ enG 0 (tr (cat ps ++ more) b0 16777216 16777216) ∧ (wyG 0 (tr (cat ps ++ more) b0 16777216 16777216) = 0 → enG 0 (tr (cat ps ++ more) b0 16777216 16777216) = (cat ps).size + more.size) := by
  obtain ⟨m, h1, h2⟩ := tr_cat h more
  rw [h2, frs_app, enG_app, wyG_app, fys_en, fys_wy, Nat.zero_add]
  refine ⟨_, rfl, trc_ge _ _ _, fun hw => ?_⟩
  rw [trc_why (fun k b f => lks_in k b f) (fun k b e => lks_pos) m _ _ (by rw [ByteArray.size_append]; omega) h1 hw, ByteArray.size_append]
theorem check_part {p : Bt × ByteArray} (h1 : BtOk p.1) (h2 : StoP p.1 0 p.2) (w : World) : Calls Tryz.prog 31 #[.string (frB p), .int .i64 16777216, .int .i64 16777216] w fun e w' => e = .returned (.tuple #[hdV (hdP p), .int .i64 0]) ∧ Below w.heap.size w w' := by
  have h := check6_any (frB p) 16777216 16777216 w (by have := (sto_zero h2).2 rfl; rw [frB_size]; omega)
  obtain ⟨S, ho⟩ := opn_sto h1 h2 ⟨#[]⟩
  rw [app_emp] at ho
  have ho' : opn (frB p) 16777216 16777216 = .ok (hdP p, S) := ho
  rw [ho'] at h
  exact h
theorem all_B (s : ByteArray) (base frame plain : Int) (hs : s.size ≤ 70368744177664) (w : World) :
    Calls Tryz.prog 6 #[.string s, .int .i64 base, .int .i64 frame, .int .i64 plain] w fun e w' => ∃ a cap, e = .returned (.tuple #[.slice a (frs (tr s base frame plain)).length cap, .int .i64 (enG 0 (tr s base frame plain)), .int .i64 (wyG 0 (tr s base frame plain))]) ∧ Fds w' a (frs (tr s base frame plain)) ∧ (frs (tr s base frame plain)).length ≤ cap ∧ Below w.heap.size w w' := by
  have hl := tr_le s base frame plain
  refine (all_any s base frame plain (by omega) (by omega) w).mono ?_
  rintro e w' ⟨v, rfl, hO, hb⟩
  obtain ⟨a, cap, rfl, V, hc⟩ := OwF.fds hO
  exact ⟨a, cap, rfl, V, hc, hb⟩
/-- A row of texts where it lies. -/
def Txr (w : World) (a : Option Addr) (ps : List (Bt × ByteArray)) : Prop := ps = [] ∨ ∃ g, a = some ⟨g, 0, none⟩ ∧ g < w.heap.size ∧ ∀ j, j < ps.length → w.cell? ⟨g, j, none⟩ = some (.string (frB (ps.getD j dpp)))
theorem Txr.below {w w' : World} {a : Option Addr} {ps : List (Bt × ByteArray)} (h : Txr w a ps) (k : Below w.heap.size w w') : Txr w' a ps := by
  rcases h with h | ⟨g, h1, h2, h3⟩
  · exact Or.inl h
  · exact Or.inr ⟨g, h1, Nat.lt_of_lt_of_le h2 k.size, fun j hj => (k.cell (p := ⟨g, j, none⟩) h2).trans (h3 j hj)⟩
theorem own_txr {w : World} {B : Nat} {v : Value} {ps : List (Bt × ByteArray)} (h : w.ownsRow B 9 1 v ps.length (pst ps)) : ∃ a cap, v = .slice a ps.length cap ∧ Txr w a ps := by
  by_cases h0 : ps.length = 0
  · rcases h.2 with ⟨rfl, _⟩ | ⟨g, cap, cur, rfl, _⟩
    · exact ⟨none, 0, by rw [h0], Or.inl (List.eq_nil_of_length_eq_zero h0)⟩
    · exact ⟨_, cap, rfl, Or.inl (List.eq_nil_of_length_eq_zero h0)⟩
  · obtain ⟨g, cap, rfl, hc, _, hg⟩ := own_some h h0
    refine ⟨_, cap, rfl, Or.inr ⟨g, rfl, hg, fun j hj => hc j _ ?_⟩⟩
    unfold pst
    rw [List.getElem?_map, List.getElem?_eq_getElem hj, List.getD_eq_getElem?_getD, List.getElem?_eq_getElem hj]
    rfl
end Go.Proofs.YtgcgnkafhpjdiabGreat
namespace Go.Proofs.YtgcgnkafhpjdiabGreat
open Go.RowKit
/-- The offset behind the first j batches. -/
def bsA (b : Int) : List (Bt × ByteArray) → Nat → Int
  | _, 0 => b
  | [], _ + 1 => b
  | p :: ps, j + 1 => bsA (b + p.1.l.length) ps j
theorem bsA_zero (b : Int) (ps : List (Bt × ByteArray)) : bsA b ps 0 = b := by cases ps <;> rfl
theorem FrC.at : ∀ {b0 b1 : Int} {ps : List (Bt × ByteArray)}, FrC b0 ps b1 → ∀ j, j < ps.length → (hdP (ps.getD j dpp)).base = bsA b0 ps j ∧ (hdP (ps.getD j dpp)).base + (hdP (ps.getD j dpp)).cnt = bsA b0 ps (j + 1) ∧ bsA b0 ps j < bsA b0 ps (j + 1) ∧ Right (hdP (ps.getD j dpp))
  | _, _, [], _, j, hj => by cases hj
  | b0, b1, p :: ps, h, 0, _ => by
    have hr := (frm_right h.2.1 h.2.2.1).1
    have e1 : (hdP p).base = b0 := h.1
    have e2 : ((hdP p).cnt : Int) = p.1.l.length := rfl
    have h1 : 1 ≤ (hdP p).cnt := hr.c1
    refine ⟨?_, ?_, ?_, hr⟩
    · rw [bsA_zero]; exact e1
    · show (hdP p).base + (hdP p).cnt = bsA (b0 + p.1.l.length) ps 0
      rw [bsA_zero, e1, e2]
    · show bsA b0 (p :: ps) 0 < bsA (b0 + p.1.l.length) ps 0
      rw [bsA_zero, bsA_zero]
      omega
  | b0, b1, p :: ps, h, j + 1, hj => FrC.at h.2.2.2 j (by simpa using hj)
theorem FrC.fin : ∀ {b0 b1 : Int} {ps : List (Bt × ByteArray)}, FrC b0 ps b1 → bsA b0 ps ps.length = b1
  | _, _, [], h => h.symm
  | b0, b1, p :: ps, h => by
    show bsA (b0 + p.1.l.length) ps ps.length = b1
    exact FrC.fin h.2.2.2
theorem FrC.le {b0 b1 : Int} {ps : List (Bt × ByteArray)} (h : FrC b0 ps b1) : ∀ i j, i ≤ j → j ≤ ps.length → bsA b0 ps i ≤ bsA b0 ps j := by
  intro i j hij hj
  induction j with
  | zero =>
    have : i = 0 := by omega
    subst this
    exact Int.le_refl _
  | succ j ih =>
    rcases Nat.lt_or_ge j i with h1 | h1
    · have : i = j + 1 := by omega
      subst this
      exact Int.le_refl _
    · have h2 := ih h1 (by omega)
      have h3 := (h.at j (by omega)).2.2.1
      omega
/-- The frames of a run: their offsets. -/
structure Rn (L : List (Fs × Nat)) (n : Nat) (B : Nat → Int) : Prop where
  len : L.length = n
  base : ∀ j, j < n → (L.getD j dfd).1.base = B j
  bh : ∀ j, j < n → bh (L.getD j dfd) = B (j + 1)
  lt : ∀ j, j < n → B j < B (j + 1)
  le : ∀ i j, i ≤ j → j ≤ n → B i ≤ B j
  rt : ∀ x ∈ L, Right x.1
theorem FrC.rn {b0 b1 : Int} {ps : List (Bt × ByteArray)} (h : FrC b0 ps b1) : Rn (frs (fys 0 ps)) ps.length (bsA b0 ps) := by
  have hl := fys_frs ps 0
  have hg := fun j (hj : j < ps.length) => fys_getD ps 0 j hj
  refine ⟨hl, fun j hj => ?_, fun j hj => ?_, fun j hj => (h.at j hj).2.2.1, h.le, fun x hx => ?_⟩
  · rw [hg j hj]; exact (h.at j hj).1
  · rw [hg j hj]; exact (h.at j hj).2.1
  · obtain ⟨j, hj, rfl⟩ := List.mem_iff_getElem.1 hx
    have h1 := hg j (by omega)
    rw [List.getD_eq_getElem?_getD, List.getElem?_eq_getElem hj, Option.getD_some] at h1
    rw [h1]
    exact (h.at j (by omega)).2.2.2
theorem Rn.mon {L : List (Fs × Nat)} {n : Nat} {B : Nat → Int} (h : Rn L n B) : Mon L := by
  intro i j h1 h2
  rw [h.len] at h2
  rw [h.bh i (by omega), h.bh j h2]
  exact h.le _ _ (by omega) (by omega)
theorem Rn.held {L : List (Fs × Nat)} {n : Nat} {B : Nat → Int} (h : Rn L n B) {i : Nat} (hi : i < n) {o : Int} (h1 : B i ≤ o) (h2 : o < B (i + 1)) (a : Option Addr) (cap : Nat) (w : World) (V : Fds w a L) (hn : n ≤ 4611686018427387903) :
    Calls Tryz.prog 9 #[.slice a n cap, .int .i64 o] w fun e w' => e = .returned (.tuple #[.int .i64 i, .bool true]) ∧ Below w.heap.size w w' := by
  have hH := holds_any a cap L o w V h.rt h.mon (by rw [h.len]; exact hn)
  rw [h.len] at hH
  refine hH.mono ?_
  rintro e w' ⟨m, rfl, k1, k2, k3, hb⟩
  have hm : m = i := by
    rcases Nat.lt_trichotomy m i with h3 | h3 | h3
    · have h4 := k3 m (Nat.le_refl _) (by omega)
      rw [h.bh m (by omega)] at h4
      have := h.le (m + 1) i (by omega) (by omega)
      omega
    · exact h3
    · have h4 := k2 i h3
      rw [h.bh i hi] at h4
      omega
  subst hm
  have e : hld L o m = true := decide_eq_true ⟨by rw [h.len]; exact hi, by rw [h.base m hi]; exact h1⟩
  rw [e]
  exact ⟨rfl, hb⟩
theorem Rn.none {L : List (Fs × Nat)} {n : Nat} {B : Nat → Int} (h : Rn L n B) {o : Int} (h1 : o < B 0 ∨ B n ≤ o) (a : Option Addr) (cap : Nat) (w : World) (V : Fds w a L) (hn : n ≤ 4611686018427387903) :
    Calls Tryz.prog 9 #[.slice a n cap, .int .i64 o] w fun e w' => e = .returned (.tuple #[.int .i64 0, .bool false]) ∧ Below w.heap.size w w' := by
  have hH := holds_any a cap L o w V h.rt h.mon (by rw [h.len]; exact hn)
  rw [h.len] at hH
  refine hH.mono ?_
  rintro e w' ⟨m, rfl, k1, k2, k3, hb⟩
  have e : hld L o m = false := decide_eq_false (by
    rintro ⟨h2, h3⟩
    rw [h.len] at h2
    rw [h.base m h2] at h3
    have h4 := k3 m (Nat.le_refl _) h2
    rw [h.bh m h2] at h4
    have h5 := h.le 0 m (by omega) (by omega)
    have h6 := h.le (m + 1) n (by omega) (by omega)
    omega)
  rw [e]
  exact ⟨rfl, hb⟩
end Go.Proofs.YtgcgnkafhpjdiabGreat
namespace Go.Proofs.YtgcgnkafhpjdiabGreat
open Go.RowKit
set_option maxHeartbeats 8000000 in
set_option maxRecDepth 20000 in
theorem held_walk (base : Int) (a : Option Addr) (cap : Nat) (l : List Bt) (w : World) (V : Bts w a l) (hl : l.length ≤ 1048576) (hb : ∀ b ∈ l, BtOk b) :
    Calls Tryz.prog 4 #[.int .i64 base, .slice a l.length cap] w fun e w' => e = .returned (.bool true) ∧ Below w.heap.size w w' := by
  have CW := hid (fun w => awake_any w)
  have CF := hid (fun w V => frames_any base a cap l w V hl hb)
  have HV := hid V
  have HK := hid hb
  clear V hb
  go_enter Tryz.func4, Tryz.ntmps4
  go_wp2_with fail
  refine (CW.out _).mono ?_
  rintro e w1 ⟨rfl, b1⟩
  have B1 := hid b1
  go_wp2_with fail
  refine (CF.out _ (HV.out.below b1)).mono ?_
  rintro e w2 ⟨ps, b9, v, rfl, hF, hO, b2⟩
  obtain ⟨ap, cp, rfl, _⟩ := own_txr hO
  have hC := hF.frc HK.out
  have hsm := hF.small
  have B2 := hid (B1.out.trans (b2.mono B1.out.size))
  have hpl : ps.length ≤ 1048576 := by omega
  have CA := hid (fun w => all_B (cat ps) base 16777216 16777216 (by omega) w)
  rw [tr_all hC, fys_frs, fys_wy, fys_en, Nat.zero_add] at CA
  have hR := hC.rn
  have hb0 := bsA_zero base ps
  have hbx : ∀ j, j < ps.length → 0 ≤ bsA base ps j ∧ bsA base ps (j + 1) ≤ 4611686018427387904 := fun j hj => by
    obtain ⟨x1, x2, x3, x4⟩ := hC.at j hj
    have y1 := x4.b
    have y2 := x4.o
    omega
  generalize bsA base ps = B at *
  generalize cat ps = S at *
  generalize frs (fys 0 ps) = L at *
  generalize ps.length = n at *
  have HR := hid hR
  have HBX := hid hbx
  have HB0 := hid hb0
  have CHd : Hid (∀ (i : Nat) (o : Int) (a : Option Addr) (cap : Nat) (w : World), i < n → B i ≤ o → o < B (i + 1) → Fds w a L → Calls Tryz.prog 9 #[.slice a n cap, .int .i64 o] w fun e w' => e = .returned (.tuple #[.int .i64 i, .bool true]) ∧ Below w.heap.size w w') := fun i o a cap w hi h1 h2 V => hR.held hi h1 h2 a cap w V (by omega)
  have CHn : Hid (∀ (o : Int) (a : Option Addr) (cap : Nat) (w : World), (o < B 0 ∨ B n ≤ o) → Fds w a L → Calls Tryz.prog 9 #[.slice a n cap, .int .i64 o] w fun e w' => e = .returned (.tuple #[.int .i64 0, .bool false]) ∧ Below w.heap.size w w') := fun o a cap w h1 V => hR.none h1 a cap w V (by omega)
  clear hO hF hC hsm b1 b2 B1 CW CF HV HK hR hbx hb0
  go_wp2_with fail
  refine (CA.out _).mono ?_
  rintro e w3 ⟨a3, c3, rfl, V3, hc3, b3⟩
  have B3 := hid (B2.out.trans (b3.mono B2.out.size))
  have HV3 := hid V3
  clear b3 V3 B2 CA
  go_wp2_with fail
  go_loopg [10, 11] n (fun k v10 v11 wr => ∃ j : Nat, j + k = n ∧ v10 = .int .i64 (B j) ∧ v11 = .int .i64 j ∧ Hid (Below w3.heap.size w3 wr))
  case atStart => exact ⟨0, by omega, by rw [HB0.out], rfl, Below.refl _ _⟩
  case round =>
    obtain ⟨j, hk, rfl, rfl, HW⟩ := hrel
    by_cases hlt : j < n
    · obtain ⟨k, rfl⟩ : ∃ k, gk = k + 1 := ⟨gk - 1, by omega⟩
      rcases HV3.out.below HW.out with e | ⟨b, off, rfl, hbb, hbc⟩
      · have := HR.out.len; rw [e] at this; simp at this; omega
      have hq := hbc j (by rw [HR.out.len]; exact hlt)
      obtain ⟨p0, p1, p2, p3, p4, p5, p6, p7, p8⟩ := hq
      have hmem : L.getD j dfd ∈ L := fdD_mem (by rw [HR.out.len]; exact hlt)
      have CB := hid (fun w => behind_any (L.getD j dfd).1 w (HR.out.rt _ hmem))
      unfold hdV at CB
      have e1 := HR.out.bh j hlt
      unfold bh at e1
      rw [e1] at CB
      rw [HR.out.base j hlt] at p0 CB
      have hj0 : (0 : Int) ≤ (j : Int) := by omega
      have hjN : (j : Int) < n := by omega
      have hx := HBX.out j hlt
      generalize L.getD j dfd = r at *
      obtain ⟨f, at'⟩ := r
      dsimp only at p1 p2 p3 p4 p5 p6 p7 p8 CB
      have HKc : Hid (∀ y, Below wr.heap.size wr y → y.cell? ⟨b, off + j * 9, none⟩ = some (.int .i64 (B j))) := fun y hy => (hy.cell (p := ⟨b, off + j * 9, none⟩) hbb).trans p0
      have HL1 := hid (HR.out.lt j hlt)
      clear hbc hmem e1
      go_wp2_with fail
      refine (CB.out _).mono ?_
      rintro e w4 ⟨rfl, b4⟩
      have HW4 := hid (HW.out.trans (b4.mono HW.out.size))
      have q0 := HKc.out _ b4
      clear b4 CB p0 p1 p2 p3 p4 p5 p6 p7 p8 HKc
      go_wp2_with fail
      have HV4 := hid (HV3.out.below HW4.out)
      have HLL : Hid (B j ≤ B (j + 1)) := by have := HL1.out; show _ ≤ _; omega
      obtain ⟨U0, hU0⟩ : ∃ U0, B j = U0 := ⟨_, rfl⟩
      obtain ⟨U1, hU1⟩ : ∃ U1, B (j + 1) = U1 := ⟨_, rfl⟩
      rw [hU0, hU1]
      rw [hU0, hU1] at hx HLL
      have CHj : Hid (∀ (o : Int) (w : World), U0 ≤ o → o < U1 → Fds w (some ⟨b, off, none⟩) L → Calls Tryz.prog 9 #[.slice (some ⟨b, off, none⟩) n c3, .int .i64 o] w fun e w' => e = .returned (.tuple #[.int .i64 j, .bool true]) ∧ Below w.heap.size w w') := fun o w h1 h2 V => CHd.out j o _ c3 w hlt (by rw [hU0]; exact h1) (by rw [hU1]; exact h2) V
      have HU1 := hid hU1
      clear hU0 hU1 q0 HL1
      go_loopg [12] (U1 - U0).toNat (fun k2 v12 wx => ∃ o : Int, v12 = .int .i64 o ∧ U0 ≤ o ∧ o ≤ U1 ∧ (U1 - o).toNat = k2 ∧ Hid (Below w4.heap.size w4 wx))
      case atStart => exact ⟨U0, rfl, Int.le_refl _, HLL.out, rfl, Below.refl _ _⟩
      case round =>
        obtain ⟨o, rfl, h1, h2, h3, HWx⟩ := hrel
        by_cases ho : o < U1
        · have CHo := hid (CHj.out o _ h1 ho (HV4.out.below HWx.out))
          go_wp2_with fail
          refine CHo.out.mono ?_
          rintro e w6 ⟨rfl, b6⟩
          have HW6 := hid (HWx.out.trans (b6.mono HWx.out.size))
          clear b6 CHo
          go_wp2_with fail
          go_roundg ((U1 - (o + 1)).toNat)
          case measure => omega
          case rel => exact ⟨o + 1, by go_num, by omega, by omega, rfl, HW6.out⟩
        · go_wp2_with fail
          go_roundg k
          case measure => omega
          case rel => exact ⟨j + 1, by omega, by rw [HU1.out], by go_num, HW4.out.trans (HWx.out.mono HW4.out.size)⟩
    · have hj : j = n := by omega
      subst hj
      have HVW := hid (HV3.out.below HW.out)
      have HBW := hid (B3.out.trans (HW.out.mono B3.out.size))
      have CN1 := hid (fun w V => CHn.out (B j) a3 c3 w (Or.inr (Int.le_refl _)) V)
      have CN2 := hid (fun w V => CHn.out (base - 1) a3 c3 w (Or.inl (by rw [HB0.out]; omega)) V)
      have hx0 : 0 < j → 0 ≤ base ∧ base ≤ 4611686018427387904 := fun h => by have h1 := HBX.out 0 h; have h2 := HR.out.lt 0 h; rw [HB0.out] at h1 h2; omega
      clear HV3 HW B3 CHd CHn HR HBX HB0
      go_wp2_with fail
      refine (CN1.out _ HVW.out).mono ?_
      rintro e w6 ⟨rfl, b6⟩
      have B6 := hid (HBW.out.trans (b6.mono HBW.out.size))
      have HV6 := hid (HVW.out.below b6)
      clear b6 HBW HVW CN1
      by_cases h0 : j = 0
      · subst h0
        go_wp2_with fail
        go_ret
        exact ⟨rfl, B6.out⟩
      · have h0' : ¬ (j : Int) = 0 := by omega
        have hb0 := hx0 (by omega)
        go_wp2_with fail
        refine (CN2.out _ HV6.out).mono ?_
        rintro e w7 ⟨rfl, b7⟩
        go_wp2_with fail
        go_ret
        exact ⟨rfl, B6.out.trans (b7.mono B6.out.size)⟩
end Go.Proofs.YtgcgnkafhpjdiabGreat
