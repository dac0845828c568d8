/- Texts of the proof, put together: Srp, Sru. -/
import Derived.Test.YtgcgnkafhpjdiaaGreatMSd
namespace Go.Proofs.YtgcgnkafhpjdiaaGreat
open Go.RowKit
def dpp : Bt × ByteArray := (dbt, ⟨#[]⟩)
theorem fys_getD : ∀ (ps : List (Bt × ByteArray)) (k j : Nat), j < ps.length → (frs (fys k ps)).getD j dfd = (hdP (ps.getD j dpp), k + (cat (ps.take j)).size)
  | [], _, _, h => by cases h
  | p :: ps, k, 0, _ => by show (hdP p, k) = (hdP p, k + 0); rfl
  | p :: ps, k, j + 1, h => by
    show (frs (fys (k + (frB p).size) ps)).getD j dfd = _
    rw [fys_getD ps _ j (by simpa using h)]
    show (hdP (ps.getD j dpp), k + (frB p).size + (cat (ps.take j)).size) = (hdP (ps.getD j dpp), k + (frB p ++ cat (ps.take j)).size)
    rw [ByteArray.size_append, Nat.add_assoc]
theorem ppD_take {l : List (Bt × ByteArray)} {j : Nat} (h : j < l.length) : l.take (j + 1) = l.take j ++ [l.getD j dpp] := by
  rw [List.getD_eq_getElem?_getD, List.getElem?_eq_getElem h, Option.getD_some, List.take_succ_eq_append_getElem h]
theorem ppD_mem {l : List (Bt × ByteArray)} {j : Nat} (h : j < l.length) : l.getD j dpp ∈ l := by
  rw [List.getD_eq_getElem?_getD, List.getElem?_eq_getElem h, Option.getD_some]
  exact List.getElem_mem h
theorem cat_step {l : List (Bt × ByteArray)} {j : Nat} (h : j < l.length) : (cat (l.take (j + 1))).size = (cat (l.take j)).size + (frB (l.getD j dpp)).size := by
  rw [ppD_take h, cat_snoc, ByteArray.size_append]
theorem cat_part {l : List (Bt × ByteArray)} {j : Nat} (h : j < l.length) : (cat l).extract (cat (l.take j)).size ((cat (l.take j)).size + (frB (l.getD j dpp)).size) = frB (l.getD j dpp) ∧ (cat (l.take j)).size + (frB (l.getD j dpp)).size ≤ (cat l).size := by
  have e : cat l = cat (l.take j) ++ (frB (l.getD j dpp) ++ cat (l.drop (j + 1))) := by
    conv => lhs; rw [← List.take_append_drop (j + 1) l, cat_app, ppD_take h, cat_snoc, ByteArray.append_assoc]
  refine ⟨?_, by rw [e, ByteArray.size_append, ByteArray.size_append]; omega⟩
  conv => lhs; rw [e]
  apply bl_inj
  rw [bl_ext, bl_app, bl_app, List.drop_left' (bl_len _)]
  exact List.take_left' (by rw [bl_len]; omega)
theorem FrC.mem : ∀ {b0 b1 : Int} {ps : List (Bt × ByteArray)}, FrC b0 ps b1 → ∀ p ∈ ps, BtOk p.1 ∧ StoP p.1 0 p.2
  | _, _, [], _, p, hp => by cases hp
  | _, _, q :: ps, h, p, hp => by
    rcases List.mem_cons.1 hp with rfl | hp
    · exact ⟨h.2.1, h.2.2.1⟩
    · exact FrC.mem h.2.2.2 p hp
theorem trc_ge {lk : Nat → Int → Except Nat Fs} {N : Nat} : ∀ (m k : Nat) (b : Int), k ≤ enG k (trc lk N m k b)
  | 0, k, b => Nat.le_refl _
  | m + 1, k, b => by
    by_cases hlt : k < N
    · cases h : lk k b with
      | error e => rw [trc_no hlt h]; exact Nat.le_refl _
      | ok f =>
        rw [trc_fr hlt h]
        have := trc_ge (lk := lk) (N := N) m (k + (12 + f.len)) (f.base + f.cnt)
        show k ≤ enG (k + (12 + f.len)) (trc lk N m (k + (12 + f.len)) (f.base + f.cnt))
        omega
    · rw [trc_end hlt]; exact Nat.le_refl _
theorem trc_why {lk : Nat → Int → Except Nat Fs} {N : Nat} (hl : ∀ k b f, lk k b = .ok f → k + (12 + f.len) ≤ N) (hp : ∀ k b e, lk k b = .error e → e ≠ 0) : ∀ (m k : Nat) (b : Int), k ≤ N → N - k < m → wyG 0 (trc lk N m k b) = 0 → enG k (trc lk N m k b) = N
  | 0, k, b, _, h, _ => by omega
  | m + 1, k, b, hk, h, hw => by
    by_cases hlt : k < N
    · cases he : lk k b with
      | error e =>
        rw [trc_no hlt he] at hw
        exact absurd hw (hp k b e he)
      | ok f =>
        rw [trc_fr hlt he] at hw ⊢
        exact trc_why hl hp m (k + (12 + f.len)) (f.base + f.cnt) (hl k b f he) (by omega) hw
    · rw [trc_end hlt]
      show k = N
      omega
theorem lks_in {s : ByteArray} {frame plain : Int} (k : Nat) (b : Int) (f : Fs) (h : lks s frame plain k b = .ok f) : k + (12 + f.len) ≤ s.size := by
  obtain ⟨bb, ho, _⟩ := lks_ok h
  have hr := opn_right ho
  rw [ByteArray.size_extract] at hr
  have := hr.1.l1
  omega
/-- The run with more behind it. -/
theorem tr_more {ps : List (Bt × ByteArray)} {b0 b1 : Int} (h : FrC b0 ps b1) (more : ByteArray) : ∃ X, frs (tr (cat ps ++ more) b0 16777216 16777216) = frs (fys 0 ps) ++ X ∧ (cat ps).size ≤ enG 0 (tr (cat ps ++ more) b0 16777216 16777216) ∧ (wyG 0 (tr (cat ps ++ more) b0 16777216 16777216) = 0 → enG 0 (tr (cat ps ++ more) b0 16777216 16777216) = (cat ps).size + more.size) := by
  obtain ⟨m, h1, h2⟩ := tr_cat h more
  rw [h2, frs_app, enG_app, wyG_app, fys_en, fys_wy, Nat.zero_add]
  refine ⟨_, rfl, trc_ge _ _ _, fun hw => ?_⟩
  rw [trc_why (fun k b f => lks_in k b f) (fun k b e => lks_pos) m _ _ (by rw [ByteArray.size_append]; omega) h1 hw, ByteArray.size_append]
theorem check_part {p : Bt × ByteArray} (h1 : BtOk p.1) (h2 : StoP p.1 0 p.2) (w : World) : Calls Tryz.prog 25 #[.string (frB p), .int .i64 16777216, .int .i64 16777216] w fun e w' => e = .returned (.tuple #[hdV (hdP p), .int .i64 0]) ∧ Below w.heap.size w w' := by
  have h := check6_any (frB p) 16777216 16777216 w (by have := (sto_zero h2).2 rfl; rw [frB_size]; omega)
  obtain ⟨S, ho⟩ := opn_sto h1 h2 ⟨#[]⟩
  rw [app_emp] at ho
  have ho' : opn (frB p) 16777216 16777216 = .ok (hdP p, S) := ho
  rw [ho'] at h
  exact h
theorem all_B (s : ByteArray) (base frame plain : Int) (hs : s.size ≤ 70368744177664) (w : World) :
    Calls Tryz.prog 11 #[.string s, .int .i64 base, .int .i64 frame, .int .i64 plain] w fun e w' => ∃ a cap, e = .returned (.tuple #[.slice a (frs (tr s base frame plain)).length cap, .int .i64 (enG 0 (tr s base frame plain)), .int .i64 (wyG 0 (tr s base frame plain))]) ∧ Fds w' a (frs (tr s base frame plain)) ∧ (frs (tr s base frame plain)).length ≤ cap ∧ Below w.heap.size w w' := by
  have hl := tr_le s base frame plain
  refine (all_any s base frame plain (by omega) (by omega) w).mono ?_
  rintro e w' ⟨v, rfl, hO, hb⟩
  obtain ⟨a, cap, rfl, V, hc⟩ := OwF.fds hO
  exact ⟨a, cap, rfl, V, hc, hb⟩
/-- A row of texts where it lies. -/
def Txr (w : World) (a : Option Addr) (ps : List (Bt × ByteArray)) : Prop := ps = [] ∨ ∃ g, a = some ⟨g, 0, none⟩ ∧ g < w.heap.size ∧ ∀ j, j < ps.length → w.cell? ⟨g, j, none⟩ = some (.string (frB (ps.getD j dpp)))
theorem Txr.below {w w' : World} {a : Option Addr} {ps : List (Bt × ByteArray)} (h : Txr w a ps) (k : Below w.heap.size w w') : Txr w' a ps := by
  rcases h with h | ⟨g, h1, h2, h3⟩
  · exact Or.inl h
  · exact Or.inr ⟨g, h1, Nat.lt_of_lt_of_le h2 k.size, fun j hj => (k.cell (p := ⟨g, j, none⟩) h2).trans (h3 j hj)⟩
theorem own_txr {w : World} {B : Nat} {v : Value} {ps : List (Bt × ByteArray)} (h : w.ownsRow B 9 1 v ps.length (pst ps)) : ∃ a cap, v = .slice a ps.length cap ∧ Txr w a ps := by
  by_cases h0 : ps.length = 0
  · rcases h.2 with ⟨rfl, _⟩ | ⟨g, cap, cur, rfl, _⟩
    · exact ⟨none, 0, by rw [h0], Or.inl (List.eq_nil_of_length_eq_zero h0)⟩
    · exact ⟨_, cap, rfl, Or.inl (List.eq_nil_of_length_eq_zero h0)⟩
  · obtain ⟨g, cap, rfl, hc, _, hg⟩ := own_some h h0
    refine ⟨_, cap, rfl, Or.inr ⟨g, rfl, hg, fun j hj => hc j _ ?_⟩⟩
    unfold pst
    rw [List.getElem?_map, List.getElem?_eq_getElem hj, List.getD_eq_getElem?_getD, List.getElem?_eq_getElem hj]
    rfl
end Go.Proofs.YtgcgnkafhpjdiaaGreat
namespace Go.Proofs.YtgcgnkafhpjdiaaGreat
open Go.RowKit
set_option maxHeartbeats 8000000 in
set_option maxRecDepth 20000 in
theorem runs_walk (base : Int) (a : Option Addr) (cap : Nat) (l : List Bt) (more : ByteArray) (w : World) (V : Bts w a l) (hl : l.length ≤ 1048576) (hb : ∀ b ∈ l, BtOk b) (hm : more.size ≤ 1048576) :
    Calls Tryz.prog 7 #[.int .i64 base, .slice a l.length cap, .string more] w fun e w' => e = .returned (.bool true) ∧ Below w.heap.size w w' := by
  have CW := hid (fun w => awake_any w)
  have CF := hid (fun w V => frames_any base a cap l w V hl hb)
  have HV := hid V
  have HK := hid hb
  clear V hb
  go_enter Tryz.func7, Tryz.ntmps7
  go_wp2_with fail
  refine (CW.out _).mono ?_
  rintro e w1 ⟨rfl, b1⟩
  have B1 := hid b1
  go_wp2_with fail
  refine (CF.out _ (HV.out.below b1)).mono ?_
  rintro e w2 ⟨ps, b9, v, rfl, hF, hO, b2⟩
  obtain ⟨ap, cp, rfl, T2⟩ := own_txr hO
  have hC := hF.frc HK.out
  have hsm := hF.small
  have B2 := hid (B1.out.trans (b2.mono B1.out.size))
  have HC := hid hC
  have hS1 : (cat ps).size ≤ 17592186044416 := by omega
  have hpl : ps.length ≤ 1048576 := by omega
  have CA := hid (fun w => all_B (cat ps) base 16777216 16777216 (by omega) w)
  rw [tr_all hC, fys_frs, fys_wy, fys_en, Nat.zero_add] at CA
  have CM := hid (fun w => all_B (cat ps ++ more) base 16777216 16777216 (by rw [ByteArray.size_append]; omega) w)
  obtain ⟨X, m1, m2, m3⟩ := tr_more hC more
  rw [m1] at CM
  have CK : Hid (∀ j, j < ps.length → ∀ w, Calls Tryz.prog 25 #[.string (frB (ps.getD j dpp)), .int .i64 16777216, .int .i64 16777216] w fun e w' => e = .returned (.tuple #[hdV (hdP (ps.getD j dpp)), .int .i64 0]) ∧ Below w.heap.size w w') := fun j hj w => check_part (hC.mem _ (ppD_mem hj)).1 (hC.mem _ (ppD_mem hj)).2 w
  have HL := hid (fun j (hj : j < ps.length) => fys_getD ps 0 j hj)
  have HP := hid (fun j (hj : j < ps.length) => And.intro (cat_part hj) (cat_step hj))
  have hLl : (frs (fys 0 ps)).length = ps.length := fys_frs ps 0
  generalize enG 0 (tr (cat ps ++ more) base 16777216 16777216) = EN at *
  generalize wyG 0 (tr (cat ps ++ more) base 16777216 16777216) = WY at *
  generalize hS : cat ps = S at *
  generalize hL : frs (fys 0 ps) = L at *
  have HT := hid T2
  clear T2 hO hF hC hsm m1 b1 b2 B1 CW CF HV HK hS hL
  have hcat : ¬ 9223372036854775807 < S.size + more.size := by omega
  go_wp2_with fail
  refine (CA.out _).mono ?_
  rintro e w3 ⟨a3, c3, rfl, V3, hc3, b3⟩
  have B3 := hid (B2.out.trans (b3.mono B2.out.size))
  have HV3 := hid V3
  have HT3 := hid (HT.out.below b3)
  clear b3 V3 HT B2 CA
  go_wp2_with fail
  go_loopg [12, 13] ps.length (fun k v12 v13 wr => ∃ j : Nat, j + k = ps.length ∧ v12 = .int .i64 (cat (ps.take j)).size ∧ v13 = .int .i64 j ∧ Hid (Below w3.heap.size w3 wr))
  case atStart => exact ⟨0, by omega, rfl, rfl, Below.refl _ _⟩
  case round =>
    obtain ⟨j, hk, rfl, rfl, HW⟩ := hrel
    by_cases hlt : j < ps.length
    · obtain ⟨k, rfl⟩ : ∃ k, gk = k + 1 := ⟨gk - 1, by omega⟩
      have hjL := HL.out j hlt
      have hjP := HP.out j hlt
      rw [Nat.zero_add] at hjL
      rcases HT3.out.below HW.out with e | ⟨g, rfl, hg, hgc⟩
      · rw [e] at hlt; cases hlt
      have q0 := hgc j hlt
      rcases HV3.out.below HW.out with e | ⟨b, off, rfl, hbb, hbc⟩
      · rw [e] at hLl; simp at hLl; omega
      have hq := hbc j (by omega)
      rw [hjL] at hq
      have CKj := hid (CK.out j hlt)
      generalize ps.getD j dpp = p at *
      obtain ⟨⟨hp1, hp2⟩, hp3⟩ := hjP
      have HPS := hid hp3
      generalize hA : (cat (ps.take j)).size = AT at *
      obtain ⟨p0, p1, p2, p3, p4, p5, p6, p7, p8⟩ := hq
      dsimp only at p0 p1 p2 p3 p4 p5 p6 p7 p8
      rw [hdP_len] at p1
      unfold hdV at CKj
      rw [hdP_len] at CKj
      have hne := neq_hd (hdP p).base (frB p).size (decide ((hdP p).st = 1)) (hdP p).cnt (hdP p).first (hdP p).grt (hdP p).prod (hdP p).seq
      have hgd := fun x y w => run_eqGuard_agg (P := Tryz.prog) w BinOp.neq 34 x y #[.int .i64 (hdP p).base, .int .i64 (frB p).size, .bool (decide ((hdP p).st = 1)), .int .i64 (hdP p).cnt, .int .i64 (hdP p).first, .int .i64 (hdP p).grt, .int .i64 (hdP p).prod, .int .i32 (hdP p).seq] #[.int .i64 (hdP p).base, .int .i64 (frB p).size, .bool (decide ((hdP p).st = 1)), .int .i64 (hdP p).cnt, .int .i64 (hdP p).first, .int .i64 (hdP p).grt, .int .i64 (hdP p).prod, .int .i32 (hdP p).seq] Tryz.hdGuard
      have hj0 : (0 : Int) ≤ (j : Int) := by omega
      have hjN : (j : Int) < ps.length := by omega
      clear hgc hbc hjL
      have HNE := hid hne
      have HGD := hid hgd
      clear hne hgd CM
      go_wp2_with fail
      refine (CKj.out _).mono ?_
      rintro e w4 ⟨rfl, b4⟩
      have hW4 : Below wr.heap.size wr (w4.alloc (.cells #[.int .i64 (hdP p).base, .int .i64 (frB p).size, .bool (decide ((hdP p).st = 1)), .int .i64 (hdP p).cnt, .int .i64 (hdP p).first, .int .i64 (hdP p).grt, .int .i64 (hdP p).prod, .int .i32 (hdP p).seq] 34)) := b4.alloc b4.size _
      have hN4 := heap_new w4 (.cells #[.int .i64 (hdP p).base, .int .i64 (frB p).size, .bool (decide ((hdP p).st = 1)), .int .i64 (hdP p).cnt, .int .i64 (hdP p).first, .int .i64 (hdP p).grt, .int .i64 (hdP p).prod, .int .i32 (hdP p).seq] 34)
      have HW4 := hid (HW.out.trans (hW4.mono HW.out.size))
      go_wp2_with fail
      generalize w4.alloc (.cells #[.int .i64 (hdP p).base, .int .i64 (frB p).size, .bool (decide ((hdP p).st = 1)), .int .i64 (hdP p).cnt, .int .i64 (hdP p).first, .int .i64 (hdP p).grt, .int .i64 (hdP p).prod, .int .i32 (hdP p).seq] 34) = W4 at *
      have q0' := (hW4.cell (p := ⟨g, j, none⟩) hg).trans q0
      have r0 := (hW4.cell (p := ⟨b, off + j * 9, none⟩) hbb).trans p0
      have r1 := (hW4.cell (p := ⟨b, off + j * 9 + 1, none⟩) hbb).trans p1
      have r2 := (hW4.cell (p := ⟨b, off + j * 9 + 2, none⟩) hbb).trans p2
      have r3 := (hW4.cell (p := ⟨b, off + j * 9 + 3, none⟩) hbb).trans p3
      have r4 := (hW4.cell (p := ⟨b, off + j * 9 + 4, none⟩) hbb).trans p4
      have r5 := (hW4.cell (p := ⟨b, off + j * 9 + 5, none⟩) hbb).trans p5
      have r6 := (hW4.cell (p := ⟨b, off + j * 9 + 6, none⟩) hbb).trans p6
      have r7 := (hW4.cell (p := ⟨b, off + j * 9 + 7, none⟩) hbb).trans p7
      have r8 := (hW4.cell (p := ⟨b, off + j * 9 + 8, none⟩) hbb).trans p8
      obtain ⟨t0, t1, t2, t3, t4, t5, t6, t7⟩ := cells8 hN4
      clear p0 p1 p2 p3 p4 p5 p6 p7 p8 q0 b4 hW4 hN4 CKj
      have hne := HNE.out
      have hgd := HGD.out
      clear HNE HGD
      generalize w4.heap.size = hb4 at *
      generalize (hdP p).base = x0 at *
      generalize decide ((hdP p).st = 1) = x2 at *
      generalize (hdP p).cnt = x3 at *
      generalize (hdP p).first = x4 at *
      generalize (hdP p).grt = x5 at *
      generalize (hdP p).prod = x6 at *
      generalize (hdP p).seq = x7 at *
      generalize hFF : frB p = F at *
      obtain ⟨KK, hKK⟩ : ∃ KK, AT + F.size = KK := ⟨_, rfl⟩
      rw [hKK] at hp1 hp2
      have hKI : (AT : Int) + (F.size : Int) = (KK : Int) := by omega
      have hKS : (KK : Int) ≤ S.size := by omega
      have hAK : (AT : Int) ≤ KK := by omega
      have hA0 : (0 : Int) ≤ (AT : Int) := by omega
      have hSz : (S.size : Int) ≤ 17592186044416 := by omega
      have HKK := hid hKK
      clear hFF HP HL CK hKK
      go_quiet (fail)
      go_wp2_with fail
      go_roundg k
      case measure => omega
      case rel => exact ⟨j + 1, by omega, congrArg (Value.int .i64) (by have := HPS.out; have := HKK.out; omega), by go_num, HW4.out.trans ((bel_drewN _ _).mono HW4.out.size)⟩
    · have hj : j = ps.length := by omega
      subst hj
      have hjI : ¬ ((ps.length : Nat) : Int) < ps.length := by omega
      have HVW := hid (HV3.out.below HW.out)
      have HBW := hid (B3.out.trans (HW.out.mono B3.out.size))
      generalize (cat (ps.take ps.length)).size = AT at *
      clear HT3 HV3 HW B3 CK HL HP HC
      go_wp2_with fail
      refine (CM.out _).mono ?_
      rintro e w5 ⟨a5, c5, rfl, V5, hc5, b5⟩
      have B5 := hid (HBW.out.trans (b5.mono HBW.out.size))
      have V6 := V5.take L.length
      rw [List.take_left] at V6
      have CL : Hid (Calls Tryz.prog 26 #[.slice a5 ps.length c5, .slice a3 ps.length c3] w5 fun e w' => e = .returned (.bool true) ∧ Below w5.heap.size w5 w') := by
        have := alike_yes a5 a3 c5 c3 L w5 (by omega) V6 (HVW.out.below b5)
        rw [hLl] at this
        exact this
      have hlen : (L ++ X).length = ps.length + X.length := by rw [List.length_append, hLl]
      rw [hlen] at hc5
      clear b5 V5 V6 HBW HVW CM
      generalize X.length = XL at *
      have hge : ((ps.length : Nat) : Int) ≤ (ps.length : Int) + (XL : Int) := by omega
      have hc5I : ((ps.length : Nat) : Int) ≤ c5 := by omega
      have hp0 : (0 : Int) ≤ ((ps.length : Nat) : Int) := by omega
      have hEN : (S.size : Int) ≤ EN := by omega
      rw [hlen]
      by_cases hw : WY = 0
      · have hE := m3 hw
        subst hw hE
        go_wp2_with fail
        refine CL.out.mono ?_
        rintro e w6 ⟨rfl, b6⟩
        go_wp2_with fail
        go_ret
        exact ⟨rfl, B5.out.trans (b6.mono B5.out.size)⟩
      · have hw' : ¬ (WY : Int) = 0 := by omega
        have hwB : ((WY : Int) == 0) = false := by simp; omega
        clear m3
        go_wp2_with fail
        refine CL.out.mono ?_
        rintro e w6 ⟨rfl, b6⟩
        go_wp2_with fail
        go_ret
        exact ⟨rfl, B5.out.trans (b6.mono B5.out.size)⟩
end Go.Proofs.YtgcgnkafhpjdiaaGreat
