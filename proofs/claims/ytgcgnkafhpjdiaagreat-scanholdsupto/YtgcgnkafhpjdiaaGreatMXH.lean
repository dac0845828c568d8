/- Texts of the proof, put together: X12a, Ssm, Srp, Shp, Sxh, Shl. -/
import Derived.Test.YtgcgnkafhpjdiaaGreatMX6
import Derived.Test.YtgcgnkafhpjdiaaGreatMSc
import Derived.Test.YtgcgnkafhpjdiaaGreatMSd
import Derived.Deep.AppendLies
namespace Go.Proofs.YtgcgnkafhpjdiaaGreat
open Go.RowKit
theorem Tryz.infoXF : (Tryz.prog.info? 42).map (fun i => (i.zero, i.size, i.bytes)) = some (some (.agg #[.int .i64 0, .int .i64 0, .bool false, .int .i64 0, .int .i64 0, .int .i64 0, .int .i64 0, .int .i32 0, .int .i64 0]), 9, 72) := by kernel_rfl
theorem xbehind_any (f : Fs) (LN : Int) (w : World) (h : Right f) : Calls Tryz.prog 29 #[.agg #[.int .i64 f.base, .int .i64 LN, .bool (decide (f.st = 1)), .int .i64 f.cnt, .int .i64 f.first, .int .i64 f.grt, .int .i64 f.prod, .int .i32 f.seq]] w fun e w' => e = .returned (.int .i64 (f.base + f.cnt)) ∧ Below w.heap.size w w' := by
  have h1 := h.b
  have h2 := h.c2
  have h3 : (f.cnt : Int) ≤ 65536 := by omega
  go_enter Tryz.func29, Tryz.ntmps29
  go_wp2_with fail
  go_ret
  exact ⟨rfl, (Below.refl _ _).alloc (Nat.le_refl _) _⟩
theorem fd1_one (x : Fs × Nat) : ∀ u ∈ fd1 x, u.oneCell' = true := by
  intro u hu
  unfold fd1 fdA at hu
  simp only [List.mem_cons, List.not_mem_nil, or_false] at hu
  rcases hu with rfl | rfl | rfl | rfl | rfl | rfl | rfl | rfl | rfl <;> rfl
/-- What is known between two rounds. -/
structure RA (s : ByteArray) (base frame plain : Int) (pre : List Yd) (m k : Nat) (b : Int) : Prop where
  run : pre ++ trc (lks s frame plain) s.size m k b = tr s base frame plain
  fuel : s.size - k < m
  le : k ≤ s.size
  en : enG 0 pre = k
  wy : wyG 0 pre = 0
theorem RA.stop {s : ByteArray} {base frame plain : Int} {pre : List Yd} {m k : Nat} {b : Int} {e : Nat} (h : RA s base frame plain pre m k b) (hk : k < s.size) (hl : lks s frame plain k b = .error e) : frs (tr s base frame plain) = frs pre ∧ enG 0 (tr s base frame plain) = k ∧ wyG 0 (tr s base frame plain) = e := by
  obtain ⟨m, rfl⟩ : ∃ m', m = m' + 1 := ⟨m - 1, by have := h.fuel; omega⟩
  rw [← h.run, trc_no hk hl, frs_no, enG_no, wyG_no]
  exact ⟨rfl, h.en, rfl⟩
theorem RA.done {s : ByteArray} {base frame plain : Int} {pre : List Yd} {m k : Nat} {b : Int} (h : RA s base frame plain pre m k b) (hk : ¬ k < s.size) : frs (tr s base frame plain) = frs pre ∧ enG 0 (tr s base frame plain) = k ∧ wyG 0 (tr s base frame plain) = 0 := by
  rw [← h.run, trc_end hk, List.append_nil]
  exact ⟨rfl, h.en, h.wy⟩
theorem RA.next {s : ByteArray} {base frame plain : Int} {pre : List Yd} {m k : Nat} {b : Int} {f : Fs} (h : RA s base frame plain pre m k b) (hk : k < s.size) (hl : lks s frame plain k b = .ok f) (hi : k + (12 + f.len) ≤ s.size) : RA s base frame plain (pre ++ [.fr f k]) (m - 1) (k + (12 + f.len)) (f.base + f.cnt) := by
  obtain ⟨m, rfl⟩ : ∃ m', m = m' + 1 := ⟨m - 1, by have := h.fuel; omega⟩
  refine ⟨?_, by have := h.fuel; omega, hi, enG_fr _ _ _ _, by rw [wyG_app, h.wy]; rfl⟩
  rw [← h.run, trc_fr hk hl, List.append_assoc]
  rfl
theorem RA.short {s : ByteArray} {base frame plain : Int} {pre : List Yd} {m k : Nat} {b : Int} (h : RA s base frame plain pre m k b) : (frs pre).length ≤ (tr s base frame plain).length := by
  rw [← h.run, List.length_append]
  have := frs_le pre
  omega
set_option maxHeartbeats 4000000 in
set_option maxRecDepth 20000 in
theorem xall_any (s : ByteArray) (base frame plain : Int) (hs : s.size ≤ 1048576) (w : World) :
    Calls Tryz.prog 10 #[.string s, .int .i64 base, .int .i64 frame, .int .i64 plain] w fun e w' => ∃ v, e = .returned (.tuple #[v, .int .i64 (enG 0 (tr s base frame plain)), .int .i64 (wyG 0 (tr s base frame plain))]) ∧ w'.ownsRow w.heap.size 42 9 v (frs (tr s base frame plain)).length (fcs (frs (tr s base frame plain))) ∧ Below w.heap.size w w' := by
  obtain ⟨i0, hi, hz0, hz1, hz2⟩ := info_parts Tryz.infoXF
  have hle := tr_le s base frame plain
  have HR0 : Hid (RA s base frame plain [] (s.size + 1) 0 base) := ⟨rfl, by omega, Nat.zero_le _, rfl, rfl⟩
  have HST := hid (fun pre m k b e (h : RA s base frame plain pre m k b) hk hl => h.stop (e := e) hk hl)
  have HDN := hid (fun pre m k b (h : RA s base frame plain pre m k b) hk => h.done hk)
  have HSH := hid (fun pre m k b (h : RA s base frame plain pre m k b) => h.short)
  have CC := hid (fun k w => xcheck_any (s.extract k s.size) frame plain w (by rw [ByteArray.size_extract]; omega))
  generalize frs (tr s base frame plain) = L at *
  generalize enG 0 (tr s base frame plain) = EN at *
  generalize wyG 0 (tr s base frame plain) = WY at *
  generalize (tr s base frame plain).length = TL at *
  have hsI : (s.size : Int) ≤ 1048576 := by omega
  go_enter Tryz.func10, Tryz.ntmps10
  go_wp2_with fail
  go_loopg [1, 11, 12] s.size (fun g v1 v11 v12 wr => ∃ (m k : Nat) (b : Int) (pre : List Yd) (va : Option Addr) (vn vc : Nat), k + g = s.size ∧ v1 = .int .i64 b ∧ v12 = .int .i64 k ∧ v11 = .slice va vn vc ∧ Hid (RA s base frame plain pre m k b) ∧ Hid (wr.ownsRow w.heap.size 42 9 (.slice va vn vc) (frs pre).length (fcs (frs pre))) ∧ Hid (Below w.heap.size w wr))
  case atStart => exact ⟨s.size + 1, 0, base, [], none, 0, 0, by omega, rfl, rfl, rfl, HR0, World.ownsRow_nil _ _ _ _, Below.refl _ _⟩
  case round =>
    obtain ⟨m, k, b, pre, va, vn, vc, hg, rfl, rfl, rfl, HR, HO, HB⟩ := hrel
    by_cases hlt : k < s.size
    · have hltI : (k : Int) < s.size := by omega
      have hk0 : (0 : Int) ≤ (k : Int) := by omega
      have hkS : (k : Int) ≤ s.size := by omega
      have CK := hid (fun w => CC.out k w)
      have hpl := HSH.out _ _ _ _ HR.out
      cases ho : opn (s.extract k s.size) frame plain with
      | error x =>
        have hl : lks s frame plain k b = .error x := by unfold lks; rw [ho]
        obtain ⟨s1, s2, s3⟩ := HST.out pre m k b x HR.out hlt hl
        rw [ho] at CK
        unfold noHd at CK
        dsimp only at CK
        have hx := opn_pos ho
        have hxI : ¬ (x : Int) = 0 := by omega
        subst s2 s3
        have HS1 := hid s1
        clear ho hl s1 HST HDN HSH CC
        go_wp2_with fail
        refine (CK.out _).mono ?_
        rintro e w1 ⟨rfl, b1⟩
        have B1 := HB.out.trans (b1.mono HB.out.size)
        have B2 := B1.alloc B1.size (.cells #[.int .i64 0, .int .i64 0, .bool false, .int .i64 0, .int .i64 0, .int .i64 0, .int .i64 0, .int .i32 0] 34)
        have HO2 := hid ((HO.out.below_row b1).alloc (.cells #[.int .i64 0, .int .i64 0, .bool false, .int .i64 0, .int .i64 0, .int .i64 0, .int .i64 0, .int .i32 0] 34))
        have HB2 := hid B2
        clear B1 B2 b1
        go_wp2_with fail
        exact bodyPost_ret (v := .tuple #[.slice va vn vc, .int .i64 EN, .int .i64 WY]) (by simp [results, Tryz.results10, go_sem]) rfl ⟨.slice va vn vc, rfl, by rw [HS1.out]; exact HO2.out, HB2.out⟩
      | ok y =>
        obtain ⟨f, bb⟩ := y
        rw [ho] at CK
        unfold hdV at CK
        dsimp only at CK
        obtain ⟨hRt, hFo, hin⟩ := opn_right ho
        rw [ByteArray.size_extract] at hin
        have hl1 := hRt.l1
        obtain ⟨LN, hLN⟩ : ∃ LN : Nat, 12 + f.len = LN := ⟨_, rfl⟩
        rw [hLN] at CK
        have CB := hid (fun w => xbehind_any f LN w hRt)
        by_cases hbs : f.base = b
        · have hl : lks s frame plain k b = .ok f := by unfold lks; rw [ho]; dsimp only; rw [if_pos hbs]
          have HN := hid (HR.out.next hlt hl (by omega))
          have hkL : (k : Int) + (LN : Int) ≤ s.size := by omega
          have hnews : fd1 (f, k) = [.int .i64 f.base, .int .i64 LN, .bool (decide (f.st = 1)), .int .i64 f.cnt, .int .i64 f.first, .int .i64 f.grt, .int .i64 f.prod, .int .i32 f.seq, .int .i64 k] := by rw [← hLN]; rfl
          have HNW := hid hnews
          have HO1 := hid (fd1_one (f, k))
          rw [hnews] at HO1
          have HLN := hid hLN
          have hLN0 : 0 < LN := by omega
          have HHB := hid hbs
          have hbB : (f.base != b) = false := by rw [hbs]; simp
          clear ho hl HST HDN HSH CC hnews hLN hRt hFo HR
          subst hbs
          go_wp2_with fail
          refine (CK.out _).mono ?_
          rintro e w1 ⟨rfl, b1⟩
          have N1 : Bx1 w1 #[.int .i64 f.base, .int .i64 LN, .bool (decide (f.st = 1)), .int .i64 f.cnt, .int .i64 f.first, .int .i64 f.grt, .int .i64 f.prod, .int .i32 f.seq] 34 (w1.alloc (.cells #[.int .i64 f.base, .int .i64 LN, .bool (decide (f.st = 1)), .int .i64 f.cnt, .int .i64 f.first, .int .i64 f.grt, .int .i64 f.prod, .int .i32 f.seq] 34)) := Bx1.new w1 _ _
          have B1 := HB.out.trans (b1.mono HB.out.size)
          have HO2 := hid (((HO.out.below_row b1).below_row N1.b).alloc (.cells #[.int .i64 f.base, .int .i64 LN, .bool (decide (f.st = 1)), .int .i64 f.cnt, .int .i64 f.first, .int .i64 f.grt, .int .i64 f.prod, .int .i32 f.seq, .int .i64 k] 42))
          have HB2 := hid (B1.trans (N1.b.mono B1.size))
          have hp2 := N1.p
          have hsz : w.heap.size ≤ w1.heap.size := B1.size
          obtain ⟨q0, q1, q2, q3, q4, q5, q6, q7⟩ := cells8 N1.p
          clear B1 b1 HO
          go_wp2_with (at_builtin; refine wpList_append_lies _ rfl _ _ 25 rfl w.heap.size 42 i0 (.agg #[.int .i64 0, .int .i64 0, .bool false, .int .i64 0, .int .i64 0, .int .i64 0, .int .i64 0, .int .i32 0, .int .i64 0]) 9 72 Tryz.underlying25 hi hz0 hz1 hz2 rfl (by decide) _ (frs pre).length (fcs (frs pre)) rfl HO2.out ⟨w1.heap.size + 1, 0, none⟩ 1 1 [.int .i64 f.base, .int .i64 LN, .bool (decide (f.st = 1)), .int .i64 f.cnt, .int .i64 f.first, .int .i64 f.grt, .int .i64 f.prod, .int .i32 f.seq, .int .i64 k] rfl rfl ?c1 ?c2 ?c3 ?c4 ?c5 ?c6 _ rfl ?_)
          case c1 => exact World.news_of_block (by simpa using heap_new (w1.alloc (.cells #[.int .i64 f.base, .int .i64 LN, .bool (decide (f.st = 1)), .int .i64 f.cnt, .int .i64 f.first, .int .i64 f.grt, .int .i64 f.prod, .int .i32 f.seq] 34)) (.cells #[.int .i64 f.base, .int .i64 LN, .bool (decide (f.st = 1)), .int .i64 f.cnt, .int .i64 f.first, .int .i64 f.grt, .int .i64 f.prod, .int .i32 f.seq, .int .i64 k] 42))
          case c2 => exact HO1.out
          case c3 => omega
          case c4 => unfold maxLen; omega
          case c5 => omega
          case c6 => simp; omega
          intro g5 cap5 w5 hown5 hgrow5 hat5 hlt5
          have hp5 : w5.heap[w1.heap.size]? = some (.cells #[.int .i64 f.base, .int .i64 LN, .bool (decide (f.st = 1)), .int .i64 f.cnt, .int .i64 f.first, .int .i64 f.grt, .int .i64 f.prod, .int .i32 f.seq] 34 (0, 0)) := (hgrow5.block _ (lt_of_heap (heap_alloc_at hp2)) (fun e => own_ne HO2.out (heap_alloc_at hp2) (by decide) e.symm)).trans (heap_alloc_at hp2)
          obtain ⟨t0, t1, t2, t3, t4, t5, t6, t7⟩ := cells8 hp5
          have HB5 := hid (show Below w.heap.size w w5 from (HB2.out.alloc HB2.out.size _).grown hgrow5 (by have := HB2.out.size; simp at *; omega) (fun k hk => (World.ownsRow.lt HO2.out k hk).1))
          have HO5 := hid hown5
          clear hgrow5 hat5 hlt5 hown5 q0 q1 q2 q3 q4 q5 q6 q7 hp2 hp5 N1
          go_wp2_with (go_at_call 29; refine (CB.out _).mono ?_; rintro e w6 ⟨rfl, b6⟩; have HB6 := hid (HB5.out.trans (b6.mono HB5.out.size)); have HO6 := hid (HO5.out.below_row b6); clear b6)
          go_roundg (s.size - (k + LN))
          case measure => omega
          case rel =>
            refine ⟨m - 1, k + LN, f.base + f.cnt, pre ++ [.fr f k], some ⟨g5, 0, none⟩, (frs pre).length + 1, cap5, by omega, rfl, congrArg (Value.int .i64) (by omega), rfl, ?_, ?_, HB6.out⟩
            · have := HN.out
              rw [HLN.out] at this
              exact this
            · rw [frs_fr, List.length_append, fcs_snoc, HNW.out]
              exact HO6.out
        · have hl : lks s frame plain k b = .error 30 := by unfold lks; rw [ho]; dsimp only; rw [if_neg hbs]
          obtain ⟨s1, s2, s3⟩ := HST.out pre m k b 30 HR.out hlt hl
          subst s2 s3
          have HS1 := hid s1
          have hbB : (f.base != b) = true := by rw [bne_iff_ne]; exact hbs
          clear ho hl s1 HST HDN HSH CC
          go_wp2_with fail
          refine (CK.out _).mono ?_
          rintro e w1 ⟨rfl, b1⟩
          have B1 := HB.out.trans (b1.mono HB.out.size)
          have B2 := B1.alloc B1.size (.cells #[.int .i64 f.base, .int .i64 LN, .bool (decide (f.st = 1)), .int .i64 f.cnt, .int .i64 f.first, .int .i64 f.grt, .int .i64 f.prod, .int .i32 f.seq] 34)
          have HO2 := hid ((HO.out.below_row b1).alloc (.cells #[.int .i64 f.base, .int .i64 LN, .bool (decide (f.st = 1)), .int .i64 f.cnt, .int .i64 f.first, .int .i64 f.grt, .int .i64 f.prod, .int .i32 f.seq] 34))
          have HB2 := hid B2
          clear B1 B2 b1
          go_wp2_with fail
          exact bodyPost_ret (v := .tuple #[.slice va vn vc, .int .i64 EN, .int .i64 30]) (by simp [results, Tryz.results10, go_sem]) rfl ⟨.slice va vn vc, rfl, by rw [HS1.out]; exact HO2.out, HB2.out⟩
    · obtain ⟨s1, s2, s3⟩ := HDN.out pre m k b HR.out hlt
      have hltI : ¬ (k : Int) < s.size := by omega
      subst s2 s3
      have HS1 := hid s1
      clear s1 HST HDN HSH CC
      go_wp2_with fail
      exact bodyPost_ret (v := .tuple #[.slice va vn vc, .int .i64 EN, .int .i64 0]) (by simp [results, Tryz.results10, go_sem]) rfl ⟨.slice va vn vc, rfl, by rw [HS1.out]; exact HO.out, HB.out⟩
end Go.Proofs.YtgcgnkafhpjdiaaGreat
namespace Go.Proofs.YtgcgnkafhpjdiaaGreat
open Go.RowKit
theorem own_fds {w : World} {B : Nat} {T : TypeId} {v : Value} {l : List (Fs × Nat)} (h : w.ownsRow B T 9 v l.length (fcs l)) : ∃ a cap, v = .slice a l.length cap ∧ Fds w a l ∧ ∀ ad, a = some ad → v.ownBlock = some ad.block := by
  have hr := h
  rcases h.2 with ⟨rfl, h2⟩ | ⟨g, cap, cur, rfl, h3, h4, h5⟩
  · exact ⟨none, 0, by rw [h2], Or.inl (List.eq_nil_of_length_eq_zero h2), fun _ e => by cases e⟩
  · refine ⟨_, cap, rfl, Or.inr ⟨g, 0, rfl, lt_of_heap h4, fun j hj => ?_⟩, fun ad e => by cases e; rfl⟩
    have c := fun k (hk : k < 9) => (hr.cellAt (j * 9 + k) (by omega)).trans (fcs_at hj hk)
    rw [Nat.zero_add]
    exact ⟨c 0 (by omega), c 1 (by omega), c 2 (by omega), c 3 (by omega), c 4 (by omega), c 5 (by omega), c 6 (by omega), c 7 (by omega), c 8 (by omega)⟩
set_option maxHeartbeats 2000000 in
set_option maxRecDepth 20000 in
theorem same12_yes (a1 a2 : Option Addr) (cap1 cap2 : Nat) (l : List (Fs × Nat)) (w : World) (hl : l.length ≤ 9223372036854775807) (V1 : Fds w a1 l) (V2 : Fds w a2 l) :
    Calls Tryz.prog 12 #[.slice a1 l.length cap1, .slice a2 l.length cap2] w fun e w' => e = .returned (.bool true) ∧ Below w.heap.size w w' := by
  have HV1 := hid V1
  have HV2 := hid V2
  clear V1 V2
  go_enter Tryz.func12, Tryz.ntmps12
  go_wp2_with fail
  go_loopg [5] l.length (fun k i wr => ∃ j : Nat, j + k = l.length ∧ i = .int .i64 j ∧ Below w.heap.size w wr)
  case atStart => exact ⟨0, by omega, rfl, Below.refl _ _⟩
  case round =>
    obtain ⟨j, hk, rfl, hq⟩ := hrel
    by_cases hlt : j < l.length
    · obtain ⟨k, rfl⟩ : ∃ k, gk = k + 1 := ⟨gk - 1, by omega⟩
      rcases HV1.out.below hq with rfl | ⟨b, off, rfl, hbl, hc⟩
      · simp at hlt
      rcases HV2.out.below hq with rfl | ⟨b2, off2, rfl, hbl2, hc2⟩
      · simp at hlt
      obtain ⟨q0, q1, q2, q3, q4, q5, q6, q7, q8⟩ := hc j hlt
      obtain ⟨p0, p1, p2, p3, p4, p5, p6, p7, p8⟩ := hc2 j hlt
      generalize l.getD j dfd = r at *
      obtain ⟨f, at'⟩ := r
      dsimp only at q0 q1 q2 q3 q4 q5 q6 q7 q8 p0 p1 p2 p3 p4 p5 p6 p7 p8
      generalize ((12 + f.len : Nat) : Int) = LN at *
      have hne := neq_hd f.base LN (decide (f.st = 1)) f.cnt f.first f.grt f.prod f.seq
      have hgd := fun x y w => run_eqGuard_agg (P := Tryz.prog) w BinOp.neq 34 x y #[.int .i64 f.base, .int .i64 LN, .bool (decide (f.st = 1)), .int .i64 f.cnt, .int .i64 f.first, .int .i64 f.grt, .int .i64 f.prod, .int .i32 f.seq] #[.int .i64 f.base, .int .i64 LN, .bool (decide (f.st = 1)), .int .i64 f.cnt, .int .i64 f.first, .int .i64 f.grt, .int .i64 f.prod, .int .i32 f.seq] Tryz.hdGuard
      have b1 : (0 : Int) ≤ (j : Int) := by omega
      have b2' : (j : Int) < l.length := by omega
      clear hc hc2
      go_wp2_with fail
      go_quiet (fail)
      go_wp2_with fail
      go_roundg k
      case measure => omega
      case rel => exact ⟨j + 1, by omega, by go_num, hq.trans ((bel_drewN _ _).mono hq.size)⟩
    · go_wp2_with fail
      go_ret
      exact ⟨rfl, hq⟩
end Go.Proofs.YtgcgnkafhpjdiaaGreat
namespace Go.Proofs.YtgcgnkafhpjdiaaGreat
open Go.RowKit
def dpp : Bt × ByteArray := (dbt, ⟨#[]⟩)
theorem fys_getD : ∀ (ps : List (Bt × ByteArray)) (k j : Nat), j < ps.length → (frs (fys k ps)).getD j dfd = (hdP (ps.getD j dpp), k + (cat (ps.take j)).size)
  | [], _, _, h => by cases h
  | p :: ps, k, 0, _ => by show (hdP p, k) = (hdP p, k + 0); rfl
  | p :: ps, k, j + 1, h => by
    show (frs (fys (k + (frB p).size) ps)).getD j dfd = _
    rw [fys_getD ps _ j (by simpa using h)]
    show (hdP (ps.getD j dpp), k + (frB p).size + (cat (ps.take j)).size) = (hdP (ps.getD j dpp), k + (frB p ++ cat (ps.take j)).size)
    rw [ByteArray.size_append, Nat.add_assoc]
theorem ppD_take {l : List (Bt × ByteArray)} {j : Nat} (h : j < l.length) : l.take (j + 1) = l.take j ++ [l.getD j dpp] := by
  rw [List.getD_eq_getElem?_getD, List.getElem?_eq_getElem h, Option.getD_some, List.take_succ_eq_append_getElem h]
theorem ppD_mem {l : List (Bt × ByteArray)} {j : Nat} (h : j < l.length) : l.getD j dpp ∈ l := by
  rw [List.getD_eq_getElem?_getD, List.getElem?_eq_getElem h, Option.getD_some]
  exact List.getElem_mem h
theorem cat_step {l : List (Bt × ByteArray)} {j : Nat} (h : j < l.length) : (cat (l.take (j + 1))).size = (cat (l.take j)).size + (frB (l.getD j dpp)).size := by
  rw [ppD_take h, cat_snoc, ByteArray.size_append]
theorem cat_part {l : List (Bt × ByteArray)} {j : Nat} (h : j < l.length) : (cat l).extract (cat (l.take j)).size ((cat (l.take j)).size + (frB (l.getD j dpp)).size) = frB (l.getD j dpp) ∧ (cat (l.take j)).size + (frB (l.getD j dpp)).size ≤ (cat l).size := by
  have e : cat l = cat (l.take j) ++ (frB (l.getD j dpp) ++ cat (l.drop (j + 1))) := by
    conv => lhs; rw [← List.take_append_drop (j + 1) l, cat_app, ppD_take h, cat_snoc, ByteArray.append_assoc]
  refine ⟨?_, by rw [e, ByteArray.size_append, ByteArray.size_append]; omega⟩
  conv => lhs; rw [e]
  apply bl_inj
  rw [bl_ext, bl_app, bl_app, List.drop_left' (bl_len _)]
  exact List.take_left' (by rw [bl_len]; omega)
theorem FrC.mem : ∀ {b0 b1 : Int} {ps : List (Bt × ByteArray)}, FrC b0 ps b1 → ∀ p ∈ ps, BtOk p.1 ∧ StoP p.1 0 p.2
  | _, _, [], _, p, hp => by cases hp
  | _, _, q :: ps, h, p, hp => by
    rcases List.mem_cons.1 hp with rfl | hp
    · exact ⟨h.2.1, h.2.2.1⟩
    · exact FrC.mem h.2.2.2 p hp
theorem trc_ge {lk : Nat → Int → Except Nat Fs} {N : Nat} : ∀ (m k : Nat) (b : Int), k ≤ enG k (trc lk N m k b)
  | 0, k, b => Nat.le_refl _
  | m + 1, k, b => by
    by_cases hlt : k < N
    · cases h : lk k b with
      | error e => rw [trc_no hlt h]; exact Nat.le_refl _
      | ok f =>
        rw [trc_fr hlt h]
        have := trc_ge (lk := lk) (N := N) m (k + (12 + f.len)) (f.base + f.cnt)
        show k ≤ enG (k + (12 + f.len)) (trc lk N m (k + (12 + f.len)) (f.base + f.cnt))
        omega
    · rw [trc_end hlt]; exact Nat.le_refl _
theorem trc_why {lk : Nat → Int → Except Nat Fs} {N : Nat} (hl : ∀ k b f, lk k b = .ok f → k + (12 + f.len) ≤ N) (hp : ∀ k b e, lk k b = .error e → e ≠ 0) : ∀ (m k : Nat) (b : Int), k ≤ N → N - k < m → wyG 0 (trc lk N m k b) = 0 → enG k (trc lk N m k b) = N
  | 0, k, b, _, h, _ => by omega
  | m + 1, k, b, hk, h, hw => by
    by_cases hlt : k < N
    · cases he : lk k b with
      | error e =>
        rw [trc_no hlt he] at hw
        exact absurd hw (hp k b e he)
      | ok f =>
        rw [trc_fr hlt he] at hw ⊢
        exact trc_why hl hp m (k + (12 + f.len)) (f.base + f.cnt) (hl k b f he) (by omega) hw
    · rw [trc_end hlt]
      show k = N
      omega
theorem lks_in {s : ByteArray} {frame plain : Int} (k : Nat) (b : Int) (f : Fs) (h : lks s frame plain k b = .ok f) : k + (12 + f.len) ≤ s.size := by
  obtain ⟨bb, ho, _⟩ := lks_ok h
  have hr := opn_right ho
  rw [ByteArray.size_extract] at hr
  have := hr.1.l1
  omega
/-- The run with more behind it. -/
theorem tr_more {ps : List (Bt × ByteArray)} {b0 b1 : Int} (h : FrC b0 ps b1) (more : ByteArray) : ∃ X, frs (tr (cat ps ++ more) b0 16777216 16777216) = frs (fys 0 ps) ++ X ∧ (cat ps).size ≤ enG 0 (tr (cat ps ++ more) b0 16777216 16777216) ∧ (wyG 0 (tr (cat ps ++ more) b0 16777216 16777216) = 0 → enG 0 (tr (cat ps ++ more) b0 16777216 16777216) = (cat ps).size + more.size) := by
  obtain ⟨m, h1, h2⟩ := tr_cat h more
  rw [h2, frs_app, enG_app, wyG_app, fys_en, fys_wy, Nat.zero_add]
  refine ⟨_, rfl, trc_ge _ _ _, fun hw => ?_⟩
  rw [trc_why (fun k b f => lks_in k b f) (fun k b e => lks_pos) m _ _ (by rw [ByteArray.size_append]; omega) h1 hw, ByteArray.size_append]
theorem check_part {p : Bt × ByteArray} (h1 : BtOk p.1) (h2 : StoP p.1 0 p.2) (w : World) : Calls Tryz.prog 25 #[.string (frB p), .int .i64 16777216, .int .i64 16777216] w fun e w' => e = .returned (.tuple #[hdV (hdP p), .int .i64 0]) ∧ Below w.heap.size w w' := by
  have h := check6_any (frB p) 16777216 16777216 w (by have := (sto_zero h2).2 rfl; rw [frB_size]; omega)
  obtain ⟨S, ho⟩ := opn_sto h1 h2 ⟨#[]⟩
  rw [app_emp] at ho
  have ho' : opn (frB p) 16777216 16777216 = .ok (hdP p, S) := ho
  rw [ho'] at h
  exact h
theorem all_B (s : ByteArray) (base frame plain : Int) (hs : s.size ≤ 70368744177664) (w : World) :
    Calls Tryz.prog 11 #[.string s, .int .i64 base, .int .i64 frame, .int .i64 plain] w fun e w' => ∃ a cap, e = .returned (.tuple #[.slice a (frs (tr s base frame plain)).length cap, .int .i64 (enG 0 (tr s base frame plain)), .int .i64 (wyG 0 (tr s base frame plain))]) ∧ Fds w' a (frs (tr s base frame plain)) ∧ (frs (tr s base frame plain)).length ≤ cap ∧ Below w.heap.size w w' := by
  have hl := tr_le s base frame plain
  refine (all_any s base frame plain (by omega) (by omega) w).mono ?_
  rintro e w' ⟨v, rfl, hO, hb⟩
  obtain ⟨a, cap, rfl, V, hc⟩ := OwF.fds hO
  exact ⟨a, cap, rfl, V, hc, hb⟩
/-- A row of texts where it lies. -/
def Txr (w : World) (a : Option Addr) (ps : List (Bt × ByteArray)) : Prop := ps = [] ∨ ∃ g, a = some ⟨g, 0, none⟩ ∧ g < w.heap.size ∧ ∀ j, j < ps.length → w.cell? ⟨g, j, none⟩ = some (.string (frB (ps.getD j dpp)))
theorem Txr.below {w w' : World} {a : Option Addr} {ps : List (Bt × ByteArray)} (h : Txr w a ps) (k : Below w.heap.size w w') : Txr w' a ps := by
  rcases h with h | ⟨g, h1, h2, h3⟩
  · exact Or.inl h
  · exact Or.inr ⟨g, h1, Nat.lt_of_lt_of_le h2 k.size, fun j hj => (k.cell (p := ⟨g, j, none⟩) h2).trans (h3 j hj)⟩
theorem own_txr {w : World} {B : Nat} {v : Value} {ps : List (Bt × ByteArray)} (h : w.ownsRow B 9 1 v ps.length (pst ps)) : ∃ a cap, v = .slice a ps.length cap ∧ Txr w a ps := by
  by_cases h0 : ps.length = 0
  · rcases h.2 with ⟨rfl, _⟩ | ⟨g, cap, cur, rfl, _⟩
    · exact ⟨none, 0, by rw [h0], Or.inl (List.eq_nil_of_length_eq_zero h0)⟩
    · exact ⟨_, cap, rfl, Or.inl (List.eq_nil_of_length_eq_zero h0)⟩
  · obtain ⟨g, cap, rfl, hc, _, hg⟩ := own_some h h0
    refine ⟨_, cap, rfl, Or.inr ⟨g, rfl, hg, fun j hj => hc j _ ?_⟩⟩
    unfold pst
    rw [List.getElem?_map, List.getElem?_eq_getElem hj, List.getD_eq_getElem?_getD, List.getElem?_eq_getElem hj]
    rfl
end Go.Proofs.YtgcgnkafhpjdiaaGreat
namespace Go.Proofs.YtgcgnkafhpjdiaaGreat
open Go.RowKit
/-- The offset behind the first j batches. -/
def bsA (b : Int) : List (Bt × ByteArray) → Nat → Int
  | _, 0 => b
  | [], _ + 1 => b
  | p :: ps, j + 1 => bsA (b + p.1.l.length) ps j
theorem bsA_zero (b : Int) (ps : List (Bt × ByteArray)) : bsA b ps 0 = b := by cases ps <;> rfl
theorem FrC.at : ∀ {b0 b1 : Int} {ps : List (Bt × ByteArray)}, FrC b0 ps b1 → ∀ j, j < ps.length → (hdP (ps.getD j dpp)).base = bsA b0 ps j ∧ (hdP (ps.getD j dpp)).base + (hdP (ps.getD j dpp)).cnt = bsA b0 ps (j + 1) ∧ bsA b0 ps j < bsA b0 ps (j + 1) ∧ Right (hdP (ps.getD j dpp))
  | _, _, [], _, j, hj => by cases hj
  | b0, b1, p :: ps, h, 0, _ => by
    have hr := (frm_right h.2.1 h.2.2.1).1
    have e1 : (hdP p).base = b0 := h.1
    have e2 : ((hdP p).cnt : Int) = p.1.l.length := rfl
    have h1 : 1 ≤ (hdP p).cnt := hr.c1
    refine ⟨?_, ?_, ?_, hr⟩
    · rw [bsA_zero]; exact e1
    · show (hdP p).base + (hdP p).cnt = bsA (b0 + p.1.l.length) ps 0
      rw [bsA_zero, e1, e2]
    · show bsA b0 (p :: ps) 0 < bsA (b0 + p.1.l.length) ps 0
      rw [bsA_zero, bsA_zero]
      omega
  | b0, b1, p :: ps, h, j + 1, hj => FrC.at h.2.2.2 j (by simpa using hj)
theorem FrC.fin : ∀ {b0 b1 : Int} {ps : List (Bt × ByteArray)}, FrC b0 ps b1 → bsA b0 ps ps.length = b1
  | _, _, [], h => h.symm
  | b0, b1, p :: ps, h => by
    show bsA (b0 + p.1.l.length) ps ps.length = b1
    exact FrC.fin h.2.2.2
theorem FrC.le {b0 b1 : Int} {ps : List (Bt × ByteArray)} (h : FrC b0 ps b1) : ∀ i j, i ≤ j → j ≤ ps.length → bsA b0 ps i ≤ bsA b0 ps j := by
  intro i j hij hj
  induction j with
  | zero =>
    have : i = 0 := by omega
    subst this
    exact Int.le_refl _
  | succ j ih =>
    rcases Nat.lt_or_ge j i with h1 | h1
    · have : i = j + 1 := by omega
      subst this
      exact Int.le_refl _
    · have h2 := ih h1 (by omega)
      have h3 := (h.at j (by omega)).2.2.1
      omega
/-- The frames of a run: their offsets. -/
structure Rn (L : List (Fs × Nat)) (n : Nat) (B : Nat → Int) : Prop where
  len : L.length = n
  base : ∀ j, j < n → (L.getD j dfd).1.base = B j
  bh : ∀ j, j < n → bh (L.getD j dfd) = B (j + 1)
  lt : ∀ j, j < n → B j < B (j + 1)
  le : ∀ i j, i ≤ j → j ≤ n → B i ≤ B j
  rt : ∀ x ∈ L, Right x.1
theorem FrC.rn {b0 b1 : Int} {ps : List (Bt × ByteArray)} (h : FrC b0 ps b1) : Rn (frs (fys 0 ps)) ps.length (bsA b0 ps) := by
  have hl := fys_frs ps 0
  have hg := fun j (hj : j < ps.length) => fys_getD ps 0 j hj
  refine ⟨hl, fun j hj => ?_, fun j hj => ?_, fun j hj => (h.at j hj).2.2.1, h.le, fun x hx => ?_⟩
  · rw [hg j hj]; exact (h.at j hj).1
  · rw [hg j hj]; exact (h.at j hj).2.1
  · obtain ⟨j, hj, rfl⟩ := List.mem_iff_getElem.1 hx
    have h1 := hg j (by omega)
    rw [List.getD_eq_getElem?_getD, List.getElem?_eq_getElem hj, Option.getD_some] at h1
    rw [h1]
    exact (h.at j (by omega)).2.2.2
theorem Rn.mon {L : List (Fs × Nat)} {n : Nat} {B : Nat → Int} (h : Rn L n B) : Mon L := by
  intro i j h1 h2
  rw [h.len] at h2
  rw [h.bh i (by omega), h.bh j h2]
  exact h.le _ _ (by omega) (by omega)
theorem Rn.held {L : List (Fs × Nat)} {n : Nat} {B : Nat → Int} (h : Rn L n B) {i : Nat} (hi : i < n) {o : Int} (h1 : B i ≤ o) (h2 : o < B (i + 1)) (a : Option Addr) (cap : Nat) (w : World) (V : Fds w a L) (hn : n ≤ 4611686018427387903) :
    Calls Tryz.prog 22 #[.slice a n cap, .int .i64 o] w fun e w' => e = .returned (.tuple #[.int .i64 i, .bool true]) ∧ Below w.heap.size w w' := by
  have hH := holds_any a cap L o w V h.rt h.mon (by rw [h.len]; exact hn)
  rw [h.len] at hH
  refine hH.mono ?_
  rintro e w' ⟨m, rfl, k1, k2, k3, hb⟩
  have hm : m = i := by
    rcases Nat.lt_trichotomy m i with h3 | h3 | h3
    · have h4 := k3 m (Nat.le_refl _) (by omega)
      rw [h.bh m (by omega)] at h4
      have := h.le (m + 1) i (by omega) (by omega)
      omega
    · exact h3
    · have h4 := k2 i h3
      rw [h.bh i hi] at h4
      omega
  subst hm
  have e : hld L o m = true := decide_eq_true ⟨by rw [h.len]; exact hi, by rw [h.base m hi]; exact h1⟩
  rw [e]
  exact ⟨rfl, hb⟩
theorem Rn.none {L : List (Fs × Nat)} {n : Nat} {B : Nat → Int} (h : Rn L n B) {o : Int} (h1 : o < B 0 ∨ B n ≤ o) (a : Option Addr) (cap : Nat) (w : World) (V : Fds w a L) (hn : n ≤ 4611686018427387903) :
    Calls Tryz.prog 22 #[.slice a n cap, .int .i64 o] w fun e w' => e = .returned (.tuple #[.int .i64 0, .bool false]) ∧ Below w.heap.size w w' := by
  have hH := holds_any a cap L o w V h.rt h.mon (by rw [h.len]; exact hn)
  rw [h.len] at hH
  refine hH.mono ?_
  rintro e w' ⟨m, rfl, k1, k2, k3, hb⟩
  have e : hld L o m = false := decide_eq_false (by
    rintro ⟨h2, h3⟩
    rw [h.len] at h2
    rw [h.base m h2] at h3
    have h4 := k3 m (Nat.le_refl _) h2
    rw [h.bh m h2] at h4
    have h5 := h.le 0 m (by omega) (by omega)
    have h6 := h.le (m + 1) n (by omega) (by omega)
    omega)
  rw [e]
  exact ⟨rfl, hb⟩
end Go.Proofs.YtgcgnkafhpjdiaaGreat
namespace Go.Proofs.YtgcgnkafhpjdiaaGreat
open Go.RowKit
/-- Found frames that join. -/
def Jn : Int → List (Fs × Nat) → Prop
  | _, [] => True
  | b, x :: L => x.1.base = b ∧ Right x.1 ∧ Jn (x.1.base + x.1.cnt) L
theorem trc_jn {lk : Nat → Int → Except Nat Fs} {N : Nat} (hl : ∀ k b f, lk k b = .ok f → f.base = b ∧ Right f) : ∀ (m k : Nat) (b : Int), Jn b (frs (trc lk N m k b))
  | 0, _, _ => trivial
  | m + 1, k, b => by
    by_cases hlt : k < N
    · cases h : lk k b with
      | error e => rw [trc_no hlt h]; exact trivial
      | ok f =>
        rw [trc_fr hlt h]
        obtain ⟨h1, h2⟩ := hl k b f h
        exact ⟨h1, h2, trc_jn hl m _ _⟩
    · rw [trc_end hlt]; exact trivial
theorem tr_jn (s : ByteArray) (base frame plain : Int) : Jn base (frs (tr s base frame plain)) := trc_jn (fun k b f h => by
  obtain ⟨bb, ho, hb⟩ := lks_ok h
  exact ⟨hb, (opn_right ho).1⟩) _ _ _
def jB : Int → List (Fs × Nat) → Nat → Int
  | b, _, 0 => b
  | b, [], _ + 1 => b
  | _, x :: L, j + 1 => jB (x.1.base + x.1.cnt) L j
theorem jB_zero (b : Int) (L : List (Fs × Nat)) : jB b L 0 = b := by cases L <;> rfl
theorem Jn.at : ∀ {b : Int} {L : List (Fs × Nat)}, Jn b L → ∀ j, j < L.length → (L.getD j dfd).1.base = jB b L j ∧ bh (L.getD j dfd) = jB b L (j + 1) ∧ jB b L j < jB b L (j + 1)
  | _, [], _, j, hj => by cases hj
  | b, x :: L, h, 0, _ => by
    have h1 : 1 ≤ x.1.cnt := h.2.1.c1
    refine ⟨?_, ?_, ?_⟩
    · rw [jB_zero]; exact h.1
    · show x.1.base + x.1.cnt = jB (x.1.base + x.1.cnt) L 0
      rw [jB_zero]
    · show jB b (x :: L) 0 < jB (x.1.base + x.1.cnt) L 0
      rw [jB_zero, jB_zero, h.1]
      omega
  | b, x :: L, h, j + 1, hj => Jn.at h.2.2 j (by simpa using hj)
theorem Jn.right : ∀ {b : Int} {L : List (Fs × Nat)}, Jn b L → ∀ x ∈ L, Right x.1
  | _, [], _, x, hx => by cases hx
  | _, y :: L, h, x, hx => by
    rcases List.mem_cons.1 hx with rfl | hx
    · exact h.2.1
    · exact Jn.right h.2.2 x hx
theorem Jn.rn {b : Int} {L : List (Fs × Nat)} (h : Jn b L) : Rn L L.length (jB b L) := by
  refine ⟨rfl, fun j hj => (h.at j hj).1, fun j hj => (h.at j hj).2.1, fun j hj => (h.at j hj).2.2, ?_, h.right⟩
  intro i j hij hj
  induction j with
  | zero =>
    have : i = 0 := by omega
    subst this
    exact Int.le_refl _
  | succ j ih =>
    rcases Nat.lt_or_ge j i with h1 | h1
    · have : i = j + 1 := by omega
      subst this
      exact Int.le_refl _
    · have h2 := ih h1 (by omega)
      have h3 := (h.at j (by omega)).2.2
      omega
theorem Rn.split {L : List (Fs × Nat)} {n : Nat} {B : Nat → Int} (_h : Rn L n B) (o : Int) : (o < B 0 ∨ B n ≤ o) ∨ ∃ i, i < n ∧ B i ≤ o ∧ o < B (i + 1) := by
  by_cases h0 : o < B 0
  · exact Or.inl (Or.inl h0)
  · have key : ∀ j, j ≤ n → B j ≤ o ∨ ∃ i, i < n ∧ B i ≤ o ∧ o < B (i + 1) := by
      intro j
      induction j with
      | zero => intro _; exact Or.inl (by omega)
      | succ j ih =>
        intro hj
        rcases ih (by omega) with h1 | h1
        · by_cases h2 : o < B (j + 1)
          · exact Or.inr ⟨j, by omega, h1, h2⟩
          · exact Or.inl (by omega)
        · exact Or.inr h1
    rcases key n (Nat.le_refl _) with h1 | h1
    · exact Or.inl (Or.inr h1)
    · exact Or.inr h1
set_option maxHeartbeats 2000000 in
set_option maxRecDepth 20000 in
theorem xholds_any {L : List (Fs × Nat)} {n : Nat} {B : Nat → Int} (h : Rn L n B) (o : Int) (a : Option Addr) (cap : Nat) (w : World) (V : Fds w a L) (hn : n ≤ 4611686018427387903) :
    Calls Tryz.prog 23 #[.slice a n cap, .int .i64 o] w fun e w' => ((∃ j, j < n ∧ B j ≤ o ∧ o < B (j + 1) ∧ e = .returned (.tuple #[.int .i64 j, .bool true])) ∨ ((∀ j, j < n → ¬ (B j ≤ o ∧ o < B (j + 1))) ∧ e = .returned (.tuple #[.int .i64 0, .bool false]))) ∧ Below w.heap.size w w' := by
  have HV := hid V
  have HR := hid h
  clear V h
  go_enter Tryz.func23, Tryz.ntmps23
  go_wp2_with fail
  go_loopg [6] n (fun k v6 wr => ∃ j : Nat, j + k = n ∧ v6 = .int .i64 j ∧ Hid (∀ i, i < j → ¬ (B i ≤ o ∧ o < B (i + 1))) ∧ Hid (Below w.heap.size w wr))
  case atStart => exact ⟨0, by omega, rfl, fun i hi => absurd hi (by omega), Below.refl _ _⟩
  case round =>
    obtain ⟨j, hk, rfl, HN, HW⟩ := hrel
    by_cases hlt : j < n
    · obtain ⟨k, rfl⟩ : ∃ k, gk = k + 1 := ⟨gk - 1, by omega⟩
      rcases HV.out.below HW.out with e | ⟨b, off, rfl, hbl, hc⟩
      · have := HR.out.len; rw [e] at this; simp at this; omega
      have hjL : j < L.length := by rw [HR.out.len]; exact hlt
      obtain ⟨q0, q1, q2, q3, q4, q5, q6, q7, q8⟩ := hc j hjL
      have CB := fun LN w => xbehind_any (L.getD j dfd).1 LN w (HR.out.rt _ (fdD_mem hjL))
      have e1 := HR.out.bh j hlt
      unfold bh at e1
      rw [e1] at CB
      have e0 := HR.out.base j hlt
      rw [e0] at q0 CB
      have hj0 : (0 : Int) ≤ (j : Int) := by omega
      have hjI : (j : Int) < n := by omega
      generalize L.getD j dfd = r at *
      obtain ⟨f, at'⟩ := r
      dsimp only at q1 q2 q3 q4 q5 q6 q7 q8 CB
      generalize ((12 + f.len : Nat) : Int) = LN at *
      have CB2 := hid (CB LN)
      generalize hU0 : B j = U0 at *
      generalize hU1 : B (j + 1) = U1 at *
      have HU := hid (And.intro hU0 hU1)
      clear hc CB e0 e1 hU0 hU1
      by_cases h1 : U0 ≤ o
      · have h1D : decide (U0 ≤ o) = true := decide_eq_true h1
        by_cases h2 : o < U1
        · have h2D : decide (o < U1) = true := decide_eq_true h2
          go_wp2_with (go_at_call 29; refine (CB2.out _).mono ?_; rintro e w6 ⟨rfl, b6⟩)
          go_ret2
          exact ⟨Or.inl ⟨j, hlt, by rw [HU.out.1]; exact h1, by rw [HU.out.2]; exact h2, rfl⟩, HW.out.trans (b6.mono HW.out.size)⟩
        · have h2D : decide (o < U1) = false := decide_eq_false h2
          go_wp2_with (go_at_call 29; refine (CB2.out _).mono ?_; rintro e w6 ⟨rfl, b6⟩; have HB6 := hid (HW.out.trans (b6.mono HW.out.size)); clear b6)
          go_roundg k
          case measure => omega
          case rel => exact ⟨j + 1, by omega, by go_num, fun i hi => by
            rcases Nat.lt_or_ge i j with h5 | h5
            · exact HN.out i h5
            · have : i = j := by omega
              subst this
              rw [HU.out.2]
              exact fun h => (by have := h.2; omega), HB6.out⟩
      · have h1D : decide (U0 ≤ o) = false := decide_eq_false h1
        go_wp2_with fail
        go_roundg k
        case measure => omega
        case rel => exact ⟨j + 1, by omega, by go_num, fun i hi => by
          rcases Nat.lt_or_ge i j with h5 | h5
          · exact HN.out i h5
          · have : i = j := by omega
            subst this
            rw [HU.out.1]
            exact fun h => (by have := h.1; omega), HW.out⟩
    · have hj : j = n := by omega
      subst hj
      go_wp2_with fail
      go_ret2
      exact ⟨Or.inr ⟨HN.out, rfl⟩, HW.out⟩
theorem xheld {L : List (Fs × Nat)} {n : Nat} {B : Nat → Int} (h : Rn L n B) {i : Nat} {o : Int} (hi : i < n) (h1 : B i ≤ o) (h2 : o < B (i + 1)) (a : Option Addr) (cap : Nat) (w : World) (V : Fds w a L) (hn : n ≤ 4611686018427387903) :
    Calls Tryz.prog 23 #[.slice a n cap, .int .i64 o] w fun e w' => e = .returned (.tuple #[.int .i64 i, .bool true]) ∧ Below w.heap.size w w' := by
  refine (xholds_any h o a cap w V hn).mono ?_
  rintro e w' ⟨⟨j, hj, k1, k2, rfl⟩ | ⟨k, _⟩, hb⟩
  · have : j = i := by
      rcases Nat.lt_trichotomy j i with h3 | h3 | h3
      · have := h.le (j + 1) i (by omega) (by omega); omega
      · exact h3
      · have := h.le (i + 1) j (by omega) (by omega); omega
    subst this
    exact ⟨rfl, hb⟩
  · exact absurd ⟨h1, h2⟩ (k i hi)
theorem xnone {L : List (Fs × Nat)} {n : Nat} {B : Nat → Int} (h : Rn L n B) {o : Int} (h1 : o < B 0 ∨ B n ≤ o) (a : Option Addr) (cap : Nat) (w : World) (V : Fds w a L) (hn : n ≤ 4611686018427387903) :
    Calls Tryz.prog 23 #[.slice a n cap, .int .i64 o] w fun e w' => e = .returned (.tuple #[.int .i64 0, .bool false]) ∧ Below w.heap.size w w' := by
  refine (xholds_any h o a cap w V hn).mono ?_
  rintro e w' ⟨⟨j, hj, k1, k2, rfl⟩ | ⟨_, rfl⟩, hb⟩
  · exfalso
    have h3 := h.le 0 j (by omega) (by omega)
    have h4 := h.le (j + 1) n (by omega) (by omega)
    omega
  · exact ⟨rfl, hb⟩
end Go.Proofs.YtgcgnkafhpjdiaaGreat
namespace Go.Proofs.YtgcgnkafhpjdiaaGreat
open Go.RowKit
/-- Numbers where they lie. -/
def I64s (w : World) (a : Option Addr) (l : List Int) : Prop := l = [] ∨ ∃ b off, a = some ⟨b, off, none⟩ ∧ b < w.heap.size ∧ ∀ j, j < l.length → w.cell? ⟨b, off + j, none⟩ = some (.int .i64 (l.getD j 0))
theorem I64s.below {w w' : World} {a : Option Addr} {l : List Int} (h : I64s w a l) (k : Below w.heap.size w w') : I64s w' a l := by
  rcases h with h | ⟨b, off, h1, h2, h3⟩
  · exact Or.inl h
  · exact Or.inr ⟨b, off, h1, Nat.lt_of_lt_of_le h2 k.size, fun j hj => (k.cell (p := ⟨b, off + j, none⟩) h2).trans (h3 j hj)⟩
/-- The question's box. -/
structure AD (w : World) (B : Nat) (s : ByteArray) (base frame plain : Int) (y : World) : Prop where
  b : Below w.heap.size w y
  f : y.heap[B]? = some (.cells #[.string s, .int .i64 base, .int .i64 frame, .int .i64 plain] 23 (0, 0))
theorem AD.call {w : World} {B : Nat} {s : ByteArray} {base frame plain : Int} {y y' : World} (h : AD w B s base frame plain y) (k : Below y.heap.size y y') : AD w B s base frame plain y' := ⟨h.b.trans (k.mono h.b.size), keep h.f k⟩
theorem rn_nil (b : Int) : Rn [] 0 (fun _ => b) := ⟨rfl, fun j hj => absurd hj (by omega), fun j hj => absurd hj (by omega), fun j hj => absurd hj (by omega), fun _ _ _ _ => Int.le_refl _, fun x hx => by cases hx⟩
set_option maxHeartbeats 8000000 in
set_option maxRecDepth 20000 in
theorem holdsL_walk (s : ByteArray) (base frame plain : Int) (ao : Option Addr) (co : Nat) (os : List Int) (w : World) (hs : s.size ≤ 1048576) (VO : I64s w ao os) (ho : os.length ≤ 1048576) :
    Calls Tryz.prog 6 #[.agg #[.string s, .int .i64 base, .int .i64 frame, .int .i64 plain], .slice ao os.length co] w fun e w' => e = .returned (.bool true) ∧ Below w.heap.size w w' := by
  have N0 : AD w w.heap.size s base frame plain (w.alloc (.cells #[.string s, .int .i64 base, .int .i64 frame, .int .i64 plain] 23)) := ⟨(Below.refl _ _).alloc (Nat.le_refl _) _, heap_new _ _⟩
  have hl := tr_le s base frame plain
  have hl2 := frs_le (tr s base frame plain)
  have CW := hid (fun w => awake_any w)
  have CX := hid (fun w => xall_any s base frame plain hs w)
  have CA := hid (fun w => all_any s base frame plain (by omega) (by omega) w)
  have hLn : (frs (tr s base frame plain)).length ≤ 1048577 := by omega
  have hR := (tr_jn s base frame plain).rn
  have CN : Hid (∀ w, Calls Tryz.prog 22 #[.slice none 0 0, .int .i64 base] w fun e w' => e = .returned (.tuple #[.int .i64 0, .bool false]) ∧ Below w.heap.size w w') := fun w => (rn_nil base).none (Or.inr (Int.le_refl _)) none 0 w (Or.inl rfl) (by omega)
  generalize frs (tr s base frame plain) = L at *
  generalize enG 0 (tr s base frame plain) = EN at *
  generalize wyG 0 (tr s base frame plain) = WY at *
  generalize jB base L = B at *
  have HSP := hid (fun o => hR.split o)
  have CH1 := hid (fun i o (hi : i < L.length) h1 h2 a c w V => hR.held hi (o := o) h1 h2 a c w V (by omega))
  have CH2 := hid (fun o h1 a c w V => hR.none (o := o) h1 a c w V (by omega))
  have CX1 := hid (fun i o (hi : i < L.length) h1 h2 a c w V => xheld hR (o := o) hi h1 h2 a c w V (by omega))
  have CX2 := hid (fun o h1 a c w V => xnone hR (o := o) h1 a c w V (by omega))
  have HVO := hid VO
  clear hl hl2 hR VO
  go_enter Tryz.func6, Tryz.ntmps6
  go_wp2_with fail
  refine (CW.out _).mono ?_
  rintro e w1 ⟨rfl, b1⟩
  have N1 := N0.call b1
  clear b1 N0 CW
  obtain ⟨k0, k1, k2, k3⟩ := cells4 N1.f
  go_wp2_with fail
  refine (CX.out _).mono ?_
  rintro e w2 ⟨v2, rfl, hO2, b2⟩
  obtain ⟨aw, cw, rfl, X2, _⟩ := own_fds hO2
  have N2 := N1.call b2
  clear b2 N1 CX k0 k1 k2 k3 hO2
  obtain ⟨k0, k1, k2, k3⟩ := cells4 N2.f
  go_wp2_with fail
  refine (CA.out _).mono ?_
  rintro e w3 ⟨v3, rfl, hO3, b3⟩
  obtain ⟨al, cl, rfl, L3, _⟩ := own_fds hO3
  have N3 := hid (N2.call b3)
  have X3 := hid (X2.below b3)
  have HL3 := hid L3
  have HO3 := hid (HVO.out.below N3.out.b)
  clear b3 k0 k1 k2 k3 hO3 X2 N2 L3 HVO CA
  go_wp2_with fail
  go_loopg [11] os.length (fun k v11 wr => ∃ j : Nat, j + k = os.length ∧ v11 = .int .i64 j ∧ Hid (Below w3.heap.size w3 wr))
  case atStart => exact ⟨0, by omega, rfl, Below.refl _ _⟩
  case round =>
    obtain ⟨j, hk, rfl, HW⟩ := hrel
    by_cases hlt : j < os.length
    · obtain ⟨k, rfl⟩ : ∃ k, gk = k + 1 := ⟨gk - 1, by omega⟩
      rcases HO3.out.below HW.out with e | ⟨b, off, rfl, hbl, hc⟩
      · rw [e] at hlt; cases hlt
      have q0 := hc j hlt
      generalize os.getD j 0 = o at *
      have hj0 : (0 : Int) ≤ (j : Int) := by omega
      have hjI : (j : Int) < os.length := by omega
      have HVL := hid (HL3.out.below HW.out)
      have HVX := hid (X3.out.below HW.out)
      clear hc
      rcases HSP.out o with h | ⟨i, hi, h1, h2⟩
      · have C1 := hid (CH2.out o h al cl wr HVL.out)
        go_wp2_with fail
        refine C1.out.mono ?_
        rintro e w5 ⟨rfl, b5⟩
        have C2 := hid (CX2.out o h aw cw w5 (HVX.out.below b5))
        have q5 := (b5.cell (p := ⟨b, off + j, none⟩) hbl).trans q0
        have HB5 := hid (HW.out.trans (b5.mono HW.out.size))
        clear b5 q0 h C1
        go_wp2_with fail
        refine C2.out.mono ?_
        rintro e w6 ⟨rfl, b6⟩
        have HB6 := hid (HB5.out.trans (b6.mono HB5.out.size))
        clear b6 q5 C2 HB5
        go_wp2_with fail
        go_roundg k
        case measure => omega
        case rel => exact ⟨j + 1, by omega, by go_num, HB6.out⟩
      · have C1 := hid (CH1.out i o hi h1 h2 al cl wr HVL.out)
        go_wp2_with fail
        refine C1.out.mono ?_
        rintro e w5 ⟨rfl, b5⟩
        have C2 := hid (CX1.out i o hi h1 h2 aw cw w5 (HVX.out.below b5))
        have q5 := (b5.cell (p := ⟨b, off + j, none⟩) hbl).trans q0
        have HB5 := hid (HW.out.trans (b5.mono HW.out.size))
        clear b5 q0 h1 h2 C1
        go_wp2_with fail
        refine C2.out.mono ?_
        rintro e w6 ⟨rfl, b6⟩
        have HB6 := hid (HB5.out.trans (b6.mono HB5.out.size))
        clear b6 q5 C2 HB5
        go_wp2_with fail
        go_roundg k
        case measure => omega
        case rel => exact ⟨j + 1, by omega, by go_num, HB6.out⟩
    · have NW := N3.out.call HW.out
      obtain ⟨k0, k1, k2, k3⟩ := cells4 NW.f
      have HNB := hid NW.b
      clear NW
      go_wp2_with fail
      refine (CN.out _).mono ?_
      rintro e w7 ⟨rfl, b7⟩
      go_wp2_with fail
      go_ret
      exact ⟨rfl, HNB.out.trans (b7.mono HNB.out.size)⟩
end Go.Proofs.YtgcgnkafhpjdiaaGreat
