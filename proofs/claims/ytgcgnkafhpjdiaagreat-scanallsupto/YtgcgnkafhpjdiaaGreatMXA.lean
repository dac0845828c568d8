/- Texts of the proof, put together: X12a, Ssm, Saa. -/
import Derived.Test.YtgcgnkafhpjdiaaGreatMX6
import Derived.Test.YtgcgnkafhpjdiaaGreatMSc
import Derived.Test.YtgcgnkafhpjdiaaGreatMSd
import Derived.Deep.AppendLies
namespace Go.Proofs.YtgcgnkafhpjdiaaGreat
open Go.RowKit
theorem Tryz.infoXF : (Tryz.prog.info? 42).map (fun i => (i.zero, i.size, i.bytes)) = some (some (.agg #[.int .i64 0, .int .i64 0, .bool false, .int .i64 0, .int .i64 0, .int .i64 0, .int .i64 0, .int .i32 0, .int .i64 0]), 9, 72) := by kernel_rfl
theorem xbehind_any (f : Fs) (LN : Int) (w : World) (h : Right f) : Calls Tryz.prog 29 #[.agg #[.int .i64 f.base, .int .i64 LN, .bool (decide (f.st = 1)), .int .i64 f.cnt, .int .i64 f.first, .int .i64 f.grt, .int .i64 f.prod, .int .i32 f.seq]] w fun e w' => e = .returned (.int .i64 (f.base + f.cnt)) ∧ Below w.heap.size w w' := by
  have h1 := h.b
  have h2 := h.c2
  have h3 : (f.cnt : Int) ≤ 65536 := by omega
  go_enter Tryz.func29, Tryz.ntmps29
  go_wp2_with fail
  go_ret
  exact ⟨rfl, (Below.refl _ _).alloc (Nat.le_refl _) _⟩
theorem fd1_one (x : Fs × Nat) : ∀ u ∈ fd1 x, u.oneCell' = true := by
  intro u hu
  unfold fd1 fdA at hu
  simp only [List.mem_cons, List.not_mem_nil, or_false] at hu
  rcases hu with rfl | rfl | rfl | rfl | rfl | rfl | rfl | rfl | rfl <;> rfl
/-- What is known between two rounds. -/
structure RA (s : ByteArray) (base frame plain : Int) (pre : List Yd) (m k : Nat) (b : Int) : Prop where
  run : pre ++ trc (lks s frame plain) s.size m k b = tr s base frame plain
  fuel : s.size - k < m
  le : k ≤ s.size
  en : enG 0 pre = k
  wy : wyG 0 pre = 0
theorem RA.stop {s : ByteArray} {base frame plain : Int} {pre : List Yd} {m k : Nat} {b : Int} {e : Nat} (h : RA s base frame plain pre m k b) (hk : k < s.size) (hl : lks s frame plain k b = .error e) : frs (tr s base frame plain) = frs pre ∧ enG 0 (tr s base frame plain) = k ∧ wyG 0 (tr s base frame plain) = e := by
  obtain ⟨m, rfl⟩ : ∃ m', m = m' + 1 := ⟨m - 1, by have := h.fuel; omega⟩
  rw [← h.run, trc_no hk hl, frs_no, enG_no, wyG_no]
  exact ⟨rfl, h.en, rfl⟩
theorem RA.done {s : ByteArray} {base frame plain : Int} {pre : List Yd} {m k : Nat} {b : Int} (h : RA s base frame plain pre m k b) (hk : ¬ k < s.size) : frs (tr s base frame plain) = frs pre ∧ enG 0 (tr s base frame plain) = k ∧ wyG 0 (tr s base frame plain) = 0 := by
  rw [← h.run, trc_end hk, List.append_nil]
  exact ⟨rfl, h.en, h.wy⟩
theorem RA.next {s : ByteArray} {base frame plain : Int} {pre : List Yd} {m k : Nat} {b : Int} {f : Fs} (h : RA s base frame plain pre m k b) (hk : k < s.size) (hl : lks s frame plain k b = .ok f) (hi : k + (12 + f.len) ≤ s.size) : RA s base frame plain (pre ++ [.fr f k]) (m - 1) (k + (12 + f.len)) (f.base + f.cnt) := by
  obtain ⟨m, rfl⟩ : ∃ m', m = m' + 1 := ⟨m - 1, by have := h.fuel; omega⟩
  refine ⟨?_, by have := h.fuel; omega, hi, enG_fr _ _ _ _, by rw [wyG_app, h.wy]; rfl⟩
  rw [← h.run, trc_fr hk hl, List.append_assoc]
  rfl
theorem RA.short {s : ByteArray} {base frame plain : Int} {pre : List Yd} {m k : Nat} {b : Int} (h : RA s base frame plain pre m k b) : (frs pre).length ≤ (tr s base frame plain).length := by
  rw [← h.run, List.length_append]
  have := frs_le pre
  omega
set_option maxHeartbeats 4000000 in
set_option maxRecDepth 20000 in
theorem xall_any (s : ByteArray) (base frame plain : Int) (hs : s.size ≤ 1048576) (w : World) :
    Calls Tryz.prog 10 #[.string s, .int .i64 base, .int .i64 frame, .int .i64 plain] w fun e w' => ∃ v, e = .returned (.tuple #[v, .int .i64 (enG 0 (tr s base frame plain)), .int .i64 (wyG 0 (tr s base frame plain))]) ∧ w'.ownsRow w.heap.size 42 9 v (frs (tr s base frame plain)).length (fcs (frs (tr s base frame plain))) ∧ Below w.heap.size w w' := by
  obtain ⟨i0, hi, hz0, hz1, hz2⟩ := info_parts Tryz.infoXF
  have hle := tr_le s base frame plain
  have HR0 : Hid (RA s base frame plain [] (s.size + 1) 0 base) := ⟨rfl, by omega, Nat.zero_le _, rfl, rfl⟩
  have HST := hid (fun pre m k b e (h : RA s base frame plain pre m k b) hk hl => h.stop (e := e) hk hl)
  have HDN := hid (fun pre m k b (h : RA s base frame plain pre m k b) hk => h.done hk)
  have HSH := hid (fun pre m k b (h : RA s base frame plain pre m k b) => h.short)
  have CC := hid (fun k w => xcheck_any (s.extract k s.size) frame plain w (by rw [ByteArray.size_extract]; omega))
  generalize frs (tr s base frame plain) = L at *
  generalize enG 0 (tr s base frame plain) = EN at *
  generalize wyG 0 (tr s base frame plain) = WY at *
  generalize (tr s base frame plain).length = TL at *
  have hsI : (s.size : Int) ≤ 1048576 := by omega
  go_enter Tryz.func10, Tryz.ntmps10
  go_wp2_with fail
  go_loopg [1, 11, 12] s.size (fun g v1 v11 v12 wr => ∃ (m k : Nat) (b : Int) (pre : List Yd) (va : Option Addr) (vn vc : Nat), k + g = s.size ∧ v1 = .int .i64 b ∧ v12 = .int .i64 k ∧ v11 = .slice va vn vc ∧ Hid (RA s base frame plain pre m k b) ∧ Hid (wr.ownsRow w.heap.size 42 9 (.slice va vn vc) (frs pre).length (fcs (frs pre))) ∧ Hid (Below w.heap.size w wr))
  case atStart => exact ⟨s.size + 1, 0, base, [], none, 0, 0, by omega, rfl, rfl, rfl, HR0, World.ownsRow_nil _ _ _ _, Below.refl _ _⟩
  case round =>
    obtain ⟨m, k, b, pre, va, vn, vc, hg, rfl, rfl, rfl, HR, HO, HB⟩ := hrel
    by_cases hlt : k < s.size
    · have hltI : (k : Int) < s.size := by omega
      have hk0 : (0 : Int) ≤ (k : Int) := by omega
      have hkS : (k : Int) ≤ s.size := by omega
      have CK := hid (fun w => CC.out k w)
      have hpl := HSH.out _ _ _ _ HR.out
      cases ho : opn (s.extract k s.size) frame plain with
      | error x =>
        have hl : lks s frame plain k b = .error x := by unfold lks; rw [ho]
        obtain ⟨s1, s2, s3⟩ := HST.out pre m k b x HR.out hlt hl
        rw [ho] at CK
        unfold noHd at CK
        dsimp only at CK
        have hx := opn_pos ho
        have hxI : ¬ (x : Int) = 0 := by omega
        subst s2 s3
        have HS1 := hid s1
        clear ho hl s1 HST HDN HSH CC
        go_wp2_with fail
        refine (CK.out _).mono ?_
        rintro e w1 ⟨rfl, b1⟩
        have B1 := HB.out.trans (b1.mono HB.out.size)
        have B2 := B1.alloc B1.size (.cells #[.int .i64 0, .int .i64 0, .bool false, .int .i64 0, .int .i64 0, .int .i64 0, .int .i64 0, .int .i32 0] 34)
        have HO2 := hid ((HO.out.below_row b1).alloc (.cells #[.int .i64 0, .int .i64 0, .bool false, .int .i64 0, .int .i64 0, .int .i64 0, .int .i64 0, .int .i32 0] 34))
        have HB2 := hid B2
        clear B1 B2 b1
        go_wp2_with fail
        exact bodyPost_ret (v := .tuple #[.slice va vn vc, .int .i64 EN, .int .i64 WY]) (by simp [results, Tryz.results10, go_sem]) rfl ⟨.slice va vn vc, rfl, by rw [HS1.out]; exact HO2.out, HB2.out⟩
      | ok y =>
        obtain ⟨f, bb⟩ := y
        rw [ho] at CK
        unfold hdV at CK
        dsimp only at CK
        obtain ⟨hRt, hFo, hin⟩ := opn_right ho
        rw [ByteArray.size_extract] at hin
        have hl1 := hRt.l1
        obtain ⟨LN, hLN⟩ : ∃ LN : Nat, 12 + f.len = LN := ⟨_, rfl⟩
        rw [hLN] at CK
        have CB := hid (fun w => xbehind_any f LN w hRt)
        by_cases hbs : f.base = b
        · have hl : lks s frame plain k b = .ok f := by unfold lks; rw [ho]; dsimp only; rw [if_pos hbs]
          have HN := hid (HR.out.next hlt hl (by omega))
          have hkL : (k : Int) + (LN : Int) ≤ s.size := by omega
          have hnews : fd1 (f, k) = [.int .i64 f.base, .int .i64 LN, .bool (decide (f.st = 1)), .int .i64 f.cnt, .int .i64 f.first, .int .i64 f.grt, .int .i64 f.prod, .int .i32 f.seq, .int .i64 k] := by rw [← hLN]; rfl
          have HNW := hid hnews
          have HO1 := hid (fd1_one (f, k))
          rw [hnews] at HO1
          have HLN := hid hLN
          have hLN0 : 0 < LN := by omega
          have HHB := hid hbs
          have hbB : (f.base != b) = false := by rw [hbs]; simp
          clear ho hl HST HDN HSH CC hnews hLN hRt hFo HR
          subst hbs
          go_wp2_with fail
          refine (CK.out _).mono ?_
          rintro e w1 ⟨rfl, b1⟩
          have N1 : Bx1 w1 #[.int .i64 f.base, .int .i64 LN, .bool (decide (f.st = 1)), .int .i64 f.cnt, .int .i64 f.first, .int .i64 f.grt, .int .i64 f.prod, .int .i32 f.seq] 34 (w1.alloc (.cells #[.int .i64 f.base, .int .i64 LN, .bool (decide (f.st = 1)), .int .i64 f.cnt, .int .i64 f.first, .int .i64 f.grt, .int .i64 f.prod, .int .i32 f.seq] 34)) := Bx1.new w1 _ _
          have B1 := HB.out.trans (b1.mono HB.out.size)
          have HO2 := hid (((HO.out.below_row b1).below_row N1.b).alloc (.cells #[.int .i64 f.base, .int .i64 LN, .bool (decide (f.st = 1)), .int .i64 f.cnt, .int .i64 f.first, .int .i64 f.grt, .int .i64 f.prod, .int .i32 f.seq, .int .i64 k] 42))
          have HB2 := hid (B1.trans (N1.b.mono B1.size))
          have hp2 := N1.p
          have hsz : w.heap.size ≤ w1.heap.size := B1.size
          obtain ⟨q0, q1, q2, q3, q4, q5, q6, q7⟩ := cells8 N1.p
          clear B1 b1 HO
          go_wp2_with (at_builtin; refine wpList_append_lies _ rfl _ _ 25 rfl w.heap.size 42 i0 (.agg #[.int .i64 0, .int .i64 0, .bool false, .int .i64 0, .int .i64 0, .int .i64 0, .int .i64 0, .int .i32 0, .int .i64 0]) 9 72 Tryz.underlying25 hi hz0 hz1 hz2 rfl (by decide) _ (frs pre).length (fcs (frs pre)) rfl HO2.out ⟨w1.heap.size + 1, 0, none⟩ 1 1 [.int .i64 f.base, .int .i64 LN, .bool (decide (f.st = 1)), .int .i64 f.cnt, .int .i64 f.first, .int .i64 f.grt, .int .i64 f.prod, .int .i32 f.seq, .int .i64 k] rfl rfl ?c1 ?c2 ?c3 ?c4 ?c5 ?c6 _ rfl ?_)
          case c1 => exact World.news_of_block (by simpa using heap_new (w1.alloc (.cells #[.int .i64 f.base, .int .i64 LN, .bool (decide (f.st = 1)), .int .i64 f.cnt, .int .i64 f.first, .int .i64 f.grt, .int .i64 f.prod, .int .i32 f.seq] 34)) (.cells #[.int .i64 f.base, .int .i64 LN, .bool (decide (f.st = 1)), .int .i64 f.cnt, .int .i64 f.first, .int .i64 f.grt, .int .i64 f.prod, .int .i32 f.seq, .int .i64 k] 42))
          case c2 => exact HO1.out
          case c3 => omega
          case c4 => unfold maxLen; omega
          case c5 => omega
          case c6 => simp; omega
          intro g5 cap5 w5 hown5 hgrow5 hat5 hlt5
          have hp5 : w5.heap[w1.heap.size]? = some (.cells #[.int .i64 f.base, .int .i64 LN, .bool (decide (f.st = 1)), .int .i64 f.cnt, .int .i64 f.first, .int .i64 f.grt, .int .i64 f.prod, .int .i32 f.seq] 34 (0, 0)) := (hgrow5.block _ (lt_of_heap (heap_alloc_at hp2)) (fun e => own_ne HO2.out (heap_alloc_at hp2) (by decide) e.symm)).trans (heap_alloc_at hp2)
          obtain ⟨t0, t1, t2, t3, t4, t5, t6, t7⟩ := cells8 hp5
          have HB5 := hid (show Below w.heap.size w w5 from (HB2.out.alloc HB2.out.size _).grown hgrow5 (by have := HB2.out.size; simp at *; omega) (fun k hk => (World.ownsRow.lt HO2.out k hk).1))
          have HO5 := hid hown5
          clear hgrow5 hat5 hlt5 hown5 q0 q1 q2 q3 q4 q5 q6 q7 hp2 hp5 N1
          go_wp2_with (go_at_call 29; refine (CB.out _).mono ?_; rintro e w6 ⟨rfl, b6⟩; have HB6 := hid (HB5.out.trans (b6.mono HB5.out.size)); have HO6 := hid (HO5.out.below_row b6); clear b6)
          go_roundg (s.size - (k + LN))
          case measure => omega
          case rel =>
            refine ⟨m - 1, k + LN, f.base + f.cnt, pre ++ [.fr f k], some ⟨g5, 0, none⟩, (frs pre).length + 1, cap5, by omega, rfl, congrArg (Value.int .i64) (by omega), rfl, ?_, ?_, HB6.out⟩
            · have := HN.out
              rw [HLN.out] at this
              exact this
            · rw [frs_fr, List.length_append, fcs_snoc, HNW.out]
              exact HO6.out
        · have hl : lks s frame plain k b = .error 30 := by unfold lks; rw [ho]; dsimp only; rw [if_neg hbs]
          obtain ⟨s1, s2, s3⟩ := HST.out pre m k b 30 HR.out hlt hl
          subst s2 s3
          have HS1 := hid s1
          have hbB : (f.base != b) = true := by rw [bne_iff_ne]; exact hbs
          clear ho hl s1 HST HDN HSH CC
          go_wp2_with fail
          refine (CK.out _).mono ?_
          rintro e w1 ⟨rfl, b1⟩
          have B1 := HB.out.trans (b1.mono HB.out.size)
          have B2 := B1.alloc B1.size (.cells #[.int .i64 f.base, .int .i64 LN, .bool (decide (f.st = 1)), .int .i64 f.cnt, .int .i64 f.first, .int .i64 f.grt, .int .i64 f.prod, .int .i32 f.seq] 34)
          have HO2 := hid ((HO.out.below_row b1).alloc (.cells #[.int .i64 f.base, .int .i64 LN, .bool (decide (f.st = 1)), .int .i64 f.cnt, .int .i64 f.first, .int .i64 f.grt, .int .i64 f.prod, .int .i32 f.seq] 34))
          have HB2 := hid B2
          clear B1 B2 b1
          go_wp2_with fail
          exact bodyPost_ret (v := .tuple #[.slice va vn vc, .int .i64 EN, .int .i64 30]) (by simp [results, Tryz.results10, go_sem]) rfl ⟨.slice va vn vc, rfl, by rw [HS1.out]; exact HO2.out, HB2.out⟩
    · obtain ⟨s1, s2, s3⟩ := HDN.out pre m k b HR.out hlt
      have hltI : ¬ (k : Int) < s.size := by omega
      subst s2 s3
      have HS1 := hid s1
      clear s1 HST HDN HSH CC
      go_wp2_with fail
      exact bodyPost_ret (v := .tuple #[.slice va vn vc, .int .i64 EN, .int .i64 0]) (by simp [results, Tryz.results10, go_sem]) rfl ⟨.slice va vn vc, rfl, by rw [HS1.out]; exact HO.out, HB.out⟩
end Go.Proofs.YtgcgnkafhpjdiaaGreat
namespace Go.Proofs.YtgcgnkafhpjdiaaGreat
open Go.RowKit
theorem own_fds {w : World} {B : Nat} {T : TypeId} {v : Value} {l : List (Fs × Nat)} (h : w.ownsRow B T 9 v l.length (fcs l)) : ∃ a cap, v = .slice a l.length cap ∧ Fds w a l ∧ ∀ ad, a = some ad → v.ownBlock = some ad.block := by
  have hr := h
  rcases h.2 with ⟨rfl, h2⟩ | ⟨g, cap, cur, rfl, h3, h4, h5⟩
  · exact ⟨none, 0, by rw [h2], Or.inl (List.eq_nil_of_length_eq_zero h2), fun _ e => by cases e⟩
  · refine ⟨_, cap, rfl, Or.inr ⟨g, 0, rfl, lt_of_heap h4, fun j hj => ?_⟩, fun ad e => by cases e; rfl⟩
    have c := fun k (hk : k < 9) => (hr.cellAt (j * 9 + k) (by omega)).trans (fcs_at hj hk)
    rw [Nat.zero_add]
    exact ⟨c 0 (by omega), c 1 (by omega), c 2 (by omega), c 3 (by omega), c 4 (by omega), c 5 (by omega), c 6 (by omega), c 7 (by omega), c 8 (by omega)⟩
set_option maxHeartbeats 2000000 in
set_option maxRecDepth 20000 in
theorem same12_yes (a1 a2 : Option Addr) (cap1 cap2 : Nat) (l : List (Fs × Nat)) (w : World) (hl : l.length ≤ 9223372036854775807) (V1 : Fds w a1 l) (V2 : Fds w a2 l) :
    Calls Tryz.prog 12 #[.slice a1 l.length cap1, .slice a2 l.length cap2] w fun e w' => e = .returned (.bool true) ∧ Below w.heap.size w w' := by
  have HV1 := hid V1
  have HV2 := hid V2
  clear V1 V2
  go_enter Tryz.func12, Tryz.ntmps12
  go_wp2_with fail
  go_loopg [5] l.length (fun k i wr => ∃ j : Nat, j + k = l.length ∧ i = .int .i64 j ∧ Below w.heap.size w wr)
  case atStart => exact ⟨0, by omega, rfl, Below.refl _ _⟩
  case round =>
    obtain ⟨j, hk, rfl, hq⟩ := hrel
    by_cases hlt : j < l.length
    · obtain ⟨k, rfl⟩ : ∃ k, gk = k + 1 := ⟨gk - 1, by omega⟩
      rcases HV1.out.below hq with rfl | ⟨b, off, rfl, hbl, hc⟩
      · simp at hlt
      rcases HV2.out.below hq with rfl | ⟨b2, off2, rfl, hbl2, hc2⟩
      · simp at hlt
      obtain ⟨q0, q1, q2, q3, q4, q5, q6, q7, q8⟩ := hc j hlt
      obtain ⟨p0, p1, p2, p3, p4, p5, p6, p7, p8⟩ := hc2 j hlt
      generalize l.getD j dfd = r at *
      obtain ⟨f, at'⟩ := r
      dsimp only at q0 q1 q2 q3 q4 q5 q6 q7 q8 p0 p1 p2 p3 p4 p5 p6 p7 p8
      generalize ((12 + f.len : Nat) : Int) = LN at *
      have hne := neq_hd f.base LN (decide (f.st = 1)) f.cnt f.first f.grt f.prod f.seq
      have hgd := fun x y w => run_eqGuard_agg (P := Tryz.prog) w BinOp.neq 34 x y #[.int .i64 f.base, .int .i64 LN, .bool (decide (f.st = 1)), .int .i64 f.cnt, .int .i64 f.first, .int .i64 f.grt, .int .i64 f.prod, .int .i32 f.seq] #[.int .i64 f.base, .int .i64 LN, .bool (decide (f.st = 1)), .int .i64 f.cnt, .int .i64 f.first, .int .i64 f.grt, .int .i64 f.prod, .int .i32 f.seq] Tryz.hdGuard
      have b1 : (0 : Int) ≤ (j : Int) := by omega
      have b2' : (j : Int) < l.length := by omega
      clear hc hc2
      go_wp2_with fail
      go_quiet (fail)
      go_wp2_with fail
      go_roundg k
      case measure => omega
      case rel => exact ⟨j + 1, by omega, by go_num, hq.trans ((bel_drewN _ _).mono hq.size)⟩
    · go_wp2_with fail
      go_ret
      exact ⟨rfl, hq⟩
end Go.Proofs.YtgcgnkafhpjdiaaGreat
namespace Go.Proofs.YtgcgnkafhpjdiaaGreat
open Go.RowKit
/-- The question's box. -/
structure AC (w : World) (B : Nat) (s : ByteArray) (base frame plain : Int) (y : World) : Prop where
  b : Below w.heap.size w y
  f : y.heap[B]? = some (.cells #[.string s, .int .i64 base, .int .i64 frame, .int .i64 plain] 23 (0, 0))
theorem AC.call {w : World} {B : Nat} {s : ByteArray} {base frame plain : Int} {y y' : World} (h : AC w B s base frame plain y) (k : Below y.heap.size y y') : AC w B s base frame plain y' := ⟨h.b.trans (k.mono h.b.size), keep h.f k⟩
theorem own_set {y : World} {B n size g cap j : Nat} {e : TypeId} {xs : List Value} {u : Value} (h : y.ownsRow B e size (.slice (some ⟨g, 0, none⟩) n cap) n xs) : ∃ xs', (y.setCell ⟨g, j, none⟩ u).ownsRow B e size (.slice (some ⟨g, 0, none⟩) n cap) n xs' := by
  obtain ⟨h1, h2⟩ := h
  rcases h2 with ⟨hv, _⟩ | ⟨g', cap', cur, hv, h3, h4, h5, h6, h7, h8⟩
  · cases hv
  · cases hv
    have hs := heap_set (i := j) (v := u) h4
    refine ⟨_, ?_, Or.inr ⟨g, cap, _, rfl, h3, hs, h5, h6, ?_, rfl⟩⟩
    · rw [List.length_take]
      simp
      rw [h7]
      exact Nat.min_eq_left (Nat.mul_le_mul_right _ h5)
    · simp
      exact h7
theorem own_at {y : World} {B n g cap j : Nat} {e : TypeId} {xs : List Value} (h : y.ownsRow B e 9 (.slice (some ⟨g, 0, none⟩) n cap) n xs) (hj : j < n * 9) : (∃ u, y.cell? ⟨g, j, none⟩ = some u) ∧ y.frozen? ⟨g, j, none⟩ = false := by
  obtain ⟨h1, h2⟩ := h
  rcases h2 with ⟨hv, _⟩ | ⟨g', cap', cur, hv, h3, h4, h5, h6, h7, h8⟩
  · cases hv
  · cases hv
    have : j < cur.size := by rw [h7]; exact Nat.lt_of_lt_of_le hj (Nat.mul_le_mul_right _ h5)
    exact ⟨⟨cur[j], by rw [cell_of h4]; simp [this]⟩, froz_of h4⟩
/-- The rows under way: one that is written over and grown, two that stay. -/
structure LW (w : World) (vl : Value) (n : Nat) (am aw : Option Addr) (L : List (Fs × Nat)) (y : World) : Prop where
  b : Below w.heap.size w y
  r : ∃ xs, y.ownsRow w.heap.size 36 9 vl n xs
  m : Fds y am L
  x : Fds y aw L
  am : L ≠ [] → ∀ ad, am = some ad → vl.ownBlock ≠ some ad.block
  ax : L ≠ [] → ∀ ad, aw = some ad → vl.ownBlock ≠ some ad.block
theorem LW.set {w : World} {g n cap j : Nat} {am aw : Option Addr} {L : List (Fs × Nat)} {y : World} (h : LW w (.slice (some ⟨g, 0, none⟩) n cap) n am aw L y) (u : Value) : LW w (.slice (some ⟨g, 0, none⟩) n cap) n am aw L (y.setCell ⟨g, j, none⟩ u) := by
  obtain ⟨xs, hr⟩ := h.r
  have hg := (World.ownsRow.lt hr g rfl).1
  by_cases hn : L = []
  · exact ⟨h.b.setCell (p := ⟨g, j, none⟩) hg u, own_set hr, Or.inl hn, Or.inl hn, h.am, h.ax⟩
  · refine ⟨h.b.setCell (p := ⟨g, j, none⟩) hg u, own_set hr, h.m.keep (by simp) ?_, h.x.keep (by simp) ?_, h.am, h.ax⟩
    · intro ad e _
      exact Below.heap_setCell _ ⟨g, j, none⟩ _ _ (fun e' => h.am hn ad e (by show some g = _; rw [← show ad.block = g from e']))
    · intro ad e _
      exact Below.heap_setCell _ ⟨g, j, none⟩ _ _ (fun e' => h.ax hn ad e (by show some g = _; rw [← show ad.block = g from e']))
theorem LW.call {w : World} {vl : Value} {n : Nat} {am aw : Option Addr} {L : List (Fs × Nat)} {y y' : World} (h : LW w vl n am aw L y) (k : Below y.heap.size y y') : LW w vl n am aw L y' := by
  obtain ⟨xs, hr⟩ := h.r
  exact ⟨h.b.trans (k.mono h.b.size), ⟨xs, hr.below_row k⟩, h.m.below k, h.x.below k, h.am, h.ax⟩
set_option maxHeartbeats 8000000 in
set_option maxRecDepth 20000 in
theorem alls_walk (s : ByteArray) (base frame plain : Int) (w : World) (hs : s.size ≤ 1048576) :
    Calls Tryz.prog 3 #[.agg #[.string s, .int .i64 base, .int .i64 frame, .int .i64 plain]] w fun e w' => e = .returned (.bool true) ∧ Below w.heap.size w w' := by
  have N0 : AC w w.heap.size s base frame plain (w.alloc (.cells #[.string s, .int .i64 base, .int .i64 frame, .int .i64 plain] 23)) := ⟨(Below.refl _ _).alloc (Nat.le_refl _) _, heap_new _ _⟩
  have hl := tr_le s base frame plain
  have hl2 := frs_le (tr s base frame plain)
  have CW := hid (fun w => awake_any w)
  have CX := hid (fun w => xall_any s base frame plain hs w)
  have CA := hid (fun w => all_any s base frame plain (by omega) (by omega) w)
  have hLn : (frs (tr s base frame plain)).length ≤ 1048577 := by omega
  obtain ⟨i0, hi, hz0, hz1, hz2⟩ := info_parts Tryz.infoFd
  generalize frs (tr s base frame plain) = L at *
  generalize enG 0 (tr s base frame plain) = EN at *
  generalize wyG 0 (tr s base frame plain) = WY at *
  have CS := hid (fun a1 a2 c1 c2 w V1 V2 => same12_yes a1 a2 c1 c2 L w (by omega) V1 V2)
  clear hl hl2
  go_enter Tryz.func3, Tryz.ntmps3
  go_wp2_with fail
  refine (CW.out _).mono ?_
  rintro e w1 ⟨rfl, b1⟩
  have N1 := N0.call b1
  clear b1 N0 CW
  obtain ⟨k0, k1, k2, k3⟩ := cells4 N1.f
  go_wp2_with fail
  refine (CX.out _).mono ?_
  rintro e w2 ⟨v2, rfl, hO2, b2⟩
  obtain ⟨aw, cw, rfl, X2, ex⟩ := own_fds hO2
  have hx2 := fun g hg => (World.ownsRow.lt hO2 g hg).2
  have N2 := N1.call b2
  clear b2 N1 CX k0 k1 k2 k3 hO2
  obtain ⟨k0, k1, k2, k3⟩ := cells4 N2.f
  go_wp2_with fail
  refine (CA.out _).mono ?_
  rintro e w3 ⟨v3, rfl, hO3, b3⟩
  obtain ⟨al, cl, rfl, L3, el⟩ := own_fds hO3
  have hx3 := fun g hg => (World.ownsRow.lt hO3 g hg)
  have N3 := N2.call b3
  have X3 := X2.below b3
  have hb3 := b3.size
  clear b3 k0 k1 k2 k3
  obtain ⟨k0, k1, k2, k3⟩ := cells4 N3.f
  go_wp2_with fail
  refine (CA.out _).mono ?_
  rintro e w4 ⟨v4, rfl, hO4, b4⟩
  obtain ⟨am, cm, rfl, M4, em⟩ := own_fds hO4
  have hx4 := fun g hg => (World.ownsRow.lt hO4 g hg).1
  have N4 := N3.call b4
  have W4 : LW w (.slice al L.length cl) L.length am aw L w4 := ⟨N4.b, ⟨_, own_low (hO3.below_row b4) N2.b.size⟩, M4, X3.below b4, fun _ ad e he => by
    have h1 := (hx3 _ he).2
    have h2 := hx4 _ (em ad e)
    omega, fun _ ad e he => by
    have h1 := (hx3 _ he).1
    have h2 := hx2 _ (ex ad e)
    omega⟩
  have L4 := L3.below b4
  have HW4 := hid W4
  have HL4 := hid L4
  clear b4 k0 k1 k2 k3 hO3 hO4 M4 X3 X2 N4 N3 N2 L3 L4 W4 hx2 hx3 hx4 ex el em CA
  go_wp2_with fail
  refine (CS.out al aw cl cw _ HL4.out HW4.out.x).mono ?_
  rintro e w5 ⟨rfl, b5⟩
  have HW5 := hid (HW4.out.call b5)
  clear b5 HW4 HL4
  go_wp2_with fail
  go_loopg [12] L.length (fun k v12 wr => ∃ n : Nat, n + k = L.length ∧ v12 = .int .i64 n ∧ Hid (LW w (.slice al L.length cl) L.length am aw L wr))
  case atStart => exact ⟨0, by omega, rfl, HW5.out⟩
  case round =>
    obtain ⟨n, hk, rfl, HW⟩ := hrel
    by_cases hlt : n < L.length
    · obtain ⟨k, rfl⟩ : ∃ k, gk = k + 1 := ⟨gk - 1, by omega⟩
      obtain ⟨xs, hr⟩ := HW.out.r
      obtain ⟨g, cap, hv, _⟩ := own_some hr (by omega)
      injection hv with e1 e2 e3
      subst e1 e3
      have hc := fun i (hi : i < 9) => own_at hr (j := n * 9 + i) (by omega)
      obtain ⟨⟨u0, c0⟩, z0⟩ := hc 0 (by omega)
      obtain ⟨⟨u1, c1⟩, z1⟩ := hc 1 (by omega)
      obtain ⟨⟨u2, c2⟩, z2⟩ := hc 2 (by omega)
      obtain ⟨⟨u3, c3⟩, z3⟩ := hc 3 (by omega)
      obtain ⟨⟨u4, c4⟩, z4⟩ := hc 4 (by omega)
      obtain ⟨⟨u5, c5⟩, z5⟩ := hc 5 (by omega)
      obtain ⟨⟨u6, c6⟩, z6⟩ := hc 6 (by omega)
      obtain ⟨⟨u7, c7⟩, z7⟩ := hc 7 (by omega)
      obtain ⟨⟨u8, c8⟩, z8⟩ := hc 8 (by omega)
      rw [Nat.add_zero] at c0 z0
      have hn0 : (0 : Int) ≤ (n : Int) := by omega
      have hnI : (n : Int) < L.length := by omega
      clear hc hr
      go_wp2_with fail
      go_roundg k
      case measure => omega
      case rel => exact ⟨n + 1, by omega, by go_num, ((((((((HW.out.set _).set _).set _).set _).set _).set _).set _).set _).set _⟩
    · go_wp2_with fail
      go_loopg [6, 13] 9 (fun k v6 v13 wx => ∃ (i vn : Nat) (va : Option Addr) (vc : Nat), i + k = 9 ∧ v13 = .int .i64 i ∧ v6 = .slice va vn vc ∧ vn = L.length + i ∧ Hid (LW w (.slice va vn vc) vn am aw L wx))
      case atStart => exact ⟨0, L.length, al, cl, by omega, rfl, rfl, rfl, HW.out⟩
      case round =>
        obtain ⟨i, vn, va, vc, hk2, rfl, rfl, hvn, HX⟩ := hrel
        by_cases hi9 : i < 9
        · obtain ⟨k2, rfl⟩ : ∃ k2, gk = k2 + 1 := ⟨gk - 1, by omega⟩
          have hi9I : (i : Int) < 9 := by omega
          obtain ⟨xs, hr⟩ := HX.out.r
          have HR := hid (hr.alloc (.cells #[.int .i64 0, .int .i64 0, .bool false, .int .i64 0, .int .i64 0, .int .i64 0, .int .i64 0, .int .i32 0, .int .i64 (-2)] 36))
          have HWx := hid HX.out.b
          have HVN := hid hvn
          have hvl : vn ≤ 1048590 := by omega
          clear hr hvn
          go_wp2_with (at_builtin; refine wpList_append_lies _ rfl _ _ 29 rfl w.heap.size 36 i0 (.agg #[.int .i64 0, .int .i64 0, .bool false, .int .i64 0, .int .i64 0, .int .i64 0, .int .i64 0, .int .i32 0, .int .i64 0]) 9 72 Tryz.underlying29 hi hz0 hz1 hz2 rfl (by decide) _ vn xs rfl HR.out ⟨wr.heap.size, 0, none⟩ 1 1 [.int .i64 0, .int .i64 0, .bool false, .int .i64 0, .int .i64 0, .int .i64 0, .int .i64 0, .int .i32 0, .int .i64 (-2)] rfl rfl ?c1 ?c2 ?c3 ?c4 ?c5 ?c6 _ rfl ?_)
          case c1 => exact World.news_of_block (heap_new wr _)
          case c2 =>
            intro u hu
            simp only [List.mem_cons, List.not_mem_nil, or_false] at hu
            rcases hu with rfl | rfl | rfl | rfl | rfl | rfl | rfl | rfl | rfl <;> rfl
          case c3 => omega
          case c4 => unfold maxLen; omega
          case c5 => omega
          case c6 => have := HWx.out.size; simp; omega
          intro g5 cap5 w6 hown5 hgrow5 hat5 hlt5
          have hkeep : ∀ {a : Option Addr}, Fds wr a L → (∀ ad, a = some ad → (Value.slice va vn vc).ownBlock ≠ some ad.block) → Fds w6 a L := fun {a} hF hA => hF.keep (by have := hgrow5.size; simp at this; omega) fun ad e hb => by
            rw [hgrow5.block ad.block (by simp; omega) (fun e' => hA ad e e'.symm)]
            exact Below.heap_alloc wr _ ad.block hb
          have hbx : ∀ {a : Option Addr}, Fds wr a L → ∀ ad, a = some ad → L ≠ [] → ad.block < wr.heap.size := fun {a} hF ad e hn => by
            rcases hF with h | ⟨b, off, h1, h2, _⟩
            · exact absurd h hn
            · rw [h1] at e; cases e; exact h2
          have HX6 : Hid (LW w (.slice (some ⟨g5, 0, none⟩) (vn + 1) cap5) (vn + 1) am aw L w6) := by
            have hne : L ≠ [] → ∀ {a : Option Addr}, Fds wr a L → (∀ ad, a = some ad → (Value.slice va vn vc).ownBlock ≠ some ad.block) → ∀ ad, a = some ad → (Value.slice (some ⟨g5, 0, none⟩) (vn + 1) cap5).ownBlock ≠ some ad.block := fun hn {a} hF hA ad e he => by
              have hlt := hbx hF ad e hn
              have eg : g5 = ad.block := by injection he
              rcases hat5 with h | h
              · exact hA ad e (by rw [h, eg])
              · have h' : g5 = wr.heap.size + 1 := by simpa using h
                omega
            have hb6 : Below w.heap.size w w6 := (HWx.out.alloc HWx.out.size _).grown hgrow5 (by have := HWx.out.size; simp; omega) (fun k hk => (World.ownsRow.lt HR.out k hk).1)
            by_cases hn : L = []
            · exact ⟨hb6, ⟨_, hown5⟩, Or.inl hn, Or.inl hn, fun h => absurd hn h, fun h => absurd hn h⟩
            · exact ⟨hb6, ⟨_, hown5⟩, hkeep HX.out.m (HX.out.am hn), hkeep HX.out.x (HX.out.ax hn), fun _ => hne hn HX.out.m (HX.out.am hn), fun _ => hne hn HX.out.x (HX.out.ax hn)⟩
          clear hown5 hgrow5 hat5 hlt5 hkeep hbx HX
          go_wp2_with fail
          go_roundg k2
          case measure => omega
          case rel => exact ⟨i + 1, vn + 1, some ⟨g5, 0, none⟩, cap5, by omega, by go_num, rfl, by have := HVN.out; omega, HX6⟩
        · have hi9I : ¬ (i : Int) < 9 := by omega
          have HF := hid (CS.out am aw cm cw _ HX.out.m HX.out.x)
          go_wp2_with fail
          refine HF.out.mono ?_
          rintro e w7 ⟨rfl, b7⟩
          go_wp2_with fail
          go_ret
          exact ⟨rfl, HX.out.b.trans (b7.mono HX.out.b.size)⟩
end Go.Proofs.YtgcgnkafhpjdiaaGreat
