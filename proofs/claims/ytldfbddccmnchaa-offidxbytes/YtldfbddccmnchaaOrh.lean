/- The document's index: Add. -/
import Derived.Test.YtldfbddccmnchaaOrg
namespace Go.Proofs.Ytldfbddccmnchaa
open Go.RowKit
theorem Ix.box {T : TypeId} {w w' : World} {x b : Nat} {v : Value} {l : List En} {c : Array Value} {U : TypeId} (h : Ix T w x v l) (hb : w.heap.size ≤ b) (_hx : w'.heap[b]? = some (.cells c U (0, 0))) : ¬ IS x v b := fun hs => absurd (h.lt b hs) (by omega)
set_option maxRecDepth 20000 in
set_option maxHeartbeats 4000000 in
theorem radd_any (y : Nat) (e : En) (v : Value) (l : List En) (w : World) (h : Ix 68 w y v l) (hO : Ord l) (hn : l.length ≤ 8796093022207) : Calls Try.prog 36 #[.pointer (some ⟨y, 0, none⟩), enV e] w fun r w' => r = .returned (.int .i64 (addC l e)) ∧ ∃ v', Ix 68 w' y v' (addE l e) ∧ Ch (fun i => i = y) w w' ∧ Moved w v v' := by
  obtain ⟨i0, hi, hz0, hz1, hz2⟩ := info_parts Try.infoE
  obtain ⟨sk, sa⟩ := e
  have HX0 := hid h
  obtain ⟨wa, hwa⟩ : ∃ wa, wa = w.alloc (.cells #[.int .i64 sk, .int .i64 sa] 30) := ⟨_, rfl⟩
  have HBa : Hid (Below w.heap.size w wa) := by rw [hwa]; exact (Below.refl _ _).alloc (Nat.le_refl _) _
  have HX : Hid (Ix 68 wa y v l) := h.below HBa.out
  have HE : Hid (wa.heap[w.heap.size]? = some (.cells #[.int .i64 sk, .int .i64 sa] 30 (0, 0))) := by rw [hwa]; exact heap_new _ _
  obtain ⟨N, a, cap, hN, rfl, hens⟩ := h.row.ensN
  have HN := hid hN
  have hyw := lt_of_heap h.blk
  have HFt : Hid (∀ wx, Below wa.heap.size wa wx → Calls Try.prog 49 #[.slice a N cap, .agg #[.int .i64 sk, .int .i64 sa]] wx fun r w' => r = .returned (.bool (fitB l ⟨sk, sa⟩)) ∧ Below wa.heap.size wa w') := fun wx hx => by
    have hb : Below w.heap.size w wx := HBa.out.trans (hx.mono HBa.out.size)
    have := rfits_any l a cap ⟨sk, sa⟩ wx (hens.kept hb (Nat.le_refl _)) hO (by omega)
    rw [← hN] at this
    exact this.mono fun r w' ⟨h1, h2⟩ => ⟨h1, hx.trans (h2.mono hx.size)⟩
  have HCL : Hid (∀ wx, Below wa.heap.size wa wx → wx.cell? ⟨y, 0, none⟩ = some (.slice a N cap) ∧ wx.frozen? ⟨y, 0, none⟩ = false ∧ wx.cell? ⟨w.heap.size, 0, none⟩ = some (.int .i64 sk) ∧ wx.cell? ⟨w.heap.size, 1, none⟩ = some (.int .i64 sa) ∧ Ens wx a l ∧ wx.heap[y]? = some (.cells #[.slice a N cap] 68 (0, 0))) := fun wx hx => by
    have h1 := HX.out.below hx
    obtain ⟨e1, e2⟩ := ecell2 ((hx.block _ (lt_of_heap HE.out)).trans HE.out)
    exact ⟨h1.c0, h1.f0, e1, e2, hens.kept (HBa.out.trans (hx.mono HBa.out.size)) (Nat.le_refl _), h1.blk⟩
  obtain ⟨d0, d1, d2, d3, _, _⟩ := HCL.out wa (Below.refl _ _)
  rw [← hN] at hn
  unfold addE addC
  unfold enV
  simp only
  have hgo := hwa.symm
  have hnil : a = none → N = 0 ∧ cap = 0 := fun ha => by
    obtain ⟨a', c', h1, _, h3, _⟩ := h.row.ens4
    injection h1 with h1 h2 h4
    subst h1
    have := h3 ha
    injection this with _ h5 h6
    exact ⟨h5, h6⟩
  have HNL := hid hnil
  clear h hO hwa hens hN hnil
  cases hfit : fitB l ⟨sk, sa⟩ with
  | false =>
    rw [hfit] at HFt
    simp only [Bool.false_eq_true, if_false]
    clear hfit
    go_enter Try.func36, Try.ntmps36
    go_wp2_with fail
    go_region_held3 (fun z => z.cell? ⟨y, 0, none⟩ = some (.slice a N cap) ∧ z.cell? ⟨w.heap.size, 0, none⟩ = some (.int .i64 sk) ∧ z.cell? ⟨w.heap.size, 1, none⟩ = some (.int .i64 sa)) ((first | exact ⟨by assumption, by assumption, by assumption⟩ | go_keep)) ((go_at_call 49; refine (HFt.out _ (by first | exact Below.refl _ _ | exact ⟨rfl, rfl, rfl, Nat.le_refl _, fun _ _ => rfl⟩)).mono ?_; rintro r w2 ⟨rfl, hb2⟩; obtain ⟨g0, g1, g2, g3, _, _⟩ := HCL.out _ hb2))
    go_wp2_with fail
    go_ret
    exact ⟨rfl, _, HX.out.below hb2, Ch.of_below (HBa.out.trans (hb2.mono HBa.out.size)), Moved.refl _ _⟩
  | true =>
    rw [hfit] at HFt
    simp only [if_true]
    clear hfit
    go_enter Try.func36, Try.ntmps36
    go_wp2_with fail
    go_region_held3 (fun z => z.cell? ⟨y, 0, none⟩ = some (.slice a N cap) ∧ z.cell? ⟨w.heap.size, 0, none⟩ = some (.int .i64 sk) ∧ z.cell? ⟨w.heap.size, 1, none⟩ = some (.int .i64 sa)) ((first | exact ⟨by assumption, by assumption, by assumption⟩ | go_keep)) ((go_at_call 49; refine (HFt.out _ (by first | exact Below.refl _ _ | exact ⟨rfl, rfl, rfl, Nat.le_refl _, fun _ _ => rfl⟩)).mono ?_; rintro r w2 ⟨rfl, hb2⟩; obtain ⟨g0, g1, g2, g3, g4, g5⟩ := HCL.out _ hb2; have HG4 := hid g4; have HG5 := hid g5; clear g4 g5))
    have HB2 := hid hb2
    clear hb2
    have HLow : Hid (w.heap.size ≤ w2.heap.size) := Nat.le_trans HBa.out.size HB2.out.size
    cases a with
    | none =>
      obtain ⟨rfl, rfl⟩ := HNL.out rfl
      have HL0 : Hid (l = []) := List.eq_nil_of_length_eq_zero HN.out.symm
      have HO3 : Hid (OwE w2 w.heap.size (.slice none 0 0) l) := by rw [HL0.out]; exact OwE.nil _ _
      have HC3 : Hid (Ch (fun _ => False) w2 w2) := Ch.refl _ _
      have HW3 : Hid (Ix 68 w2 y (.slice none 0 0) l) := (HX.out.below HB2.out).ch HC3.out (fun _ _ h => h)
      have HE3 : Hid (w2.heap[w.heap.size]? = some (.cells #[.int .i64 sk, .int .i64 sa] 30 (0, 0))) := (HC3.out.block _ (Nat.lt_of_lt_of_le (lt_of_heap HE.out) HB2.out.size) (fun h => h)).trans ((HB2.out.block _ (lt_of_heap HE.out)).trans HE.out)
      have k0 := HW3.out.c0
      have k1 := HW3.out.f0
      obtain ⟨k2, k3, k4, k5, k6⟩ := ecell3 HE3.out
      have HO4 : Hid ((w2.alloc (.cells #[.int .i64 sk, .int .i64 sa] 30)).ownsRow w.heap.size 30 2 (.slice none 0 0) 0 (ecs l)) := by
        have := HO3.out.keep (w' := w2.alloc (.cells #[.int .i64 sk, .int .i64 sa] 30)) fun g _ hg => Below.heap_alloc _ _ g hg
        unfold OwE at this
        rw [← HN.out] at this
        exact this
      have hy3 : y < w2.heap.size := lt_of_heap HW3.out.blk
      have HL3 : Hid (w.heap.size ≤ w2.heap.size) := Nat.le_trans HLow.out HC3.out.size
      go_wp2_with (first | (at_builtin; with_reducible refine wpList_append_own_none rfl _ _ 35 rfl w.heap.size 30 i0 2 Try.underlying35 hi (.slice none 0 0) 0 [] rfl (World.ownsRow_nil _ _ _ _) rfl ?_) | (at_builtin; refine wpList_append_lies _ rfl _ _ 35 rfl w.heap.size 30 i0 (.agg #[.int .i64 0, .int .i64 0]) 2 16 Try.underlying35 hi hz0 hz1 hz2 rfl (by decide) _ 0 (ecs l) rfl HO4.out ⟨w2.heap.size, 0, none⟩ 1 1 (enc ⟨sk, sa⟩) rfl rfl ?c1 ?c2 ?c3 ?c4 ?c5 ?c6 _ rfl ?_))
      case c1 => exact fun j u h => h
      case c2 => exact enc_one _
      case c4 => unfold maxLen; omega
      case c6 => have := HL3.out; simp; omega
      intro g cap5 w5 hown5 hgrow5 hat5 hlt5
      have hne5 : ∀ k, (Value.slice none 0 0).ownBlock = some k → w.heap.size ≤ k := fun k hk => (HO3.out.own hk).1
      have hb5 : w5.heap[y]? = some (.cells #[.slice none 0 0] 68 (0, 0)) := (hgrow5.block y (by simp; omega) (fun e => absurd (hne5 y e.symm) (by omega))).trans (heap_alloc_at HW3.out.blk)
      have m0 : w5.cell? ⟨y, 0, none⟩ = some (.slice none 0 0) := (cell_of hb5).trans rfl
      have m1 := froz_of (i := 0) hb5
      have HB5 := hid hb5
      have HO5 := hid hown5
      have HC5 : Hid (Ch (fun i => i = y) w w5) := by
        have c1 : Ch (fun i => i = y) w w2 := (Ch.of_below (HBa.out.trans (HB2.out.mono HBa.out.size))).then HC3.out (fun _ _ h => h.elim)
        have c2 : Ch (fun i => (Value.slice none 0 0).ownBlock = some i) (w2.alloc (.cells #[.int .i64 sk, .int .i64 sa] 30)) w5 := ⟨hgrow5.os, hgrow5.tape, hgrow5.output, hgrow5.size, fun k hk hs => hgrow5.block k hk (fun e => hs e.symm)⟩
        exact (c1.alloc _).then c2 (fun i hi hs => absurd (hne5 i hs) (by omega))
      have HAT : Hid (w.heap.size ≤ g) := by
        rcases hat5 with h | h
        · exact hne5 g h
        · have := HL3.out; have h' : g = w2.heap.size + 1 := by simpa using h
          show _ ≤ _; omega
      clear hown5 hgrow5 hat5 hlt5 hne5 hb5
      go_wp2_with fail
      go_ret
      refine ⟨rfl, .slice (some ⟨g, 0, none⟩) (0 + 1) cap5, Ix.put HB5.out (by decide) ?_, HC5.out.setCell _ _ (fun _ => rfl), fun g' hg' => Or.inr ?_⟩
      · have : OwE w5 w.heap.size (.slice (some ⟨g, 0, none⟩) (0 + 1) cap5) (l ++ [(⟨sk, sa⟩ : En)]) := by
          unfold OwE
          rw [List.length_append, ← HN.out, ecs_snoc]
          exact HO5.out
        exact this.low (Nat.zero_le _)
      · simp only [Value.ownBlock, Option.some.injEq] at hg'
        have := HAT.out
        omega
    | some ad =>
      have HC := hid (ens_cells HG4.out)
      go_wp2_with (at_builtin; refine wpList_append_own _ rfl _ _ 35 rfl w.heap.size 30 i0 (.agg #[.int .i64 0, .int .i64 0]) 2 16 Try.underlying35 hi hz0 hz1 hz2 rfl (by decide) (.slice none 0 0) 0 [] rfl (World.ownsRow_nil _ _ _ _) ad N cap (ecs l) rfl ?qc1 ?qc2 ?qc3 ?qc4 ?qc5 ?qc6 ?_)
      case qc1 => rw [ecs_len, HN.out]
      case qc2 => exact HC.out _ (Below.refl _ _)
      case qc3 => exact ecs_one l
      case qc4 => unfold maxLen; omega
      case qc5 => omega
      case qc6 => exact HLow.out
      intro v' w3 hown hgrow hnil
      have HO3 : Hid (OwE w3 w.heap.size v' l) := by
        unfold OwE
        rw [← HN.out]
        refine hid ?_
        simpa using hown
      have HC3 : Hid (Ch (fun _ => False) w2 w3) := ⟨hgrow.os, hgrow.tape, hgrow.output, hgrow.size, fun k hk _ => hgrow.block k hk (fun e => by cases e)⟩
      obtain ⟨n3, a3, c3, hn3, rfl, _⟩ := HO3.out.ensN
      rw [← HN.out] at hn3
      subst hn3
      clear hown hgrow hnil
      have HW3 : Hid (Ix 68 w3 y (.slice (some ad) n3 cap) l) := (HX.out.below HB2.out).ch HC3.out (fun _ _ h => h)
      have HE3 : Hid (w3.heap[w.heap.size]? = some (.cells #[.int .i64 sk, .int .i64 sa] 30 (0, 0))) := (HC3.out.block _ (Nat.lt_of_lt_of_le (lt_of_heap HE.out) HB2.out.size) (fun h => h)).trans ((HB2.out.block _ (lt_of_heap HE.out)).trans HE.out)
      have k0 := HW3.out.c0
      have k1 := HW3.out.f0
      obtain ⟨k2, k3, k4, k5, k6⟩ := ecell3 HE3.out
      have HO4 : Hid ((w3.alloc (.cells #[.int .i64 sk, .int .i64 sa] 30)).ownsRow w.heap.size 30 2 (.slice a3 n3 c3) n3 (ecs l)) := by
        have := HO3.out.keep (w' := w3.alloc (.cells #[.int .i64 sk, .int .i64 sa] 30)) fun g _ hg => Below.heap_alloc _ _ g hg
        unfold OwE at this
        rw [← HN.out] at this
        exact this
      have hy3 : y < w3.heap.size := lt_of_heap HW3.out.blk
      have HL3 : Hid (w.heap.size ≤ w3.heap.size) := Nat.le_trans HLow.out HC3.out.size
      go_wp2_with (at_builtin; refine wpList_append_lies _ rfl _ _ 35 rfl w.heap.size 30 i0 (.agg #[.int .i64 0, .int .i64 0]) 2 16 Try.underlying35 hi hz0 hz1 hz2 rfl (by decide) _ n3 (ecs l) rfl HO4.out ⟨w3.heap.size, 0, none⟩ 1 1 (enc ⟨sk, sa⟩) rfl rfl ?e1 ?e2 ?e3 ?e4 ?e5 ?e6 _ rfl ?_)
      case e1 => exact World.news_of_block (heap_new w3 _)
      case e2 => exact enc_one _
      case e3 => omega
      case e4 => unfold maxLen; omega
      case e5 => omega
      case e6 => have := HL3.out; simp; omega
      intro g cap5 w5 hown5 hgrow5 hat5 hlt5
      have hne5 : ∀ k, (Value.slice a3 n3 c3).ownBlock = some k → w.heap.size ≤ k := fun k hk => (HO3.out.own hk).1
      have hb5 : w5.heap[y]? = some (.cells #[.slice (some ad) n3 cap] 68 (0, 0)) := (hgrow5.block y (by simp; omega) (fun e => absurd (hne5 y e.symm) (by omega))).trans (heap_alloc_at HW3.out.blk)
      have m0 : w5.cell? ⟨y, 0, none⟩ = some (.slice (some ad) n3 cap) := (cell_of hb5).trans rfl
      have m1 := froz_of (i := 0) hb5
      have HB5 := hid hb5
      have HO5 := hid hown5
      have HC5 : Hid (Ch (fun i => i = y) w w5) := by
        have c1 : Ch (fun i => i = y) w w3 := (Ch.of_below (HBa.out.trans (HB2.out.mono HBa.out.size))).then HC3.out (fun _ _ h => h.elim)
        have c2 : Ch (fun i => (Value.slice a3 n3 c3).ownBlock = some i) (w3.alloc (.cells #[.int .i64 sk, .int .i64 sa] 30)) w5 := ⟨hgrow5.os, hgrow5.tape, hgrow5.output, hgrow5.size, fun k hk hs => hgrow5.block k hk (fun e => hs e.symm)⟩
        exact (c1.alloc _).then c2 (fun i hi hs => absurd (hne5 i hs) (by omega))
      have HAT : Hid (w.heap.size ≤ g) := by
        rcases hat5 with h | h
        · exact hne5 g h
        · have := HL3.out; have h' : g = w3.heap.size + 1 := by simpa using h
          show _ ≤ _; omega
      clear hown5 hgrow5 hat5 hlt5 hne5 hb5
      go_wp2_with fail
      go_ret
      refine ⟨rfl, .slice (some ⟨g, 0, none⟩) (n3 + 1) cap5, Ix.put HB5.out (by decide) ?_, HC5.out.setCell _ _ (fun _ => rfl), fun g' hg' => Or.inr ?_⟩
      · have : OwE w5 w.heap.size (.slice (some ⟨g, 0, none⟩) (n3 + 1) cap5) (l ++ [(⟨sk, sa⟩ : En)]) := by
          unfold OwE
          rw [List.length_append, ← HN.out, ecs_snoc]
          exact HO5.out
        exact this.low (Nat.zero_le _)
      · simp only [Value.ownBlock, Option.some.injEq] at hg'
        have := HAT.out
        omega
end Go.Proofs.Ytldfbddccmnchaa
