/- The document's Read. -/
import Derived.Test.YtldfbddccmnchaaOrp
import Derived.Deep.RegionHeld3
namespace Go.Proofs.Ytldfbddccmnchaa
open Go.RowKit
theorem take_bl {t : ByteArray} {j : Nat} (h : j < t.size) : (bl t).take (j + 1) = (bl t).take j ++ [t[j].toNat] := by
  have h' : j < (bl t).length := by rw [bl_len]; exact h
  rw [List.take_succ_eq_append_getElem h']
  congr 2
  simp [bl]
  rfl
set_option maxRecDepth 20000 in
set_option maxHeartbeats 2000000 in
theorem back_any (t : ByteArray) (w : World) (ht : t.size = 8) : Calls Try.prog 48 #[.string t] w fun e w' => e = .returned (.int .i64 (b8 (bl t))) ∧ w' = w := by
  have HT := hid ht
  obtain ⟨N, hN⟩ : ∃ N, N = t.size := ⟨_, rfl⟩
  have hN8 : N = 8 := by omega
  clear ht
  go_enter Try.func48, Try.ntmps48
  go_wp2_with fail
  go_loopg [3, 4] 8 (fun k vu vi wr => ∃ (j X : Nat), j + k = 8 ∧ vi = .int .i64 j ∧ vu = .int .u64 X ∧ Hid (X = be ((bl t).take j)) ∧ w = wr)
  case atStart => exact ⟨0, 0, by omega, rfl, rfl, rfl, rfl⟩
  case round =>
    obtain ⟨j, X, hj, rfl, rfl, HX, rfl⟩ := hrel
    by_cases hlt : j < 8
    · obtain ⟨k', rfl⟩ : ∃ k', gk = k' + 1 := ⟨gk - 1, by omega⟩
      have hltI : (j : Int) < 8 := by omega
      have hjt : j < t.size := by rw [HT.out]; exact hlt
      have hjtI : (j : Int) < t.size := by omega
      have hXb : X < 72057594037927936 := by
        have h1 := be_lt ((bl t).take j) (fun b hb => bl_byte t b (List.mem_of_mem_take hb))
        rw [← HX.out] at h1
        have h2 : ((bl t).take j).length ≤ 7 := by rw [List.length_take]; omega
        have h3 : (256 : Nat) ^ ((bl t).take j).length ≤ 256 ^ 7 := Nat.pow_le_pow_right (by omega) h2
        have h4 : (256 : Nat) ^ 7 = 72057594037927936 := by decide
        omega
      have HS : Hid (X * 256 + t[j].toNat = be ((bl t).take (j + 1))) := by show _ = _; rw [take_bl hjt, be_snoc, ← HX.out]
      have hcb : t[j].toNat < 256 := t[j].toNat_lt
      have hXI : (X : Int) ≤ 72057594037927935 := by omega
      have hX0 : (0 : Int) ≤ X := by omega
      clear hN hN8 HT
      go_wp2_with fail
      go_roundg k'
      case measure => omega
      case rel => exact ⟨j + 1, X * 256 + t[j].toNat, by omega, by go_num, by go_num, HS.out, rfl⟩
    · have hltI : ¬ (j : Int) < 8 := by omega
      have hXf : X = be (bl t) := by rw [HX.out, List.take_of_length_le (by rw [bl_len, HT.out]; omega)]
      have HXF := hid hXf
      clear hN hN8
      go_wp2_with fail
      go_ret
      refine ⟨?_, rfl⟩
      unfold b8
      rw [← HXF.out]
      rfl
/-- Eight bytes. -/
structure B8 (t : ByteArray) : Prop where
  sz : t.size = 8
set_option maxRecDepth 20000 in
set_option maxHeartbeats 2000000 in
theorem rread_bad (s : ByteArray) (w : World) (h : s.size % 16 ≠ 0) (hs : s.size ≤ 140737488355328) : Calls Try.prog 20 #[.string s] w fun e w' => e = .returned (.tuple #[.slice none 0 0, .int .i64 29]) ∧ w' = w := by
  have h1 : ¬ ((s.size : Int) % 16 = 0) := by omega
  go_enter Try.func20, Try.ntmps20
  go_wp2
  go_ret2
  exact ⟨rfl, rfl⟩
set_option maxRecDepth 20000 in
set_option maxHeartbeats 4000000 in
theorem rread_ok (s : ByteArray) (w : World) (h : s.size % 16 = 0) (hs : s.size ≤ 140737488355328) : Calls Try.prog 20 #[.string s] w fun e w' => (∃ v, e = .returned (.tuple #[v, .int .i64 0]) ∧ OwE w' w.heap.size v (rdE (bl s))) ∧ Below w.heap.size w w' := by
  obtain ⟨i0, hi, hz0, hz1, hz2⟩ := info_parts Try.infoE
  obtain ⟨N, hN⟩ : ∃ N, s.size = N * 16 := ⟨s.size / 16, by omega⟩
  have hl : (rdE (bl s)).length = N := by rw [rdE_len, bl_len, hN]; omega
  have HAT : Hid (∀ j, j < N → (rdE (bl s)).getD j en0 = ⟨b8 (bl (s.extract (j * 16) (j * 16 + 8))), b8 (bl (s.extract (j * 16 + 8) (j * 16 + 16)))⟩) := fun j hj => by
    rw [rdE_at _ (by rw [bl_len, hN]; omega)]
    unfold enB
    rw [bl_ext, bl_ext, show j * 16 + 8 - j * 16 = 8 from by omega, show j * 16 + 16 - (j * 16 + 8) = 8 from by omega]
  have HE8 : Hid (∀ a b, b = a + 8 → b ≤ N * 16 → B8 (s.extract a b)) := fun a b e hb => ⟨by rw [ByteArray.size_extract]; omega⟩
  have HBk : Hid (∀ t wx, B8 t → Calls Try.prog 48 #[.string t] wx fun e w' => e = .returned (.int .i64 (b8 (bl t))) ∧ w' = wx) := fun t wx ht => back_any t wx ht.sz
  have HL := hid hl
  have h1 : ((s.size : Int) % 16 = 0) := by omega
  generalize rdE (bl s) = L at *
  have HNs := hid hN
  clear hl h hN
  go_enter Try.func20, Try.ntmps20
  go_wp2_with fail
  clear h1
  go_loopg [4, 5] N (fun k vr vi wr => ∃ j I : Nat, j + k = N ∧ I = j * 16 ∧ vi = .int .i64 I ∧ Hid (OwE wr w.heap.size vr (L.take j)) ∧ Hid (Below w.heap.size w wr))
  case atStart => exact ⟨0, 0, by omega, rfl, rfl, OwE.nil _ _, Below.refl _ _⟩
  case round =>
    obtain ⟨j, I, hj, hI, rfl, HO, HB⟩ := hrel
    by_cases hlt : j < N
    · obtain ⟨k', rfl⟩ : ∃ k', gk = k' + 1 := ⟨gk - 1, by omega⟩
      have hltI : (I : Int) < s.size := by have := HNs.out; omega
      obtain ⟨P, hP⟩ : ∃ P, P = I + 8 := ⟨_, rfl⟩
      obtain ⟨Q, hQ⟩ : ∃ Q, Q = I + 16 := ⟨_, rfl⟩
      have hPI : (I : Int) + 8 = (P : Int) := by omega
      have hQI : (I : Int) + 16 = (Q : Int) := by omega
      have hI0 : (0 : Int) ≤ I := by omega
      have hP0 : (0 : Int) ≤ P := by omega
      have hIP : (I : Int) ≤ P := by omega
      have hPQ : (P : Int) ≤ Q := by omega
      have hPs : (P : Int) ≤ s.size := by have := HNs.out; omega
      have hQs : (Q : Int) ≤ s.size := by have := HNs.out; omega
      have hwP : IntKind.i64.wrap (P : Int) = P := wrap_in (by omega) (by omega)
      have hwQ : IntKind.i64.wrap (Q : Int) = Q := wrap_in (by omega) (by omega)
      have E1 : B8 (s.extract I P) := HE8.out _ _ hP (by omega)
      have E2 : B8 (s.extract P Q) := HE8.out _ _ (by omega) (by omega)
      have hjL : j < L.length := by rw [HL.out]; exact hlt
      have HT : Hid (L.take (j + 1) = L.take j ++ [⟨b8 (bl (s.extract I P)), b8 (bl (s.extract P Q))⟩]) := by
        show _ = _
        rw [List.take_succ_eq_append_getElem hjL, ← getD_of hjL, HAT.out j hlt, hP, hQ, hI]
      have HTl : Hid ((L.take j).length = j) := by show _ = _; rw [List.length_take]; omega
      obtain ⟨n9, x9, c9, hn9, rfl, _⟩ := HO.out.ensN
      rw [HTl.out] at hn9
      subst hn9
      have HRO : Hid (wr.ownsRow w.heap.size 30 2 (.slice x9 n9 c9) n9 (ecs (L.take n9))) := by
        have := HO.out
        unfold OwE at this
        rw [HTl.out] at this
        exact this
      have HJ := hid (And.intro hj (And.intro hI hQ))
      have HSz : Hid (w.heap.size ≤ wr.heap.size) := HB.out.size
      have hn43 : n9 ≤ 8796093022207 := by have := HNs.out; omega
      clear hj hI hjL hP hQ
      go_wp2_with fail
      go_region_held3 (fun _ => True) ((trivial)) ((first | (go_at_call 48; refine (HBk.out _ _ (by assumption)).mono ?_; rintro e w' ⟨rfl, rfl⟩) | (refine step_append_lies _ (by rfl) _ _ 35 (by rfl) w.heap.size 30 i0 (.agg #[.int .i64 0, .int .i64 0]) 2 16 Try.underlying35 hi hz0 hz1 hz2 rfl (by decide) _ n9 (ecs (L.take n9)) (by simp [Act.eval]) (HRO.out.alloc _) ⟨wr.heap.size, 0, none⟩ 1 1 (enc ⟨b8 (bl (s.extract I P)), b8 (bl (s.extract P Q))⟩) (by simp [Act.eval]) rfl (World.news_of_block (heap_new wr.drew _)) (enc_one _) (by omega) (by unfold maxLen; omega) (by omega) (by show w.heap.size ≤ (wr.alloc _).heap.size; simp; have := HSz.out; omega) _ rfl ?_; intro g2 cap2 w1 hown hgrow hat hlt2)))
      have HBd : Hid (Below w.heap.size w wr.drew) := HB.out.trans ⟨rfl, rfl, rfl, Nat.le_refl _, fun _ _ => rfl⟩
      have HB1 : Hid (Below w.heap.size w w1) := (HBd.out.alloc HSz.out _).grown hgrow (by show w.heap.size ≤ (wr.alloc _).heap.size; simp; have := HSz.out; omega) (fun k hk => (HO.out.own hk).1)
      have HO1 : Hid (OwE w1 w.heap.size (.slice (some ⟨g2, 0, none⟩) (n9 + 1) cap2) (L.take (n9 + 1))) := by
        unfold OwE
        rw [HT.out, List.length_append, HTl.out, ecs_snoc]
        exact hown
      clear hown hgrow hat hlt2
      go_wp2_with fail
      go_roundg k'
      case measure => omega
      case rel => exact ⟨n9 + 1, Q, by have := HJ.out.1; omega, by have := HJ.out.2; omega, rfl, HO1.out, HB1.out⟩
    · have hltI : ¬ (I : Int) < s.size := by have := HNs.out; omega
      have e : L.take j = L := List.take_of_length_le (by rw [HL.out]; omega)
      rw [e] at HO
      clear e
      go_wp2_with fail
      go_ret2
      exact ⟨⟨_, rfl, HO.out⟩, HB.out⟩
end Go.Proofs.Ytldfbddccmnchaa
