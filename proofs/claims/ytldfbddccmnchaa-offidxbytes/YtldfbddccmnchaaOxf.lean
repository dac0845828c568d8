/- The program's index: Find. -/
import Derived.Test.YtldfbddccmnchaaOxg
import Derived.Deep.LoopGhost
namespace Go.Proofs.Ytldfbddccmnchaa
open Go.RowKit
theorem find1_any (kb : Nat) (key : Int) (e : En) (w : World) (hk : w.heap[kb]? = some (.cells #[.int .i64 key] 2 (0, 0))) : Calls Try.prog 53 #[enV e, .pointer (some ⟨kb, 0, none⟩)] w fun r w' => r = .returned (.bool (decide (e.k ≤ key))) ∧ Below w.heap.size w w' := by
  obtain ⟨sk, sa⟩ := e
  have c0 : w.cell? ⟨kb, 0, none⟩ = some (.int .i64 key) := (cell_of hk).trans rfl
  have hl := lt_of_heap hk
  unfold enV
  go_enter Try.func53, Try.ntmps53
  go_wp2
  go_ret
  exact ⟨rfl, (Below.refl _ _).alloc (Nat.le_refl _) _⟩
/-- What Find answers: the entry, whether there is one, and how many looks. -/
def FindP (l : List En) (key : Int) (r : Ending) : Prop := ∃ n : Nat, r = .returned (.tuple #[enV (atE l ((cnt l key : Int) - 1)).1, .bool (atE l ((cnt l key : Int) - 1)).2, .int .i64 n]) ∧ n ≤ bits l.length ∧ (0 < l.length → 1 ≤ n)
set_option maxRecDepth 20000 in
set_option maxHeartbeats 2000000 in
theorem lastOf_any {T : TypeId} (x kb : Nat) (key : Int) (v : Value) (l : List En) (w : World) (h : Ix T w x v l) (hO : Ord l) (hn : l.length ≤ 8796093022208) (hk : w.heap[kb]? = some (.cells #[.int .i64 key] 2 (0, 0))) : Calls Try.prog 52 #[.pointer (some ⟨x, 0, none⟩), .func (.func 53) #[] #[.pointer (some ⟨kb, 0, none⟩)]] w fun r w' => FindP l key r ∧ Below w.heap.size w w' := by
  have HC : Hid (∀ wx, Below w.heap.size w wx → Calls Try.prog 51 #[.pointer (some ⟨x, 0, none⟩)] wx fun e w' => e = .returned (.int .i64 l.length) ∧ w' = wx) := fun wx hx => count_any x v l wx (h.below hx)
  have HW : Hid (∀ wx e, Below w.heap.size w wx → Calls Try.prog 53 #[enV e, .pointer (some ⟨kb, 0, none⟩)] wx fun r w' => r = .returned (.bool (decide (e.k ≤ key))) ∧ Below wx.heap.size wx w') := fun wx e hx => find1_any kb key e wx ((hx.block kb (lt_of_heap hk)).trans hk)
  have HE : Hid (∀ wx i, Below w.heap.size w wx → Calls Try.prog 57 #[.pointer (some ⟨x, 0, none⟩), .int .i64 i] wx fun e w' => e = .returned (.tuple #[enV (atE l i).1, .bool (atE l i).2]) ∧ Below wx.heap.size wx w') := fun wx i hx => entry_any x i v l wx (h.below hx)
  have HX := hid h
  have HO := hid hO
  obtain ⟨N, a, cap, hN, rfl, hens⟩ := h.row.ensN
  have HEN := hid hens
  have hlx := lt_of_heap h.blk
  have HN := hid hN
  have HB0 := hid ((Below.refl w.heap.size w).alloc (Nat.le_refl _) (.cells #[.int .i64 0, .int .i64 0] 30))
  rw [← hN] at hn HC
  clear h hO hN hk hens
  go_enter Try.func52, Try.ntmps52
  go_wp2_with (go_at_call 51; refine (HC.out _ HB0.out).mono ?_; rintro e w' ⟨rfl, rfl⟩)
  have HR : Hid (∀ wx, Below w.heap.size w wx → wx.cell? ⟨x, 0, none⟩ = some (.slice a N cap)) := fun wx hx => (HX.out.below hx).c0
  go_loopg [7, 8, 9] N (fun k vl vh vk wr => ∃ lo hi c : Nat, lo + k = hi ∧ hi ≤ N ∧ vl = .int .i64 lo ∧ vh = .int .i64 hi ∧ vk = .int .i64 c ∧ Hid (c + bits (hi - lo) ≤ bits N) ∧ Hid (0 < c ∨ hi - lo = N) ∧ Hid (∀ j, j < lo → (l.getD j en0).k ≤ key) ∧ Hid (∀ j, hi ≤ j → j < N → key < (l.getD j en0).k) ∧ Hid (Below (w.alloc (.cells #[.int .i64 0, .int .i64 0] 30)).heap.size (w.alloc (.cells #[.int .i64 0, .int .i64 0] 30)) wr))
  case atStart => exact ⟨0, N, 0, by omega, Nat.le_refl _, rfl, rfl, rfl, by show 0 + bits (N - 0) ≤ bits N; simp, Or.inr (by simp), fun j hj => absurd hj (by omega), fun j hj hj' => absurd hj (by omega), Below.refl _ _⟩
  case round =>
    obtain ⟨lo, hi, c, hk, hhi, rfl, rfl, rfl, HC1, HC2, HL, HH, HBr⟩ := hrel
    by_cases hlt : lo < hi
    · have hltI : (lo : Int) < hi := by omega
      obtain ⟨m, hm⟩ : ∃ m : Nat, m = lo + (hi - lo) / 2 := ⟨_, rfl⟩
      have hmI : (lo : Int) + ((hi : Int) - (lo : Int)) / 2 = (m : Int) := by omega
      have hmN : m < N := by omega
      have hmNI : (m : Int) < N := by omega
      have hm1 : lo ≤ m := by omega
      have hm2 : m < hi := by omega
      have hc44 : c ≤ 44 := by have := HC1.out; have := bits_le N hn; omega
      have HM := hid hm
      have hbr : Below w.heap.size w wr := HB0.out.trans (HBr.out.mono HB0.out.size)
      have q0 := HR.out wr hbr
      rcases HEN.out with e | ⟨b, off, rfl, hb, hc⟩
      · rw [HN.out, e] at hmN; cases hmN
      obtain ⟨p0, p1⟩ := hc m (by rw [← HN.out]; exact hmN)
      have q1 := (hbr.cell (p := ⟨b, off + m * 2, none⟩) hb).trans p0
      have q2 := (hbr.cell (p := ⟨b, off + m * 2 + 1, none⟩) hb).trans p1
      have HW1 := hid (HW.out wr (l.getD m en0) hbr)
      have HK : Hid ((∀ j, j < m → (l.getD j en0).k ≤ (l.getD m en0).k) ∧ (∀ j, m ≤ j → j < N → (l.getD m en0).k ≤ (l.getD j en0).k)) := ⟨fun j hj => HO.out.le (by omega) (by rw [← HN.out]; exact hmN), fun j h1 h2 => HO.out.le h1 (by rw [← HN.out]; exact h2)⟩
      have HBW : Hid (∀ w', Below w.heap.size w w' → w.heap.size ≤ w'.heap.size) := fun w' h => h.size
      obtain ⟨s, hs⟩ : ∃ s, s = l.getD m en0 := ⟨_, rfl⟩
      rw [← hs] at HW1 q1 q2 HK
      obtain ⟨sk, sa⟩ := s
      have HKE : Hid (sk = (l.getD m en0).k) := by show _ = _; rw [← hs]
      clear hs
      unfold enV at HW1
      simp only at HW1 q1 q2 HK
      have HJ := hid (And.intro hk hhi)
      clear hc p0 p1 hm hbr HE HC HW HX HO
      by_cases hle : sk ≤ key
      · have hd : decide (sk ≤ key) = true := by simp [hle]
        rw [hd] at HW1
        go_wp2_with (go_at_call 53; refine HW1.out.mono ?_; rintro e w2 ⟨rfl, hb2⟩)
        go_roundg (hi - (m + 1))
        case measure => omega
        case rel =>
          refine ⟨m + 1, hi, c + 1, by omega, hhi, by go_num, rfl, by go_num, ?_, Or.inl (by omega), fun j hj => ?_, HH.out, HBr.out.trans (hb2.mono HBr.out.size)⟩
          · exact bits_step (s := hi - lo) (by omega) (by omega) HC1.out
          · rcases Nat.lt_or_ge j m with h1 | h1
            · exact Int.le_trans (HK.out.1 j h1) hle
            · have := HK.out.2 m (Nat.le_refl _) hmN
              have e : j = m := by omega
              subst e
              exact HKE.out ▸ hle
      · have hd : decide (sk ≤ key) = false := by simp [hle]
        rw [hd] at HW1
        go_wp2_with (go_at_call 53; refine HW1.out.mono ?_; rintro e w2 ⟨rfl, hb2⟩)
        go_roundg (m - lo)
        case measure => omega
        case rel =>
          refine ⟨lo, m, c + 1, by omega, by omega, rfl, rfl, by go_num, ?_, Or.inl (by omega), HL.out, fun j h1 h2 => ?_, HBr.out.trans (hb2.mono HBr.out.size)⟩
          · exact bits_step (s := hi - lo) (by omega) (by omega) HC1.out
          · have := HK.out.2 j h1 h2
            omega
    · have hltI : ¬ (lo : Int) < hi := by omega
      have hlo : lo = hi := by omega
      subst hlo
      have HCN : Hid (cnt l key = lo) := cnt_eq (by rw [← HN.out]; exact hhi) HL.out (fun j h1 h2 => HH.out j h1 (by rw [HN.out]; exact h2))
      have hbr : Below w.heap.size w wr := HB0.out.trans (HBr.out.mono HB0.out.size)
      have HE1 := hid (HE.out wr ((lo : Int) - 1) hbr)
      have HCB : Hid (c ≤ bits l.length ∧ (0 < l.length → 1 ≤ c)) := by
        rw [← HN.out]
        have h1 := HC1.out
        have h2 := HC2.out
        rw [Nat.sub_self, bits_zero] at h1
        rw [Nat.sub_self] at h2
        exact ⟨by omega, fun h => by omega⟩
      have HF : Hid (FindP l key (.returned (.tuple #[enV (atE l ((lo : Int) - 1)).1, .bool (atE l ((lo : Int) - 1)).2, .int .i64 c]))) := ⟨c, by rw [HCN.out], HCB.out.1, HCB.out.2⟩
      generalize atE l ((lo : Int) - 1) = R at *
      obtain ⟨⟨rk, ra⟩, rb⟩ := R
      unfold enV at HE1 HF
      simp only at HE1 HF
      have HBR := hid hbr
      clear hbr HC1 HC2 HL HH HE HC HW HCB
      go_wp2_with (go_at_call 57; refine HE1.out.mono ?_; rintro e w2 ⟨rfl, hb2⟩; have hb3 := HBr.out.trans (hb2.mono HBr.out.size); obtain ⟨z1, z2, z3, z4, z5⟩ := res4 rfl hb3; have HB3 := hid hb3; clear hb2 hb3)
      have hz : w.heap.size ≠ w2.heap.size := by omega
      have hz' : w2.heap.size ≠ w.heap.size := by omega
      refine bodyPost_ret (v := .tuple #[.agg #[.int .i64 rk, .int .i64 ra], .bool rb, .int .i64 c]) (by simp [results, Try.results52, go_sem, z1, z2, z5]) rfl ⟨HF.out, ?_⟩
      exact ((((HB0.out.trans (HB3.out.mono HB0.out.size)).setCell (Nat.le_refl _) _).setCell (Nat.le_refl _) _).alloc (by have := HB0.out.size; have := HB3.out.size; simp at *; omega) _)
set_option maxRecDepth 20000 in
set_option maxHeartbeats 2000000 in
theorem find_any (p : Option Addr) (key : Int) (v : Value) (l : List En) (w : World) (h : Ip w p v l) (hO : Ord l) (hn : l.length ≤ 8796093022208) : Calls Try.prog 25 #[.pointer p, .int .i64 key] w fun r w' => FindP l key r ∧ Below w.heap.size w w' := by
  have hmf : ∀ (fn : Fn) (first cap : Array Value) (w : World), (Instr.makeFunc fn first cap).run Try.prog w = .ok (.func fn first cap) w := fun _ _ _ _ => rfl
  obtain ⟨wa, hwa⟩ : ∃ wa, (w.alloc (.cells #[.int .i64 key] 2)).alloc (.cells #[.int .i64 0, .int .i64 0] 30) = wa := ⟨_, rfl⟩
  have HB0 : Hid (Below w.heap.size w wa) := by rw [← hwa]; exact ((Below.refl w.heap.size w).alloc (Nat.le_refl _) _).alloc (by simp) _
  have HK : Hid (wa.heap[w.heap.size]? = some (.cells #[.int .i64 key] 2 (0, 0))) := by rw [← hwa]; exact heap_alloc_at (heap_new _ _)
  have HRB : Hid (wa.heap[w.heap.size + 1]? = some (.cells #[.int .i64 0, .int .i64 0] 30 (0, 0))) := by
    have := heap_new (w.alloc (.cells #[.int .i64 key] 2)) (.cells #[.int .i64 0, .int .i64 0] 30 (0, 0))
    rw [hwa] at this
    refine hid ?_
    simpa using this
  have HS : Hid (Calls Try.prog 50 #[.pointer p] wa fun e w' => ∃ x, e = .returned (.pointer (some ⟨x, 0, none⟩)) ∧ Ix 63 w' x v l ∧ Iq wa w' p x v) := source_any p v l _ (h.below HB0.out)
  have HF : Hid (∀ wx x, Ix 63 wx x v l → wx.heap[w.heap.size]? = some (.cells #[.int .i64 key] 2 (0, 0)) → Calls Try.prog 52 #[.pointer (some ⟨x, 0, none⟩), .func (.func 53) #[] #[.pointer (some ⟨w.heap.size, 0, none⟩)]] wx fun r w' => FindP l key r ∧ Below wx.heap.size wx w') := fun wx x hx hk => lastOf_any x _ key v l wx hx hO hn hk
  have HE : Hid (∀ r, FindP l key r → ∃ (rk ra : Int) (rb : Bool) (n : Nat), r = .returned (.tuple #[.agg #[.int .i64 rk, .int .i64 ra], .bool rb, .int .i64 n])) := fun r ⟨n, h, _⟩ => ⟨_, _, _, n, h⟩
  clear h hO hn
  go_enter Try.func25, Try.ntmps25
  go_wp2_with (first | (go_at_call 50; refine HS.out.mono ?_; rintro e w1 ⟨x, rfl, hx, hq⟩; have HX := hid hx; have HQ := hid hq.below; clear hx hq) | (go_at_call 52; refine (HF.out _ x HX.out ((HQ.out.block _ (lt_of_heap HK.out)).trans HK.out)).mono ?_; rintro r w2 ⟨hr, hb2⟩; obtain ⟨rk, ra, rb, n, rfl⟩ := HE.out r hr; have HR := hid hr; have hb3 := HQ.out.trans (hb2.mono HQ.out.size); obtain ⟨z1, z2, z3, z4⟩ := e4 ((hb3.block _ (lt_of_heap HRB.out)).trans HRB.out); have HB3 := hid hb3; clear hb2 hb3 hr))
  refine bodyPost_ret (v := .tuple #[.agg #[.int .i64 rk, .int .i64 ra], .bool rb, .int .i64 n]) (by simp [results, Try.results25, go_sem, z1, z2]) rfl ⟨HR.out, ?_⟩
  exact ((HB0.out.trans (HB3.out.mono HB0.out.size)).setCell (by simp) _).setCell (by simp) _
end Go.Proofs.Ytldfbddccmnchaa
