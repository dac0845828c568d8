/- OffidxBacks: its walk. -/
import Derived.Test.YtldfbddccmnchaaOld
import Derived.Test.YtldfbddccmnchaaEOpen
namespace Go.Proofs.Ytldfbddccmnchaa
open Go.RowKit
theorem mem_fold {r : List En} : ∀ {l : List En} {e : En}, e ∈ r.foldl addE l → e ∈ l ∨ e ∈ r := by
  induction r with
  | nil => intro l e h; exact Or.inl h
  | cons x r ih =>
    intro l e h
    rcases ih h with h1 | h1
    · unfold addE at h1
      split at h1
      · rcases List.mem_append.1 h1 with h2 | h2
        · exact Or.inl h2
        · rw [List.mem_singleton] at h2; subst h2; exact Or.inr (by simp)
      · exact Or.inl h1
    · exact Or.inr (by simp [h1])
theorem bld_ok {l : List En} (h : ∀ e ∈ l, EnOk e) : ∀ e ∈ bld l, EnOk e := fun e he => by
  rcases mem_fold he with h1 | h1
  · cases h1
  · exact h e h1
theorem eby_ext (L : List En) (n : Nat) : (bs (eby L)).extract 0 (n * 16) = bs (eby (L.take n)) := by
  rw [← bs_bl ((bs (eby L)).extract 0 (n * 16)), bl_ext, bl_bs _ (eby_byte _), List.drop_zero, Nat.sub_zero, eby_take]
set_option maxRecDepth 20000 in
set_option maxHeartbeats 4000000 in
theorem backs_walk (l0 : List En) (a : Option Addr) (cap : Nat) (n : Int) (s : ByteArray) (w : World) (hv : Ens w a l0) (hn : l0.length ≤ 8796093021952) (hok : ∀ y ∈ l0, EnOk y) (hs : s.size ≤ 140737488351232) :
    Calls Try.prog 6 #[.slice a l0.length cap, .int .i64 n, .string s] w fun e w' => e = .returned (.bool true) ∧ Below w.heap.size w w' := by
  have HF := hid (fixed_any w)
  have HBu : Hid (∀ wx, Below w.heap.size w wx → Calls Try.prog 23 #[.slice a l0.length cap] wx (BuiltP wx (bld l0))) := fun wx hx => built_any l0 a cap wx (hv.kept hx (Nat.le_refl _)) (by omega)
  have hL : (bld l0).length ≤ 8796093021952 := Nat.le_trans (bld_len l0) hn
  have HO := hid (bld_ord l0)
  have HOK := hid (bld_ok hok)
  generalize bld l0 = L at *
  generalize l0.length = N0 at *
  have HBy : Hid (∀ wx p v, Ip wx p v L → Calls Try.prog 26 #[.pointer p] wx fun e w' => e = .returned (.string (bs (eby L))) ∧ Below wx.heap.size wx w') := fun wx p v h => ibytes_any p v L wx h (by omega)
  have hbz : (bs (eby L)).size = L.length * 16 := by rw [bs_size, eby_len]
  have HLo : Hid (∀ wx, Calls Try.prog 21 #[.string (bs (eby L))] wx fun e w' => (∃ x v, e = .returned (.tuple #[.pointer (some ⟨x, 0, none⟩), .int .i64 0]) ∧ Io w' wx.heap.size x v L) ∧ Below wx.heap.size wx w') := fun wx => by
    have h1 := load_ok (bs (eby L)) wx (by omega) (by omega)
    rw [bl_bs _ (eby_byte _), rdE_eby L HOK.out] at h1
    refine h1.mono fun e w' ⟨h2, h3⟩ => ⟨?_, h3⟩
    rcases h2 with ⟨_, h4⟩ | ⟨h4, _⟩
    · exact h4
    · rw [ord_all HO.out] at h4; cases h4
  have HEn : Hid (∀ wx p v, Ip wx p v L → Calls Try.prog 27 #[.pointer p] wx fun e w' => (∃ a c, e = .returned (.slice a L.length c) ∧ Ens w' a L) ∧ Below wx.heap.size wx w') := fun wx p v h => (entries_any p v L wx h (by omega)).mono fun e w' ⟨⟨v', h1, h2⟩, h3⟩ => ⟨by obtain ⟨a, c, rfl, h5⟩ := h2.ens; exact ⟨a, c, h1, h5⟩, h3⟩
  have HSm : Hid (∀ wx a b ca cb, Ens wx a L → Ens wx b L → Calls Try.prog 18 #[.slice a L.length ca, .slice b L.length cb] wx fun e w' => e = .returned (.bool true) ∧ Below wx.heap.size wx w') := fun wx a b ca cb h1 h2 => same_yes L a b ca cb wx h1 h2 (by omega)
  have HCu : Hid (∀ wx p v, Ip wx p v L → Calls Try.prog 28 #[.pointer p, .int .i64 n] wx fun e w' => e = .returned (.int .i64 (cutC L n)) ∧ Left wx w' p v (cutE L n)) := fun wx p v h => cut_any p n v L wx h
  obtain ⟨N, hN⟩ : ∃ N, L.length = N := ⟨_, rfl⟩
  have HN := hid hN
  obtain ⟨S, hS⟩ : ∃ S, S = bs (eby L) := ⟨_, rfl⟩
  rw [hN] at hL hbz HEn HSm
  rw [← hS] at hbz HBy HLo
  have HS := hid hS
  have hSz : (S.size : Int) = 16 * (N : Int) := by omega
  clear hv hok hN hS
  go_enter Try.func6, Try.ntmps6
  go_wp2_with (first | (go_at_call 9; refine HF.out.mono ?_; rintro e w1 ⟨rfl, hb1⟩; have HB1 := hid hb1; clear hb1) | (go_at_call 23; refine (HBu.out _ HB1.out).mono ?_; rintro e w2 ⟨x, v, vr, rfl, hbw⟩; obtain ⟨n9, x9, c9, hn9, rfl, hens⟩ := hbw.ro.ensN; obtain rfl : n9 = N := (by rw [hn9, HN.out]); have HW := hid hbw; have HE := hid hens; have HB2 := hid (HB1.out.trans (hbw.bel.mono HB1.out.size)); clear hn9 hbw hens) | (go_at_call 26; refine (HBy.out _ _ _ HW.out.io.ip).mono ?_; rintro e w3 ⟨rfl, hb3⟩; have HB3 := hid (HB2.out.trans (hb3.mono HB2.out.size)); have HE3 := hid (HE.out.kept hb3 (Nat.le_refl _)); clear hb3) | (go_at_call 21; refine (HLo.out _).mono ?_; rintro e w4 ⟨⟨y, vy, rfl, hio⟩, hb4⟩; have HY := hid hio; have HB4 := hid (HB3.out.trans (hb4.mono HB3.out.size)); have HE4 := hid (HE3.out.kept hb4 (Nat.le_refl _)); clear hio hb4) | (go_at_call 27; refine (HEn.out _ _ _ HY.out.ip).mono ?_; rintro e w5 ⟨⟨a5, c5, rfl, he5⟩, hb5⟩; have HA5 := hid he5; have HY5 := hid (HY.out.below hb5); have HB5 := hid (HB4.out.trans (hb5.mono HB4.out.size)); have HE5 := hid (HE4.out.kept hb5 (Nat.le_refl _)); clear he5 hb5) | (go_at_call 18; refine (HSm.out _ _ _ _ _ HA5.out HE5.out).mono ?_; rintro e w6 ⟨rfl, hb6⟩; have HY6 := hid (HY5.out.below hb6); have HB6 := hid (HB5.out.trans (hb6.mono HB5.out.size)); clear hb6))
  have HY7 : Hid (∀ w7 l', Left w6 w7 (some ⟨y, 0, none⟩) vy l' → (∃ v7, Ip w7 (some ⟨y, 0, none⟩) v7 l') ∧ Below w.heap.size w w7) := fun w7 l' hl => by
    have h3 := Nat.le_trans HB3.out.size (show w3.heap.size ≤ w3.heap.size from Nat.le_refl _)
    have hle : w3.heap.size ≤ w6.heap.size := by
      have := lt_of_heap HY6.out.ix.blk
      have := HY6.out.at0
      omega
    obtain ⟨v7, h1, h2⟩ := HY6.out.left hle hl
    exact ⟨⟨v7, h1.ip⟩, HB6.out.trans (h2.mono h3)⟩
  have HCu6 := hid (HCu.out _ _ _ HY6.out.ip)
  clear HF HBu HBy HLo HEn HSm HW HE HB2 HB1 HE3 HY HB4 HE4 HA5 HY5 HB5 HE5 HCu
  have HRg : Hid (s.size % 16 = 0 → ∀ wx, Calls Try.prog 19 #[.string s] wx fun e w' => (∃ a c, e = .returned (.tuple #[.slice a (s.size / 16) c, .int .i64 0]) ∧ Ens w' a (rdE (bl s))) ∧ Below wx.heap.size wx w') := fun h wx => (read_ok s wx h (by omega)).mono fun e w' ⟨⟨v, h1, h2⟩, h3⟩ => by
    obtain ⟨a, c, rfl, h5⟩ := h2.ens
    rw [rdE_len, bl_len] at h1
    exact ⟨⟨a, c, h1, h5⟩, h3⟩
  have HRb : Hid (¬ s.size % 16 = 0 → ∀ wx, Calls Try.prog 19 #[.string s] wx fun e w' => e = .returned (.tuple #[.slice none 0 0, .int .i64 29]) ∧ w' = wx) := fun h wx => read_bad s wx h (by omega)
  have HPu : Hid (s.size % 16 = 0 → ∀ wx a c, Ens wx a (rdE (bl s)) → Calls Try.prog 16 #[.slice a (s.size / 16) c] wx fun e w' => e = .returned (.string s) ∧ Below wx.heap.size wx w') := fun h wx a c he => by
    have h1 := put_any (rdE (bl s)) a c wx he (by rw [rdE_len, bl_len]; omega)
    rw [eby_rdE (s.size / 16) (bl s) (by rw [bl_len]; omega) (bl_byte s), bs_bl, rdE_len, bl_len] at h1
    exact h1
  by_cases h0 : 0 ≤ n
  · by_cases h1 : n ≤ n9
    · obtain ⟨m, rfl⟩ : ∃ m : Nat, n = m := ⟨n.toNat, by omega⟩
      have hc1 : cutC L (m : Int) = 0 := if_pos ⟨h0, by rw [HN.out]; exact h1⟩
      have hc2 : cutE L (m : Int) = L.take m := by unfold cutE; rw [if_pos ⟨h0, by rw [HN.out]; exact h1⟩, Int.toNat_natCast]
      rw [hc1, hc2] at HCu6
      have hlm : (L.take m).length = m := by rw [List.length_take, HN.out]; omega
      have HBy2 : Hid (∀ wx p v, Ip wx p v (L.take m) → Calls Try.prog 26 #[.pointer p] wx fun e w' => e = .returned (.string (S.extract 0 (m * 16))) ∧ Below wx.heap.size wx w') := fun wx p v h => by
        have := ibytes_any p v (L.take m) wx h (by omega)
        rw [← eby_ext, ← HS.out] at this
        exact this
      have HLe : Hid (∀ wx p v, Ip wx p v (L.take m) → Calls Try.prog 24 #[.pointer p] wx fun e w' => e = .returned (.int .i64 m) ∧ Below wx.heap.size wx w') := fun wx p v h => by
        have := len_any p v (L.take m) wx h
        rw [hlm] at this
        exact this
      have hd1 : decide (0 ≤ (m : Int)) = true := by simp
      have hd2 : decide ((m : Int) ≤ n9) = true := by simp [h1]
      have hd3 : decide (m ≤ n9) = true := by simp; omega
      clear hc1 hc2 hlm
      go_wp2_with (go_at_call 28; refine HCu6.out.mono ?_; rintro e w7 ⟨rfl, hl⟩; obtain ⟨⟨v7, hp7⟩, hb7⟩ := HY7.out _ _ hl; have HP7 := hid hp7; have HB7 := hid hb7; clear hl hp7 hb7)
      obtain ⟨K, hK⟩ : ∃ K : Nat, m * 16 = K := ⟨_, rfl⟩
      have hKI : 16 * (m : Int) = (K : Int) := by omega
      have hK1 : (K : Int) ≤ S.size := by omega
      have hK0 : (0 : Int) ≤ K := by omega
      have hwK : IntKind.i64.wrap (K : Int) = K := wrap_in (by omega) (by omega)
      have hK2 : K ≤ S.size := by omega
      rw [hK] at HBy2
      clear hSz hbz
      have HBy3 : Hid (∀ wx, Below w7.heap.size w7 wx → Calls Try.prog 26 #[.pointer (some ⟨y, 0, none⟩)] wx fun e w' => e = .returned (.string (S.extract 0 K)) ∧ Below w7.heap.size w7 w') := fun wx hx => (HBy2.out wx _ v7 (HP7.out.below hx)).mono fun e w' ⟨h1, h2⟩ => ⟨h1, hx.trans (h2.mono hx.size)⟩
      have HLe3 : Hid (∀ wx, Below w7.heap.size w7 wx → Calls Try.prog 24 #[.pointer (some ⟨y, 0, none⟩)] wx fun e w' => e = .returned (.int .i64 m) ∧ Below w7.heap.size w7 w') := fun wx hx => (HLe.out wx _ v7 (HP7.out.below hx)).mono fun e w' ⟨h1, h2⟩ => ⟨h1, hx.trans (h2.mono hx.size)⟩
      clear HBy2 HLe
      go_region_held3 (fun _ => True) ((trivial)) ((first | (go_at_call 26; refine (HBy3.out _ (by first | exact Below.refl _ _ | exact ⟨rfl, rfl, rfl, Nat.le_refl _, fun _ _ => rfl⟩)).mono ?_; rintro e w8 ⟨rfl, hb8⟩) | (go_at_call 24; refine (HLe3.out _ (by first | exact hb8 | exact hb8.trans ⟨rfl, rfl, rfl, Nat.le_refl _, fun _ _ => rfl⟩)).mono ?_; rintro e w9 ⟨rfl, hb9⟩)))
      have HB10 := hid (HB7.out.trans (hb9.mono HB7.out.size))
      clear hb8 hb9
      simp only [Exit.then]
      by_cases hm6 : s.size % 16 = 0
      · have HR := hid (HRg.out hm6)
        go_wp2_with (first | (go_at_call 19; refine (HR.out _).mono ?_; rintro e wA ⟨⟨aA, cA, rfl, heA⟩, hbA⟩; have HEA := hid heA; have HBA := hid hbA; clear heA hbA) | (go_at_call 16; refine (HPu.out hm6 _ _ _ HEA.out).mono ?_; rintro e wB ⟨rfl, hbB⟩; have HBB := hid hbB; clear hbB))
        go_ret
        exact ⟨rfl, (HB10.out.trans (HBA.out.mono (HB10.out).size)).trans (HBB.out.mono (Nat.le_trans (HB10.out).size HBA.out.size))⟩
      · have HR := hid (HRb.out hm6)
        have hm7 : ¬ (s.size : Int) % 16 = 0 := by omega
        have hm8 : ((s.size : Int) % 16 != 0) = true := by simp; omega
        go_wp2_with (go_at_call 19; refine (HR.out _).mono ?_; rintro e wA ⟨rfl, rfl⟩)
        go_ret
        exact ⟨rfl, HB10.out⟩
    · have hc1 : cutC L n = 1 := if_neg (fun h => h1 (by rw [← HN.out]; exact h.2))
      have hc2 : cutE L n = L := if_neg (fun h => h1 (by rw [← HN.out]; exact h.2))
      rw [hc1, hc2] at HCu6
      have hd1 : decide (0 ≤ n) = true := by simp [h0]
      have hd2 : decide (n ≤ n9) = false := by simp [h1]
      clear hc1 hc2
      go_wp2_with (go_at_call 28; refine HCu6.out.mono ?_; rintro e w7 ⟨rfl, hl⟩; obtain ⟨_, hb7⟩ := HY7.out _ _ hl; have HB7 := hid hb7; clear hl hb7)
      go_big_quiet (fail)
      by_cases hm6 : s.size % 16 = 0
      · have HR := hid (HRg.out hm6)
        go_wp2_with (first | (go_at_call 19; refine (HR.out _).mono ?_; rintro e wA ⟨⟨aA, cA, rfl, heA⟩, hbA⟩; have HEA := hid heA; have HBA := hid hbA; clear heA hbA) | (go_at_call 16; refine (HPu.out hm6 _ _ _ HEA.out).mono ?_; rintro e wB ⟨rfl, hbB⟩; have HBB := hid hbB; clear hbB))
        go_ret
        exact ⟨rfl, ((below_drewN HB7.out _).trans (HBA.out.mono ((below_drewN HB7.out _)).size)).trans (HBB.out.mono (Nat.le_trans ((below_drewN HB7.out _)).size HBA.out.size))⟩
      · have HR := hid (HRb.out hm6)
        have hm7 : ¬ (s.size : Int) % 16 = 0 := by omega
        have hm8 : ((s.size : Int) % 16 != 0) = true := by simp; omega
        go_wp2_with (go_at_call 19; refine (HR.out _).mono ?_; rintro e wA ⟨rfl, rfl⟩)
        go_ret
        exact ⟨rfl, (below_drewN HB7.out _)⟩
  · have hc1 : cutC L n = 1 := if_neg (fun h => h0 h.1)
    have hc2 : cutE L n = L := if_neg (fun h => h0 h.1)
    rw [hc1, hc2] at HCu6
    have hd1 : decide (0 ≤ n) = false := by simp [h0]
    clear hc1 hc2
    go_wp2_with (go_at_call 28; refine HCu6.out.mono ?_; rintro e w7 ⟨rfl, hl⟩; obtain ⟨_, hb7⟩ := HY7.out _ _ hl; have HB7 := hid hb7; clear hl hb7)
    go_big_quiet (fail)
    by_cases hm6 : s.size % 16 = 0
    · have HR := hid (HRg.out hm6)
      go_wp2_with (first | (go_at_call 19; refine (HR.out _).mono ?_; rintro e wA ⟨⟨aA, cA, rfl, heA⟩, hbA⟩; have HEA := hid heA; have HBA := hid hbA; clear heA hbA) | (go_at_call 16; refine (HPu.out hm6 _ _ _ HEA.out).mono ?_; rintro e wB ⟨rfl, hbB⟩; have HBB := hid hbB; clear hbB))
      go_ret
      exact ⟨rfl, ((below_drewN HB7.out _).trans (HBA.out.mono ((below_drewN HB7.out _)).size)).trans (HBB.out.mono (Nat.le_trans ((below_drewN HB7.out _)).size HBA.out.size))⟩
    · have HR := hid (HRb.out hm6)
      have hm7 : ¬ (s.size : Int) % 16 = 0 := by omega
      have hm8 : ((s.size : Int) % 16 != 0) = true := by simp; omega
      go_wp2_with (go_at_call 19; refine (HR.out _).mono ?_; rintro e wA ⟨rfl, rfl⟩)
      go_ret
      exact ⟨rfl, (below_drewN HB7.out _)⟩
end Go.Proofs.Ytldfbddccmnchaa
