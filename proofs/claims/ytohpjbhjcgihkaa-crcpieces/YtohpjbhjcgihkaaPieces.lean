/- CrcPieces' walk: the sum of a text that is cut anywhere comes out the same by More, by Join, by a digest, and the second piece's by Behind; nothing that was there before is turned. -/
import Derived.Test.YtohpjbhjcgihkaaAwake
namespace Go.Proofs.Ytohpjbhjcgihkaa
open Go.RowKit
theorem hid {p : Prop} (h : p) : Hid p := h
theorem cut_at (s : ByteArray) (k : Nat) : s.data.toList = (s.extract 0 k).data.toList ++ (s.extract k s.size).data.toList := by
  simp only [ByteArray.data_extract, Array.toList_extract, List.extract_eq_take_drop, Nat.sub_zero, List.drop_zero]
  rw [List.take_of_length_le (l := s.data.toList.drop k) (by simp), List.take_append_drop]
theorem cut_len (s : ByteArray) (k : Nat) (hk : k ≤ s.size) : (s.extract 0 k).size + (s.extract k s.size).size = s.size := by
  simp [ByteArray.size_extract]; omega
set_option maxHeartbeats 4000000 in
set_option maxRecDepth 20000 in
theorem pieces_walk (s : ByteArray) (n : Int) (w : World) (hs : s.size ≤ 4611686018427387904) (h1 : -9223372036854775808 ≤ n) (h2 : n ≤ 9223372036854775807) :
    Calls Try.prog 8 #[.string s, .int .i64 n] w fun e w' => e = .returned (.bool true) ∧ Below w.heap.size w w' := by
  go_enter Try.func8, Try.ntmps8
  by_cases hn : n < 0
  · go_wp2_with fail
    refine (awake_any w).mono ?_
    rintro e w1 ⟨rfl, hb1⟩
    go_upto_region 5 with fail
    obtain ⟨k, hk0⟩ : ∃ k, k = s.size := ⟨_, rfl⟩
    rw [← hk0]
    have hk : k ≤ s.size := by omega
    clear hk0
    go_wp2_with fail
    have hab := cut_at s k
    have hl := cut_len s k hk
    generalize s.extract 0 k = a at *
    generalize s.extract k s.size = b at *
    have ea := M.more_more 0 a.data.toList b.data.toList
    rw [← hab] at ea
    have eb := M.more_join (M.more 0 a.data.toList) b.data.toList
    rw [ea, show b.data.toList.length = b.size by simp] at eb
    have cS := fun v => sum_any s v (by omega)
    have cA := fun v => sum_any a v (by omega)
    have cB := fun v => sum_any b v (by omega)
    have la := M.more_lt (sum := 0) a.data.toList (by omega)
    have lb := M.more_lt (sum := 0) b.data.toList (by omega)
    have ls := M.more_lt (sum := 0) s.data.toList (by omega)
    have cM := fun v => more_any _ b v la (by omega)
    rw [ea] at cM
    have cJ := fun v => join_any _ _ (b.size : Int) v la lb (by omega) (by omega)
    have cH := fun v => behind_any _ _ (b.size : Int) v la ls (by omega) (by omega)
    have ej : M.join (M.more 0 a.data.toList) (M.more 0 b.data.toList) (b.size : Int).toNat = M.more 0 s.data.toList := by
      rw [Int.toNat_natCast]; exact eb.symm
    have eh : M.join (M.more 0 a.data.toList) (M.more 0 s.data.toList) (b.size : Int).toNat = M.more 0 b.data.toList := by
      rw [Int.toNat_natCast]
      show M.zer b.size (M.more 0 a.data.toList) ^^^ M.more 0 s.data.toList = _
      rw [eb]; exact M.xor_left _ _
    rw [ej] at cJ
    rw [eh] at cH
    have cW1 := fun v p (hD : Dg v p 0 0) => write_any p 0 0 a v hD (by omega) (by omega)
    have cW2 := fun v p (hD : Dg v p (M.more 0 a.data.toList) (0 + a.size)) => write_any p (M.more 0 a.data.toList) (0 + a.size) b v hD la (by omega)
    rw [ea] at cW2
    clear ej eh ea eb hab la lb ls
    generalize M.more 0 a.data.toList = A at *
    generalize M.more 0 b.data.toList = B at *
    generalize M.more 0 s.data.toList = S at *
    have CS := hid cS; have CA := hid cA; have CB := hid cB; have CM := hid cM; have CJ := hid cJ; have CH := hid cH; have CW1 := hid cW1; have CW2 := hid cW2
    clear cS cA cB cM cJ cH cW1 cW2
    refine (CS.out w1).mono ?_
    rintro e w2 ⟨rfl, k2⟩
    have hb2 := bel_bel hb1 k2 hb1.size
    clear k2 hb1
    go_wp2_with fail
    refine (new_any w2).mono ?_
    rintro e w3 ⟨rfl, hD3, k3⟩
    have hb3 := bel_bel hb2 k3 hb2.size
    have hp := hb2.size
    clear k3 hb2
    generalize w2.heap.size = p at *
    go_wp2_with fail
    refine (CW1.out w3 p hD3).mono ?_
    rintro e w4 ⟨rfl, hD4, k4⟩
    have hb4 := ch_bel hb3 k4 hb3.size (fun i hi h => by omega)
    clear k4 hb3 hD3 CW1
    go_wp2_with fail
    refine (CW2.out w4 p hD4).mono ?_
    rintro e w5 ⟨rfl, hD5, k5⟩
    have hb5 := ch_bel hb4 k5 hb4.size (fun i hi h => by omega)
    clear k5 hb4 hD4 CW2
    go_wp2_with fail
    refine (dsum_any p _ _ w5 hD5).mono ?_
    rintro e w6 ⟨rfl, rfl⟩
    clear hD5 hp
    go_wp2_with fail
    refine (CA.out w6).mono ?_
    rintro e w7 ⟨rfl, k7⟩
    have hb7 := bel_bel hb5 k7 hb5.size
    clear k7 hb5
    go_wp2_with fail
    refine (CM.out w7).mono ?_
    rintro e w8 ⟨rfl, k8⟩
    have hb8 := bel_bel hb7 k8 hb7.size
    clear k8 hb7
    go_wp2_with fail
    refine (CA.out w8).mono ?_
    rintro e w9 ⟨rfl, k9⟩
    have hb9 := bel_bel hb8 k9 hb8.size
    clear k9 hb8
    go_wp2_with fail
    refine (CB.out w9).mono ?_
    rintro e w10 ⟨rfl, k10⟩
    have hb10 := bel_bel hb9 k10 hb9.size
    clear k10 hb9
    go_wp2_with fail
    refine (CJ.out w10).mono ?_
    rintro e w11 ⟨rfl, k11⟩
    have hb11 := bel_bel hb10 k11 hb10.size
    clear k11 hb10
    go_wp2_with fail
    refine (CA.out w11).mono ?_
    rintro e w12 ⟨rfl, k12⟩
    have hb12 := bel_bel hb11 k12 hb11.size
    clear k12 hb11
    go_wp2_with fail
    refine (CH.out w12).mono ?_
    rintro e w13 ⟨rfl, k13⟩
    have hb13 := bel_bel hb12 k13 hb12.size
    clear k13 hb12
    go_wp2_with fail
    refine (CB.out w13).mono ?_
    rintro e w14 ⟨rfl, k14⟩
    have hb14 := bel_bel hb13 k14 hb13.size
    clear k14 hb13
    go_wp2_with fail
    go_ret
    exact ⟨rfl, hb14⟩
  · by_cases hn2 : (s.size : Int) < n
    · go_wp2_with fail
      refine (awake_any w).mono ?_
      rintro e w1 ⟨rfl, hb1⟩
      go_upto_region 5 with fail
      obtain ⟨k, hk0⟩ : ∃ k, k = s.size := ⟨_, rfl⟩
      rw [← hk0]
      have hk : k ≤ s.size := by omega
      clear hk0
      go_wp2_with fail
      have hab := cut_at s k
      have hl := cut_len s k hk
      generalize s.extract 0 k = a at *
      generalize s.extract k s.size = b at *
      have ea := M.more_more 0 a.data.toList b.data.toList
      rw [← hab] at ea
      have eb := M.more_join (M.more 0 a.data.toList) b.data.toList
      rw [ea, show b.data.toList.length = b.size by simp] at eb
      have cS := fun v => sum_any s v (by omega)
      have cA := fun v => sum_any a v (by omega)
      have cB := fun v => sum_any b v (by omega)
      have la := M.more_lt (sum := 0) a.data.toList (by omega)
      have lb := M.more_lt (sum := 0) b.data.toList (by omega)
      have ls := M.more_lt (sum := 0) s.data.toList (by omega)
      have cM := fun v => more_any _ b v la (by omega)
      rw [ea] at cM
      have cJ := fun v => join_any _ _ (b.size : Int) v la lb (by omega) (by omega)
      have cH := fun v => behind_any _ _ (b.size : Int) v la ls (by omega) (by omega)
      have ej : M.join (M.more 0 a.data.toList) (M.more 0 b.data.toList) (b.size : Int).toNat = M.more 0 s.data.toList := by
        rw [Int.toNat_natCast]; exact eb.symm
      have eh : M.join (M.more 0 a.data.toList) (M.more 0 s.data.toList) (b.size : Int).toNat = M.more 0 b.data.toList := by
        rw [Int.toNat_natCast]
        show M.zer b.size (M.more 0 a.data.toList) ^^^ M.more 0 s.data.toList = _
        rw [eb]; exact M.xor_left _ _
      rw [ej] at cJ
      rw [eh] at cH
      have cW1 := fun v p (hD : Dg v p 0 0) => write_any p 0 0 a v hD (by omega) (by omega)
      have cW2 := fun v p (hD : Dg v p (M.more 0 a.data.toList) (0 + a.size)) => write_any p (M.more 0 a.data.toList) (0 + a.size) b v hD la (by omega)
      rw [ea] at cW2
      clear ej eh ea eb hab la lb ls
      generalize M.more 0 a.data.toList = A at *
      generalize M.more 0 b.data.toList = B at *
      generalize M.more 0 s.data.toList = S at *
      have CS := hid cS; have CA := hid cA; have CB := hid cB; have CM := hid cM; have CJ := hid cJ; have CH := hid cH; have CW1 := hid cW1; have CW2 := hid cW2
      clear cS cA cB cM cJ cH cW1 cW2
      refine (CS.out w1).mono ?_
      rintro e w2 ⟨rfl, k2⟩
      have hb2 := bel_bel hb1 k2 hb1.size
      clear k2 hb1
      go_wp2_with fail
      refine (new_any w2).mono ?_
      rintro e w3 ⟨rfl, hD3, k3⟩
      have hb3 := bel_bel hb2 k3 hb2.size
      have hp := hb2.size
      clear k3 hb2
      generalize w2.heap.size = p at *
      go_wp2_with fail
      refine (CW1.out w3 p hD3).mono ?_
      rintro e w4 ⟨rfl, hD4, k4⟩
      have hb4 := ch_bel hb3 k4 hb3.size (fun i hi h => by omega)
      clear k4 hb3 hD3 CW1
      go_wp2_with fail
      refine (CW2.out w4 p hD4).mono ?_
      rintro e w5 ⟨rfl, hD5, k5⟩
      have hb5 := ch_bel hb4 k5 hb4.size (fun i hi h => by omega)
      clear k5 hb4 hD4 CW2
      go_wp2_with fail
      refine (dsum_any p _ _ w5 hD5).mono ?_
      rintro e w6 ⟨rfl, rfl⟩
      clear hD5 hp
      go_wp2_with fail
      refine (CA.out w6).mono ?_
      rintro e w7 ⟨rfl, k7⟩
      have hb7 := bel_bel hb5 k7 hb5.size
      clear k7 hb5
      go_wp2_with fail
      refine (CM.out w7).mono ?_
      rintro e w8 ⟨rfl, k8⟩
      have hb8 := bel_bel hb7 k8 hb7.size
      clear k8 hb7
      go_wp2_with fail
      refine (CA.out w8).mono ?_
      rintro e w9 ⟨rfl, k9⟩
      have hb9 := bel_bel hb8 k9 hb8.size
      clear k9 hb8
      go_wp2_with fail
      refine (CB.out w9).mono ?_
      rintro e w10 ⟨rfl, k10⟩
      have hb10 := bel_bel hb9 k10 hb9.size
      clear k10 hb9
      go_wp2_with fail
      refine (CJ.out w10).mono ?_
      rintro e w11 ⟨rfl, k11⟩
      have hb11 := bel_bel hb10 k11 hb10.size
      clear k11 hb10
      go_wp2_with fail
      refine (CA.out w11).mono ?_
      rintro e w12 ⟨rfl, k12⟩
      have hb12 := bel_bel hb11 k12 hb11.size
      clear k12 hb11
      go_wp2_with fail
      refine (CH.out w12).mono ?_
      rintro e w13 ⟨rfl, k13⟩
      have hb13 := bel_bel hb12 k13 hb12.size
      clear k13 hb12
      go_wp2_with fail
      refine (CB.out w13).mono ?_
      rintro e w14 ⟨rfl, k14⟩
      have hb14 := bel_bel hb13 k14 hb13.size
      clear k14 hb13
      go_wp2_with fail
      go_ret
      exact ⟨rfl, hb14⟩
    · obtain ⟨k, rfl⟩ : ∃ k : Nat, n = k := ⟨n.toNat, by omega⟩
      have hk : k ≤ s.size := by omega
      go_wp2_with fail
      refine (awake_any w).mono ?_
      rintro e w1 ⟨rfl, hb1⟩
      go_upto_region 5 with fail
      go_wp2_with fail
      have hab := cut_at s k
      have hl := cut_len s k hk
      generalize s.extract 0 k = a at *
      generalize s.extract k s.size = b at *
      have ea := M.more_more 0 a.data.toList b.data.toList
      rw [← hab] at ea
      have eb := M.more_join (M.more 0 a.data.toList) b.data.toList
      rw [ea, show b.data.toList.length = b.size by simp] at eb
      have cS := fun v => sum_any s v (by omega)
      have cA := fun v => sum_any a v (by omega)
      have cB := fun v => sum_any b v (by omega)
      have la := M.more_lt (sum := 0) a.data.toList (by omega)
      have lb := M.more_lt (sum := 0) b.data.toList (by omega)
      have ls := M.more_lt (sum := 0) s.data.toList (by omega)
      have cM := fun v => more_any _ b v la (by omega)
      rw [ea] at cM
      have cJ := fun v => join_any _ _ (b.size : Int) v la lb (by omega) (by omega)
      have cH := fun v => behind_any _ _ (b.size : Int) v la ls (by omega) (by omega)
      have ej : M.join (M.more 0 a.data.toList) (M.more 0 b.data.toList) (b.size : Int).toNat = M.more 0 s.data.toList := by
        rw [Int.toNat_natCast]; exact eb.symm
      have eh : M.join (M.more 0 a.data.toList) (M.more 0 s.data.toList) (b.size : Int).toNat = M.more 0 b.data.toList := by
        rw [Int.toNat_natCast]
        show M.zer b.size (M.more 0 a.data.toList) ^^^ M.more 0 s.data.toList = _
        rw [eb]; exact M.xor_left _ _
      rw [ej] at cJ
      rw [eh] at cH
      have cW1 := fun v p (hD : Dg v p 0 0) => write_any p 0 0 a v hD (by omega) (by omega)
      have cW2 := fun v p (hD : Dg v p (M.more 0 a.data.toList) (0 + a.size)) => write_any p (M.more 0 a.data.toList) (0 + a.size) b v hD la (by omega)
      rw [ea] at cW2
      clear ej eh ea eb hab la lb ls
      generalize M.more 0 a.data.toList = A at *
      generalize M.more 0 b.data.toList = B at *
      generalize M.more 0 s.data.toList = S at *
      have CS := hid cS; have CA := hid cA; have CB := hid cB; have CM := hid cM; have CJ := hid cJ; have CH := hid cH; have CW1 := hid cW1; have CW2 := hid cW2
      clear cS cA cB cM cJ cH cW1 cW2
      refine (CS.out w1).mono ?_
      rintro e w2 ⟨rfl, k2⟩
      have hb2 := bel_bel hb1 k2 hb1.size
      clear k2 hb1
      go_wp2_with fail
      refine (new_any w2).mono ?_
      rintro e w3 ⟨rfl, hD3, k3⟩
      have hb3 := bel_bel hb2 k3 hb2.size
      have hp := hb2.size
      clear k3 hb2
      generalize w2.heap.size = p at *
      go_wp2_with fail
      refine (CW1.out w3 p hD3).mono ?_
      rintro e w4 ⟨rfl, hD4, k4⟩
      have hb4 := ch_bel hb3 k4 hb3.size (fun i hi h => by omega)
      clear k4 hb3 hD3 CW1
      go_wp2_with fail
      refine (CW2.out w4 p hD4).mono ?_
      rintro e w5 ⟨rfl, hD5, k5⟩
      have hb5 := ch_bel hb4 k5 hb4.size (fun i hi h => by omega)
      clear k5 hb4 hD4 CW2
      go_wp2_with fail
      refine (dsum_any p _ _ w5 hD5).mono ?_
      rintro e w6 ⟨rfl, rfl⟩
      clear hD5 hp
      go_wp2_with fail
      refine (CA.out w6).mono ?_
      rintro e w7 ⟨rfl, k7⟩
      have hb7 := bel_bel hb5 k7 hb5.size
      clear k7 hb5
      go_wp2_with fail
      refine (CM.out w7).mono ?_
      rintro e w8 ⟨rfl, k8⟩
      have hb8 := bel_bel hb7 k8 hb7.size
      clear k8 hb7
      go_wp2_with fail
      refine (CA.out w8).mono ?_
      rintro e w9 ⟨rfl, k9⟩
      have hb9 := bel_bel hb8 k9 hb8.size
      clear k9 hb8
      go_wp2_with fail
      refine (CB.out w9).mono ?_
      rintro e w10 ⟨rfl, k10⟩
      have hb10 := bel_bel hb9 k10 hb9.size
      clear k10 hb9
      go_wp2_with fail
      refine (CJ.out w10).mono ?_
      rintro e w11 ⟨rfl, k11⟩
      have hb11 := bel_bel hb10 k11 hb10.size
      clear k11 hb10
      go_wp2_with fail
      refine (CA.out w11).mono ?_
      rintro e w12 ⟨rfl, k12⟩
      have hb12 := bel_bel hb11 k12 hb11.size
      clear k12 hb11
      go_wp2_with fail
      refine (CH.out w12).mono ?_
      rintro e w13 ⟨rfl, k13⟩
      have hb13 := bel_bel hb12 k13 hb12.size
      clear k13 hb12
      go_wp2_with fail
      refine (CB.out w13).mono ?_
      rintro e w14 ⟨rfl, k14⟩
      have hb14 := bel_bel hb13 k14 hb13.size
      clear k14 hb13
      go_wp2_with fail
      go_ret
      exact ⟨rfl, hb14⟩
end Go.Proofs.Ytohpjbhjcgihkaa
