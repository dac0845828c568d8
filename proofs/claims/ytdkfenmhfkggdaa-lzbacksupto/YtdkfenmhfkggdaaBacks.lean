/- LzBacks' walk: what is packed is unpacked, is no longer than the bound, and a length or cap that isn't right is refused. -/
import Derived.Test.YtdkfenmhfkggdaaFix
namespace Go.Proofs.Ytdkfenmhfkggdaa
open Go.RowKit
theorem bk_same (s : ByteArray) (m : Int) (w : World) (hs : s.size ≤ 1048576) (hm : (s.size : Int) ≤ m) :
    Calls Try.prog 16 #[.string (ba (M.pack s.data.toList)), .int .i64 s.size, .int .i64 m] w fun e w' => e = .returned (.tuple #[.string s, .int .i64 0]) ∧ Below w.heap.size w w' := by
  have h := unpack_any (ba (M.pack s.data.toList)) s.size m w (by omega) (fun _ _ => by omega)
  have e : unZ (M.pack s.data.toList) s.size m = .tuple #[.string s, .int .i64 0] := by
    unfold unZ
    rw [if_neg (by omega), Int.toNat_natCast, ← len_ s, M.un_pack]
    rfl
  rw [ba_list, e] at h
  exact h
theorem bk_neg (P : ByteArray) (z m : Int) (w : World) (hz : z < 0) :
    Calls Try.prog 16 #[.string P, .int .i64 z, .int .i64 m] w fun e w' => e = .returned (.tuple #[.string ⟨#[]⟩, .int .i64 66]) ∧ Below w.heap.size w w' := by
  have h := unpack_any P z m w (by omega) (fun _ _ => by omega)
  have e : unZ P.data.toList z m = .tuple #[.string ⟨#[]⟩, .int .i64 66] := by
    unfold unZ
    rw [if_pos (Or.inl hz)]
  rw [e] at h
  exact h
theorem bk_less (s : ByteArray) (z m : Int) (w : World) (hs : s.size ≤ 1048576) (h0 : 0 ≤ z) (h1 : z < s.size) (hm : (s.size : Int) ≤ m) :
    Calls Try.prog 16 #[.string (ba (M.pack s.data.toList)), .int .i64 z, .int .i64 m] w fun e w' => e = .returned (.tuple #[.string ⟨#[]⟩, .int .i64 22]) ∧ Below w.heap.size w w' := by
  have h := unpack_any (ba (M.pack s.data.toList)) z m w (by omega) (fun _ _ => by omega)
  have e : unZ (M.pack s.data.toList) z m = .tuple #[.string ⟨#[]⟩, .int .i64 22] := by
    unfold unZ
    rw [if_neg (by omega), M.un_pack_short (by rw [len_]; omega)]
    rfl
  rw [ba_list, e] at h
  exact h
theorem bk_more (s : ByteArray) (z m : Int) (w : World) (h1 : (s.size : Int) < z) (hz : z ≤ 9223372036854775807) (hm : z ≤ m) :
    Calls Try.prog 16 #[.string (ba (M.pack s.data.toList)), .int .i64 z, .int .i64 m] w fun e w' => e = .returned (.tuple #[.string ⟨#[]⟩, .int .i64 20]) ∧ Below w.heap.size w w' := by
  have hu : M.un z.toNat (M.pack s.data.toList) [] = .error 20 := M.un_pack_long (by rw [len_]; omega)
  have h := unpack_any (ba (M.pack s.data.toList)) z m w (by omega) (fun F hF => by rw [ba_list, hu] at hF; cases hF)
  have e : unZ (M.pack s.data.toList) z m = .tuple #[.string ⟨#[]⟩, .int .i64 20] := by
    unfold unZ
    rw [if_neg (by omega), hu]
    rfl
  rw [ba_list, e] at h
  exact h
set_option maxHeartbeats 4000000 in
set_option maxRecDepth 20000 in
theorem backs_walk (s : ByteArray) (most other : Int) (w : World) (hs : s.size ≤ 1048576) (ho : other ≤ 9223372036854775807) :
    Calls Try.prog 7 #[.string s, .int .i64 most, .int .i64 other] w fun e w' => e = .returned (.bool true) ∧ Below w.heap.size w w' := by
  have cp := fun w => pack_any s w (by omega)
  have cs := fun m w => bk_same s m w hs
  have hne : ((ba (M.pack s.data.toList)).toList.isEmpty = false) ∨ s.size = 0 := by
    by_cases h0 : s.size = 0
    · exact Or.inr h0
    · refine Or.inl (ne_emp ?_)
      rw [ba_size]
      intro h
      exact M.pack_some (by rw [len_]; exact h0) (List.eq_nil_of_length_eq_zero h)
  have hbd : ((ba (M.pack s.data.toList)).size : Int) ≤ bndZ s.size := by
    have := M.pack_size s.data.toList
    rw [ba_size]
    rw [len_] at this
    unfold bndZ
    rw [if_neg (by omega), if_neg (by omega)]
    omega
  have cn := fun m w => bk_neg (ba (M.pack s.data.toList)) other m w
  have cl := fun m w => bk_less s other m w hs
  have cm := fun m w => bk_more s other m w
  have cbd := fun w => bound_any s.size w
  generalize ba (M.pack s.data.toList) = P at *
  generalize bndZ s.size = Z at *
  have hlt : ¬ Z < (P.size : Int) := by omega
  have hsl : (s.size : Int) ≤ 1073741824 := by omega
  have CP := hid cp; have CS := hid cs; have CN := hid cn; have CL := hid cl; have CM := hid cm; have CBD := hid cbd
  have HNE := hid hne
  clear cp cs cn cl cm cbd hne hbd
  rcases Int.lt_or_le most s.size with hmx | hmx
  all_goals
    obtain hne | hne : (P.toList.isEmpty = false ∧ (0 : Int) < s.size) ∨ ¬ (0 : Int) < s.size := by
      rcases HNE.out with h | h
      · by_cases h0 : (0 : Int) < s.size
        · exact Or.inl ⟨h, h0⟩
        · exact Or.inr h0
      · exact Or.inr (by omega)
    all_goals
      go_enter Try.func7, Try.ntmps7
      go_wp2_with fail
      refine (fixed_any _).mono ?_
      rintro e w1 ⟨rfl, hb1⟩
      go_wp2_with fail
      refine (CP.out _).mono ?_
      rintro e w2 ⟨rfl, hb2⟩
      have HB2 := hid (bel_bel hb1 hb2 hb1.size)
      clear hb1 hb2
      go_wp2_with fail
      refine (CBD.out _).mono ?_
      rintro e w3 ⟨rfl, rfl⟩
      go_wp2_with fail
      refine (CS.out _ _ (by omega)).mono ?_
      rintro e w4 ⟨rfl, hb4⟩
      have HB4 := hid (bel_bel HB2.out hb4 HB2.out.size)
      clear hb4 HB2
      by_cases heq : other = s.size
      · have heq2 : (other == (s.size : Int)) = true := by rw [beq_iff_eq]; exact heq
        clear heq
        go_wp2_with fail
        go_ret
        exact ⟨rfl, HB4.out⟩
      · have heq2 : (other == (s.size : Int)) = false := by rw [beq_eq_false_iff_ne]; exact heq
        by_cases h0 : other < 0
        · have h1 : other < (s.size : Int) := by omega
          clear heq
          go_wp2_with fail
          refine (CN.out _ _ h0).mono ?_
          rintro e w5 ⟨rfl, hb5⟩
          have HB5 := hid (bel_bel HB4.out hb5 HB4.out.size)
          clear hb5
          go_wp2_with fail
          go_ret
          exact ⟨rfl, HB5.out⟩
        by_cases h1 : other < (s.size : Int)
        · first | (exfalso; omega) | skip
          all_goals
            have h2 : 0 ≤ other := by omega
            clear heq h0
            go_wp2_with fail
            refine (CL.out _ _ h2 h1 (by omega)).mono ?_
            rintro e w5 ⟨rfl, hb5⟩
            have HB5 := hid (bel_bel HB4.out hb5 HB4.out.size)
            clear hb5
            go_wp2_with fail
            go_ret
            exact ⟨rfl, HB5.out⟩
        · have h2 : (s.size : Int) < other := by omega
          clear heq h0
          go_wp2_with fail
          refine (CM.out _ _ h2 ho (by omega)).mono ?_
          rintro e w5 ⟨rfl, hb5⟩
          have HB5 := hid (bel_bel HB4.out hb5 HB4.out.size)
          clear hb5
          go_wp2_with fail
          go_ret
          exact ⟨rfl, HB5.out⟩
end Go.Proofs.Ytdkfenmhfkggdaa
