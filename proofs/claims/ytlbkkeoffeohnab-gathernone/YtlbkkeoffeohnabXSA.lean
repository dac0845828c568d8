import Derived.Test.YtlbkkeoffeohnabXS6
/- The document's Same of any two records. -/
namespace Go.Proofs.Ytlbkkeoffeohnab
open Go.RowKit
theorem xsame_any (r s : Rec) (a1 a2 : Option Addr) (cap1 cap2 : Nat) (w : World) (V1 : Hds w a1 r.hs) (V2 : Hds w a2 s.hs) (hz : r.hs.length ≤ 9223372036854775807) :
    Calls Try.prog 19 #[.agg #[.int .i64 r.t, .bool r.kh, .string r.kd, .bool r.vh, .string r.vd, .slice a1 r.hs.length cap1], .agg #[.int .i64 s.t, .bool s.kh, .string s.kd, .bool s.vh, .string s.vd, .slice a2 s.hs.length cap2]] w fun e w' => e = .returned (.bool (sameB r s)) ∧ Below w.heap.size w w' := by
  obtain ⟨t, kh, kd, vh, vd, hs⟩ := r
  obtain ⟨t2, kh2, kd2, vh2, vd2, hs2⟩ := s
  dsimp only at V1 V2 hz ⊢
  by_cases h1 : t = t2
  · by_cases h2 : kh = kh2 ∧ bd kh kd = bd kh2 kd2
    · by_cases h3 : vh = vh2 ∧ bd vh vd = bd vh2 vd2
      · obtain ⟨rfl, hk⟩ := h2
        obtain ⟨rfl, hv⟩ := h3
        subst h1
        by_cases h4 : hs.length = hs2.length
        · rcases first_bad (fun j => hq (hs.getD j df) (hs2.getD j df)) hs.length with h5 | ⟨j0, h5, h6, h7⟩
          · rw [sameB_yes (r := ⟨t, kh, kd, vh, vd, hs⟩) (s := ⟨t, kh, kd2, vh, vd2, hs2⟩) ⟨rfl, ⟨rfl, hk⟩, ⟨rfl, hv⟩, h4, h5⟩, ← h4]
            exact xsame_ok t kh vh kd kd2 vd vd2 hs hs2 a1 a2 cap1 cap2 w V1 V2 hz hk hv h4 h5
          · rw [sameB_no (r := ⟨t, kh, kd, vh, vd, hs⟩) (s := ⟨t, kh, kd2, vh, vd2, hs2⟩) (fun h => h6 (h.2.2.2.2 j0 h5)), ← h4]
            exact xsame_no5 t kh vh kd kd2 vd vd2 hs hs2 a1 a2 cap1 cap2 w V1 V2 hz hk hv h4 j0 h5 h7 h6
        · rw [sameB_no (r := ⟨t, kh, kd, vh, vd, hs⟩) (s := ⟨t, kh, kd2, vh, vd2, hs2⟩) (fun h => h4 h.2.2.2.1)]
          exact xsame_no4 t t kh kh vh vh hs.length hs2.length kd kd2 vd vd2 a1 a2 cap1 cap2 w rfl ⟨rfl, hk⟩ ⟨rfl, hv⟩ h4
      · rw [sameB_no (r := ⟨t, kh, kd, vh, vd, hs⟩) (s := ⟨t2, kh2, kd2, vh2, vd2, hs2⟩) (fun h => h3 h.2.2.1)]
        exact xsame_no3 t t2 kh kh2 vh vh2 hs.length hs2.length kd kd2 vd vd2 a1 a2 cap1 cap2 w h1 h2 h3
    · rw [sameB_no (r := ⟨t, kh, kd, vh, vd, hs⟩) (s := ⟨t2, kh2, kd2, vh2, vd2, hs2⟩) (fun h => h2 h.2.1)]
      exact xsame_no2 t t2 kh kh2 vh vh2 hs.length hs2.length kd kd2 vd vd2 a1 a2 cap1 cap2 w h1 h2
  · rw [sameB_no (r := ⟨t, kh, kd, vh, vd, hs⟩) (s := ⟨t2, kh2, kd2, vh2, vd2, hs2⟩) (fun h => h1 h.1)]
    exact xsame_no1 t t2 kh kh2 vh vh2 hs.length hs2.length kd kd2 vd vd2 a1 a2 cap1 cap2 w h1
end Go.Proofs.Ytlbkkeoffeohnab
