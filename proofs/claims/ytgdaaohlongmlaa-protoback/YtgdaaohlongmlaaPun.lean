/- Fields that a kind doesn't use: plain facts. -/
import Derived.Test.YtgdaaohlongmlaaPsa
import Derived.Deep.CutRange
namespace Go.Proofs.Ytgdaaohlongmlaa
open Go.RowKit
theorem askL_byte (r : Rq) : ∀ b ∈ askL r, b < 256 := by
  intro b hb
  unfold askL askB at hb
  rcases List.mem_append.1 hb with h | h
  · exact nb_byte _ _ b h
  · split at h
    · rcases List.mem_append.1 h with h | h
      · exact nb_byte _ _ b h
      · exact bl_byte _ b h
    · split at h
      · rcases List.mem_append.1 h with h | h
        · exact nb_byte _ _ b h
        · exact nb_byte _ _ b h
      · split at h
        · exact nb_byte _ _ b h
        · split at h
          · exact nb_byte _ _ b h
          · cases h
theorem repL_byte (r : Rp) : ∀ b ∈ repL r, b < 256 := by
  intro b hb
  unfold repL repB at hb
  rcases List.mem_append.1 hb with h | h
  · rcases List.mem_append.1 h with h | h
    · exact nb_byte _ _ b h
    · exact nb_byte _ _ b h
  · split at h
    · split at h
      · rcases List.mem_append.1 h with h | h
        · exact nb_byte _ _ b h
        · exact nb_byte _ _ b h
      · split at h
        · rcases List.mem_append.1 h with h | h
          · exact nb_byte _ _ b h
          · rcases List.mem_append.1 h with h | h
            · exact nb_byte _ _ b h
            · exact bl_byte _ b h
        · split at h
          · exact nb_byte _ _ b h
          · split at h
            · exact nb_byte _ _ b h
            · split at h
              · exact nb_byte _ _ b h
              · split at h
                · rcases List.mem_append.1 h with h | h
                  · exact nb_byte _ _ b h
                  · exact nb_byte _ _ b h
                · cases h
    · cases h
theorem askL_len {r : Rq} (h : askE r = 0) : 1 ≤ (askL r).length ∧ (askL r).length ≤ 16777300 := by
  obtain ⟨h1, h2⟩ := askE_0 h
  unfold askL askB
  rw [List.length_append, nb_len]
  split
  · rename_i hk; have := h2 hk; rw [List.length_append, nb_len, bl_len]; omega
  · split
    · rw [List.length_append, nb_len, nb_len]; omega
    · split
      · rw [nb_len]; omega
      · split
        · rw [nb_len]; omega
        · simp
theorem repL_len {r : Rp} (h : repE r = 0) : 1 ≤ (repL r).length ∧ (repL r).length ≤ 1073741900 := by
  obtain ⟨h1, _, h2⟩ := repE_0 h
  unfold repL repB
  rw [List.length_append, List.length_append, nb_len, nb_len]
  split
  · rename_i hr
    split
    · rw [List.length_append, nb_len, nb_len]; omega
    · split
      · rename_i hk; have := h2 hr hk; rw [List.length_append, List.length_append, nb_len, nb_len, bl_len]; omega
      · split
        · rw [nb_len]; omega
        · split
          · rw [nb_len]; omega
          · split
            · rw [nb_len]; omega
            · split
              · rw [List.length_append, nb_len, nb_len]; omega
              · simp
  · simp
theorem size_bs (l : List Nat) : (bs l).size = l.length := by unfold bs; simp [ByteArray.size]
theorem askS_size (r : Rq) : (askS r).size ≤ 9223372036854775807 := by
  unfold askS
  split
  · rename_i h; rw [size_bs]; have := askL_len h; omega
  · decide
theorem repS_size (r : Rp) : (repS r).size ≤ 9223372036854775807 := by
  unfold repS
  split
  · rename_i h; rw [size_bs]; have := repL_len h; omega
  · decide
theorem nrm_nrm (r : Rq) : nrm (nrm r) = nrm r := by
  unfold nrm
  dsimp only
  by_cases h1 : r.k = 1
  · simp [h1]
  · by_cases h2 : r.k = 2
    · simp [h2]
    · by_cases h3 : r.k = 3
      · simp [h3]
      · by_cases h5 : r.k = 5
        · simp [h5]
        · simp [h1, h2, h3, h5]
theorem nrmP_nrmP (r : Rp) : nrmP (nrmP r) = nrmP r := by
  unfold nrmP
  dsimp only
  simp only [Rp.mk.injEq, true_and]
  refine ⟨?_, ?_, ?_, ?_⟩ <;> (split <;> rfl)
theorem Gq_nrm {r : Rq} (h : askE r = 0) (ho : I64 r.o) (ht : I64 r.t) (hm : I64 r.m) : Gq (nrm r) := by
  refine ⟨by rw [askE_nrm]; exact h, nrm_nrm r, ?_, ?_, ?_⟩ <;> (unfold nrm; dsimp only; split)
  · exact ho
  · exact I64_0
  · exact ht
  · exact I64_0
  · exact hm
  · exact I64_0
theorem Gp_nrm {r : Rp} (h : repE r = 0) (ho : I64 r.o) (hn : I64 r.n) : Gp (nrmP r) := by
  refine ⟨by rw [repE_nrm]; exact h, nrmP_nrmP r, ?_, ?_⟩ <;> (unfold nrmP; dsimp only; split)
  · exact ho
  · exact I64_0
  · exact hn
  · exact I64_0
theorem ra_ask {r : Rq} (h : askE r = 0) (ho : I64 r.o) (ht : I64 r.t) (hm : I64 r.m) : raQ (askS r) = (nrm r, 0) := by
  have e : askS r = bs (askL r) := by unfold askS; rw [if_pos h]
  have h2 : bl (askS r) = askL (nrm r) ++ [] := by rw [e, bl_bs _ (askL_byte r), askL_nrm, List.append_nil]
  rw [raQ_of (Gq_nrm h ho ht hm) h2]; rfl
theorem ra_rep {r : Rp} (h : repE r = 0) (ho : I64 r.o) (hn : I64 r.n) : rrQ (repS r) = (nrmP r, 0) := by
  have e : repS r = bs (repL r) := by unfold repS; rw [if_pos h]
  have h2 : bl (repS r) = repL (nrmP r) ++ [] := by rw [e, bl_bs _ (repL_byte r), repL_nrm, List.append_nil]
  rw [rrQ_of (Gp_nrm h ho hn) h2]; rfl
theorem asV_nrm (r : Rq) : asV (nrm r) = asV r := by
  unfold asV askS
  rw [askE_nrm, askL_nrm]
theorem rsV_nrm (r : Rp) : rsV (nrmP r) = rsV r := by
  unfold rsV repS
  rw [repE_nrm, repL_nrm]
end Go.Proofs.Ytgdaaohlongmlaa
