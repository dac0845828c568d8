/- Entries' bytes: plain facts. -/
import Derived.Test.YtmhmohkeekmmgaaWm
import Derived.Test.YtmhmohkeekmmgaaTxd
import Derived.Test.YtmhmohkeekmmgaaRmB
namespace Go.Proofs.Ytmhmohkeekmmgaa
open Go.RowKit
theorem bl_ext (s : ByteArray) (a b : Nat) : bl (s.extract a b) = ((bl s).drop a).take (b - a) := by
  simp only [bl, ByteArray.data_extract, Array.toList_extract, List.map_drop, List.map_take, List.extract]
theorem nb_be : ∀ (n : Nat) (l : List Nat), l.length = n → (∀ b ∈ l, b < 256) → nb n (be l) = l
  | 0, l, h, _ => by rw [List.eq_nil_of_length_eq_zero h]; rfl
  | n + 1, l, h, hb => by
    obtain ⟨r, b, rfl⟩ : ∃ r b, l = r ++ [b] := by
      rcases List.eq_nil_or_concat l with rfl | ⟨r, b, rfl⟩
      · cases h
      · exact ⟨r, b, by simp⟩
    have h1 : b < 256 := hb b (by simp)
    rw [be_snoc, nb, show (be r * 256 + b) / 256 = be r from by omega, show (be r * 256 + b) % 256 = b from by omega, nb_be n r (by simpa using h) (fun x hx => hb x (by simp [hx]))]
theorem be_nb : ∀ (n v : Nat), v < 256 ^ n → be (nb n v) = v
  | 0, v, h => by have : v = 0 := by simpa using h
                  subst this; rfl
  | n + 1, v, h => by
    rw [nb, be_snoc, be_nb n (v / 256) (by rw [Nat.pow_succ] at h; omega)]
    omega
/-- A number's eight bytes. -/
def n8 (v : Int) : List Nat := nb 8 (v % 18446744073709551616).toNat
theorem n8_len (v : Int) : (n8 v).length = 8 := nb_len _ _
theorem n8_byte (v : Int) : ∀ b ∈ n8 v, b < 256 := nb_byte _ _
def eb (e : En) : List Nat := n8 e.k ++ n8 e.a
theorem eb_len (e : En) : (eb e).length = 16 := by unfold eb; rw [List.length_append, n8_len, n8_len]
def eby (l : List En) : List Nat := l.flatMap eb
theorem eby_len (l : List En) : (eby l).length = l.length * 16 := by
  induction l with
  | nil => rfl
  | cons r rs ih => simp only [eby, List.flatMap_cons, List.length_append] at *; rw [ih, eb_len]; simp; omega
theorem eby_app (a b : List En) : eby (a ++ b) = eby a ++ eby b := by simp [eby]
theorem eby_snoc (a : List En) (e : En) : eby (a ++ [e]) = eby a ++ eb e := by simp [eby]
theorem eby_byte (l : List En) : ∀ b ∈ eby l, b < 256 := by
  intro b hb
  obtain ⟨e, _, he⟩ := List.mem_flatMap.1 hb
  rcases List.mem_append.1 he with h | h
  · exact n8_byte _ b h
  · exact n8_byte _ b h
theorem eby_take (l : List En) : ∀ n, (eby l).take (n * 16) = eby (l.take n) := by
  induction l with
  | nil => intro n; simp [eby]
  | cons r rs ih =>
    intro n
    cases n with
    | zero => rfl
    | succ n =>
      have : eby (r :: rs) = eb r ++ eby rs := by simp [eby]
      rw [this, List.take_append, eb_len, List.take_of_length_le (by rw [eb_len]; omega), show (n + 1) * 16 - 16 = n * 16 from by omega, ih n, List.take_succ_cons]
      simp [eby]
/-- The number of eight bytes. -/
def b8 (l : List Nat) : Int := wrap64 (be l : Int)
theorem b8_n8 (v : Int) (h1 : -9223372036854775808 ≤ v) (h2 : v ≤ 9223372036854775807) : b8 (n8 v) = v := by
  unfold b8 n8
  rw [be_nb 8 _ (by have : (256 : Nat) ^ 8 = 18446744073709551616 := by decide
                    omega)]
  unfold wrap64
  omega
theorem n8_b8 (l : List Nat) (h : l.length = 8) (hb : ∀ b ∈ l, b < 256) : n8 (b8 l) = l := by
  have h1 := be_lt l hb
  rw [h] at h1
  have h2 : (256 : Nat) ^ 8 = 18446744073709551616 := by decide
  unfold n8 b8
  have e : (wrap64 (be l : Int) % 18446744073709551616).toNat = be l := by
    unfold wrap64
    omega
  rw [e]
  exact nb_be 8 l h hb
/-- The entry that stands at a place, and all. -/
def enB (l : List Nat) (k : Nat) : En := ⟨b8 ((l.drop k).take 8), b8 ((l.drop (k + 8)).take 8)⟩
def rdE (l : List Nat) : List En := (List.range (l.length / 16)).map (fun j => enB l (j * 16))
theorem rdE_len (l : List Nat) : (rdE l).length = l.length / 16 := by simp [rdE]
theorem rdE_at (l : List Nat) {j : Nat} (h : j < l.length / 16) : (rdE l).getD j en0 = enB l (j * 16) := by
  unfold rdE
  rw [List.getD_eq_getElem?_getD, List.getElem?_map, List.getElem?_range h]
  rfl
theorem rdE_cons (h t : List Nat) (hh : h.length = 16) : rdE (h ++ t) = enB h 0 :: rdE t := by
  unfold rdE
  rw [List.length_append, hh, show (16 + t.length) / 16 = t.length / 16 + 1 from by omega, List.range_succ_eq_map, List.map_cons, List.map_map]
  congr 1
  · unfold enB
    simp only [Nat.zero_mul, Nat.zero_add, List.drop_zero]
    rw [List.take_append_of_le_length (by omega), List.drop_append_of_le_length (by omega), List.take_append_of_le_length (by rw [List.length_drop]; omega)]
  · apply List.map_congr_left
    intro j _
    unfold enB
    simp only [Function.comp]
    have e : ∀ m, (h ++ t).drop (16 + m) = t.drop m := fun m => by rw [← List.drop_drop, List.drop_left' hh]
    rw [show (j + 1) * 16 = 16 + j * 16 from by omega, show 16 + j * 16 + 8 = 16 + (j * 16 + 8) from by omega, e, e]
theorem enB_eb (e : En) (h : -9223372036854775808 ≤ e.k ∧ e.k ≤ 9223372036854775807) (h' : -9223372036854775808 ≤ e.a ∧ e.a ≤ 9223372036854775807) : enB (eb e) 0 = e := by
  obtain ⟨k, a⟩ := e
  unfold enB eb
  simp only [List.drop_zero, Nat.zero_add]
  rw [List.take_left' (n8_len _), List.drop_left' (n8_len _), List.take_of_length_le (by rw [n8_len]; omega), b8_n8 k h.1 h.2, b8_n8 a h'.1 h'.2]
theorem eb_enB (l : List Nat) (h : l.length = 16) (hb : ∀ b ∈ l, b < 256) : eb (enB l 0) = l := by
  unfold eb enB
  simp only [List.drop_zero, Nat.zero_add]
  rw [n8_b8 _ (by rw [List.length_take]; omega) (fun b hx => hb b (List.mem_of_mem_take hx)), n8_b8 _ (by rw [List.length_take, List.length_drop]; omega) (fun b hx => hb b (List.mem_of_mem_drop (List.mem_of_mem_take hx))), show (l.drop 8).take 8 = l.drop 8 from List.take_of_length_le (by rw [List.length_drop]; omega), List.take_append_drop]
theorem rdE_eby (l : List En) (h : ∀ e ∈ l, (-9223372036854775808 ≤ e.k ∧ e.k ≤ 9223372036854775807) ∧ (-9223372036854775808 ≤ e.a ∧ e.a ≤ 9223372036854775807)) : rdE (eby l) = l := by
  induction l with
  | nil => rfl
  | cons e r ih =>
    have : eby (e :: r) = eb e ++ eby r := by simp [eby]
    rw [this, rdE_cons _ _ (eb_len e), ih (fun x hx => h x (by simp [hx])), enB_eb e (h e (by simp)).1 (h e (by simp)).2]
theorem eby_rdE : ∀ (n : Nat) (l : List Nat), l.length = n * 16 → (∀ b ∈ l, b < 256) → eby (rdE l) = l
  | 0, l, h, _ => by
    obtain rfl : l = [] := List.eq_nil_of_length_eq_zero (by omega)
    rfl
  | n + 1, l, h, hb => by
    obtain ⟨a, b, rfl, ha⟩ : ∃ a b, l = a ++ b ∧ a.length = 16 := ⟨l.take 16, l.drop 16, (List.take_append_drop _ _).symm, by rw [List.length_take]; omega⟩
    rw [rdE_cons _ _ ha]
    have : ∀ e r, eby (e :: r) = eb e ++ eby r := fun e r => by simp [eby]
    rw [this, eb_enB a ha (fun x hx => hb x (by simp [hx])), eby_rdE n b (by rw [List.length_append] at h; omega) (fun x hx => hb x (by simp [hx]))]
theorem bs_inj {a b : List Nat} (ha : ∀ x ∈ a, x < 256) (hb : ∀ x ∈ b, x < 256) (h : bs a = bs b) : a = b := by
  rw [← bl_bs a ha, ← bl_bs b hb, h]
end Go.Proofs.Ytmhmohkeekmmgaa
