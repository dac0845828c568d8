/- CrcDigests' walk: every call of a digest, in every order; nothing that was there before is turned. -/
import Derived.Test.YtohpjbhjcgihkaaDig2
import Derived.Deep.RegionHeld3
namespace Go.Proofs.Ytohpjbhjcgihkaa
open Go.RowKit
theorem hid {p : Prop} (h : p) : Hid p := h
/-- The calls of a script, where they lie. -/
def Opsl (w : World) (a : Option Addr) (os : List (Int × ByteArray)) : Prop := os = [] ∨ ∃ b off, a = some ⟨b, off, none⟩ ∧ b < w.heap.size ∧ ∀ j, j < os.length → w.cell? ⟨b, off + j * 2, none⟩ = some (.int .i64 (os.getD j (0, ByteArray.empty)).1) ∧ w.cell? ⟨b, off + j * 2 + 1, none⟩ = some (.string (os.getD j (0, ByteArray.empty)).2)
def tot (os : List (Int × ByteArray)) : Nat := (os.map fun o => o.2.size).sum
theorem tot_take {os : List (Int × ByteArray)} {j : Nat} (h : j < os.length) : tot (os.take (j + 1)) = tot (os.take j) + (os.getD j (0, ByteArray.empty)).2.size := by
  unfold tot
  rw [List.take_add_one, List.getElem?_eq_getElem h, List.map_append, List.sum_append]
  simp only [Option.toList, List.map_cons, List.map_nil, List.sum_cons, List.sum_nil, Nat.add_zero]
  rw [List.getD_eq_getElem?_getD, List.getElem?_eq_getElem h]
  rfl
theorem tot_le (os : List (Int × ByteArray)) (j : Nat) : tot (os.take j) ≤ tot os := by
  have h : tot os = tot (os.take j) + tot (os.drop j) := by
    unfold tot
    conv => lhs; rw [← List.take_append_drop j os]
    rw [List.map_append, List.sum_append]
  omega
theorem app_data (a b : ByteArray) : (a ++ b).data.toList = a.data.toList ++ b.data.toList := by simp
/-- The state behind so many calls: the digest, the bytes, the call's own copy. -/
structure St (w : World) (b : Nat) (t : ByteArray) (x : World) : Prop where
  dg : Dg x b (M.more 0 t.data.toList) t.size
  at0 : w.heap.size ≤ b
  bel : Below w.heap.size w x
theorem St.alloc {w : World} {b : Nat} {t : ByteArray} {x : World} (h : St w b t x) (o : Obj) : St w b t (x.alloc o) := ⟨heap_alloc_at h.dg, h.at0, h.bel.alloc h.bel.size o⟩
theorem St.drew {w : World} {b : Nat} {t : ByteArray} {x : World} (h : St w b t x) : St w b t x.drew := ⟨h.dg, h.at0, h.bel.drew⟩
/-- The call's own copy of an element. -/
def Oq (o : Nat) (K : Int) (S : ByteArray) (x : World) : Prop := x.heap[o]? = some (.cells #[.int .i64 K, .string S] 40 (0, 0))
theorem Oq.c0 {o : Nat} {K : Int} {S : ByteArray} {x : World} (h : Oq o K S x) : x.cell? ⟨o, 0, none⟩ = some (.int .i64 K) := (cell_of h).trans rfl
theorem Oq.c1 {o : Nat} {K : Int} {S : ByteArray} {x : World} (h : Oq o K S x) : x.cell? ⟨o, 1, none⟩ = some (.string S) := (cell_of h).trans rfl
theorem Oq.ch {o b : Nat} {K : Int} {S : ByteArray} {x y : World} (h : Oq o K S x) (hc : Ch (fun i => i = b) x y) (hn : o ≠ b) : Oq o K S y := (hc.block o (lt_of_heap h) hn).trans h
theorem Oq.below {o : Nat} {K : Int} {S : ByteArray} {x y : World} (h : Oq o K S x) (hc : Below x.heap.size x y) : Oq o K S y := (hc.block o (lt_of_heap h)).trans h
/-- Behind a write. -/
theorem St.write {w : World} {b : Nat} {t S : ByteArray} {x y : World} (h : St w b t x) (hD : Dg y b (M.more (M.more 0 t.data.toList) S.data.toList) (t.size + S.size)) (hc : Ch (fun i => i = b) x y) : St w b (t ++ S) y := by
  refine ⟨?_, h.at0, ch_bel h.bel hc h.bel.size (fun i hi e => by have := h.at0; omega)⟩
  rw [M.more_more, ← app_data] at hD
  have e : (t ++ S).size = t.size + S.size := by simp
  rw [e]; exact hD
def Eight (o : Nat) (K : Int) (S : ByteArray) (x : World) : Prop := x.cell? ⟨o, 1, none⟩ = some (.string S) ∧ Oq o K S x
theorem Oq.eight {o : Nat} {K : Int} {S : ByteArray} {x : World} (h : Oq o K S x) : x.cell? ⟨o, 1, none⟩ = some (.string S) ∧ Oq o K S x := ⟨h.c1, h⟩
theorem Oq.drew {o : Nat} {K : Int} {S : ByteArray} {x : World} (h : Oq o K S x) : Oq o K S x.drew := h
structure Sn (w : World) (b : Nat) (t : ByteArray) (x : World) : Prop where
  st : St w b t x
  sz : t.size ≤ 9223372036854775807
theorem seenG {w : World} (b : Nat) (t : ByteArray) (x : World) (h : Sn w b t x) : Calls Try.prog 26 #[.pointer (some ⟨b, 0, none⟩), .string t] x fun e w' => e = .returned (.bool true) ∧ w' = x := seen_any b t x h.sz h.st.dg
theorem St.reset {w : World} {b : Nat} {t : ByteArray} {x y : World} (h : St w b t x) (hD : Dg y b 0 0) (hc : Ch (fun i => i = b) x y) : St w b ⟨#[]⟩ y :=
  ⟨hD, h.at0, ch_bel h.bel hc h.bel.size (fun i hi e => by have := h.at0; omega)⟩
theorem St.next {w : World} {b : Nat} {t : ByteArray} {x y : World} (h : St w b t x) (k : Below x.heap.size x y) : St w b t y := ⟨h.dg.below k h.dg.lt, h.at0, bel_bel h.bel k h.bel.size⟩
theorem St.other {w : World} {b c : Nat} {t : ByteArray} {x y : World} (h : St w c t x) (hc : Ch (fun i => i = b) x y) (hn : c ≠ b) (hb : w.heap.size ≤ b) : St w c t y :=
  ⟨h.dg.ch hc hn, h.at0, ch_bel h.bel hc h.bel.size (fun i hi e => by omega)⟩
end Go.Proofs.Ytohpjbhjcgihkaa
