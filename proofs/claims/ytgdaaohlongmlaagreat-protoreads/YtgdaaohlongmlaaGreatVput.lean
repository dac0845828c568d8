/- What layer 1's Put and PutSigned lay down, of the program and of the document's answer: the forms of the values; nothing that was there before is turned. -/
import Derived.Test.YtgdaaohlongmlaaGreatVread
import Derived.Lib.BufferRead
namespace Go.Proofs.YtgdaaohlongmlaaGreat
open Go.RowKit
theorem Tryz.info5 : (Tryz.prog.info? 5).map (fun i => (i.zero, i.size, i.bytes)) = some (some (.int .u8 0), 1, 1) := by kernel_rfl
theorem Tryz.underBytes : Tryz.prog.underlying 52 = some (.slice 5) := by kernel_rfl
/-- Bytes as cells. -/
def bc (l : List Nat) : List Value := l.map fun b : Nat => Value.int .u8 (b : Int)
theorem bc_len (l : List Nat) : (bc l).length = l.length := by simp [bc]
theorem bc_app (l m : List Nat) : bc (l ++ m) = bc l ++ bc m := by simp [bc]
theorem one_cell (b : Int) : ∀ u ∈ [Value.int .u8 b], u.oneCell' = true := by intro u hu; simp at hu; subst hu; rfl
theorem bel_step {base n size : Nat} {e : TypeId} {w wr w1 : World} {o : Value} {l : List Value} {obj : Obj} (hbel : Below base w wr) (hown : wr.ownsRow base e size o n l) (hb : base ≤ wr.heap.size) (hg : (wr.alloc obj).grownBy w1 o.ownBlock) : Below base w w1 :=
  (hbel.alloc hb obj).grown hg (by simp; omega) (fun k hk => (hown.lt k hk).1)
theorem own_snoc {base n : Nat} {w1 : World} {v' : Value} {l : List Nat} {b : Nat} (hn : l.length = n) (h : w1.ownsRow base 5 1 v' (n + 1) (bc l ++ [.int .u8 (b : Int)])) : w1.ownsRow base 5 1 v' (l ++ [b]).length (bc (l ++ [b])) := by
  have e : (l ++ [b]).length = n + 1 := by simp [hn]
  rw [bc_app, e]; exact h
theorem or_byte (x : Nat) : bits BinOp.or IntKind.u8 ((x : Int) % 256) 128 = ((x % 128 + 128 : Nat) : Int) := by
  rw [u8_or _ _ (by omega) (by omega) (by omega) (by omega)]
  have e1 : ((x : Int) % 256).toNat = x % 256 := by omega
  have e2 : (128 : Int).toNat = 128 := rfl
  rw [e1, e2]
  congr 1
  have h := nat_join 7 128 (x % 128) (by decide) (by omega)
  have h2 : x % 256 = x % 128 ∨ x % 256 = 128 + x % 128 := by omega
  rcases h2 with h2 | h2
  · rw [h2, Nat.or_comm, h]; omega
  · rw [h2, ← h, Nat.or_comm, ← Nat.or_assoc, Nat.or_self, h]; omega
theorem Tryz.under9 : Tryz.prog.underlying 9 = some .string := by kernel_rfl
theorem Tryz.under5 : Tryz.prog.underlying 5 = some (.int .u8) := by kernel_rfl
/-- Bytes as a text. -/
def bs (l : List Nat) : ByteArray := ⟨(l.map UInt8.ofNat).toArray⟩
theorem bs_size (l : List Nat) : (bs l).size = l.length := by show (l.map UInt8.ofNat).toArray.size = _; simp
/-- 'string(b)' of a row that the call itself made. -/
theorem conv_own {w : World} {base n : Nat} {v : Value} {l : List Nat} (hb : ∀ b ∈ l, b < 256) (hown : w.ownsRow base 5 1 v n (bc l)) : (convert 52 9 v).run Tryz.prog w = .ok (.string (bs l)) w := by
  have hcell := fun (g : Nat) (hg : v.ownBlock = some g) => hown.cells hg
  obtain ⟨hl, h⟩ := hown
  rw [bc_len, Nat.mul_one] at hl
  rcases h with ⟨rfl, h0⟩ | ⟨g, cap, cur, rfl, hg, hh, h1, h2, h3, h4⟩
  · have : l = [] := List.eq_nil_of_length_eq_zero (by omega)
    subst this
    exact Lib.run_convert_nil_bytes w 52 9 5 0 Tryz.underBytes Tryz.under5 Tryz.under9
  · have hc := run_convert_bytes_back (P := Tryz.prog) w 52 9 5 ⟨g, 0, none⟩ cap (l.map UInt8.ofNat) Tryz.underBytes Tryz.under5 Tryz.under9 (fun j hj => by
      have hj' : j < l.length := by simpa using hj
      have hv : ((l.map UInt8.ofNat)[j].toNat : Int) = (l[j] : Int) := by
        have := hb l[j] (List.getElem_mem hj')
        simp; omega
      rw [hv]
      exact hcell g rfl j _ (by simp [bc, hj']))
    rw [List.length_map, hl] at hc
    exact hc
/-- The numbers of a slice, where they lie. -/
def Vals (k : IntKind) (w : World) (a : Option Addr) (zs : List Int) : Prop := zs = [] ∨ ∃ b off, a = some ⟨b, off, none⟩ ∧ b < w.heap.size ∧ ∀ j, j < zs.length → w.cell? ⟨b, off + j, none⟩ = some (.int k (zs.getD j 0))
/-- The forms of numbers, one behind the other. -/
def forms (zs : List Int) : List Nat := zs.flatMap fun z => M.form z.toNat
theorem forms_byte {zs : List Int} (h : ∀ z ∈ zs, 0 ≤ z ∧ z ≤ 18446744073709551615) : ∀ b ∈ forms zs, b < 256 := by
  intro b hb
  simp only [forms, List.mem_flatMap] at hb
  obtain ⟨z, hz, hb⟩ := hb
  have := h z hz
  exact M.form_byte (by omega) b hb
theorem forms_snoc (zs : List Int) (k : Nat) (h : k < zs.length) : forms (zs.take (k + 1)) = forms (zs.take k) ++ M.form (zs.getD k 0).toNat := by
  have e : zs.getD k 0 = zs[k] := by simp [List.getD_eq_getElem?_getD, h]
  unfold forms
  rw [List.take_succ_eq_append_getElem h, List.flatMap_append, e]
  simp
theorem forms_le (zs : List Int) (k : Nat) : (forms (zs.take k)).length ≤ (forms zs).length := by
  conv => rhs; rw [← List.take_append_drop k zs]
  simp only [forms, List.flatMap_append, List.length_append]; omega
theorem getD_mem {zs : List Int} {k : Nat} (h : k < zs.length) : zs.getD k 0 ∈ zs := by
  simp [List.getD_eq_getElem?_getD, h]
/-- The zigzags of numbers. -/
def zzs (zs : List Int) : List Int := zs.map M.zz
theorem zzs_take (zs : List Int) (k : Nat) : zzs (zs.take k) = (zzs zs).take k := by simp [zzs, List.map_take]
theorem zzs_getD {zs : List Int} {k : Nat} (h : k < zs.length) : (zzs zs).getD k 0 = M.zz (zs.getD k 0) := by simp [zzs, List.getD_eq_getElem?_getD, h]
theorem zzs_len (zs : List Int) : (zzs zs).length = zs.length := by simp [zzs]
theorem zzs_bd {zs : List Int} (h : ∀ z ∈ zs, -9223372036854775808 ≤ z ∧ z ≤ 9223372036854775807) : ∀ z ∈ zzs zs, 0 ≤ z ∧ z ≤ 18446744073709551615 := by
  intro z hz
  simp only [zzs, List.mem_map] at hz
  obtain ⟨y, hy, rfl⟩ := hz
  exact M.zz_bd (h y hy).1 (h y hy).2
theorem vals_one (k : IntKind) (z : Int) (T : TypeId) (w : World) : Vals k (w.alloc (.cells #[.int k z] T)) (some ⟨w.heap.size, 0, none⟩) [z] :=
  Or.inr ⟨w.heap.size, 0, rfl, by simp, fun j hj => by
    match j, hj with
    | 0, _ => simp⟩
theorem forms_one (z : Int) : forms [z] = M.form z.toNat := by simp [forms]
theorem since_alloc {w0 w w' : World} {o : Obj} (hb : Below w0.heap.size w0 w) (h : Below (w.alloc o).heap.size (w.alloc o) w') : Below w0.heap.size w0 w' := by
  have hs := hb.size
  exact (hb.alloc hs o).trans (h.mono (by simp; omega))
end Go.Proofs.YtgdaaohlongmlaaGreat
