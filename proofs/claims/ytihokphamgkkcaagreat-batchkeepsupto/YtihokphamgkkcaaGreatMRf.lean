/- Texts of the proof, put together: Cpd, Rfa, Rfb. -/
import Derived.Test.YtihokphamgkkcaaGreatMR
import Derived.Laws.AppendOwnNone
import Derived.Deep.RegionLaw
import Derived.Deep.AppendLies
import Derived.Deep.DeepAppendRoom
import Derived.Lib.AppendZerosOnto
namespace Go.Proofs.YtihokphamgkkcaaGreat
open Go.RowKit
theorem wpList_copy_hds {w : World} {ops : Array Oper} {rest : List Oper} {o : Oper} {a : Act} {Q : Exit → Act → World → Prop} (hgd : o.guard = none) (s x : Operand)
    (ho : o.op = .call { callee := .builtin .append, args := #[s, x], argTypes := #[47, 47] })
    (B : Nat) (v : Value) (hs : a.eval s = v) (hown : w.ownsRow B 51 3 v 0 []) (hB : B ≤ w.heap.size)
    (ao : Option Addr) (rs : List Hdr) (c : Nat) (hx : a.eval x = .slice ao rs.length c) (hv : Hds w ao rs) (hnil : ao = none → c = 0) (h63 : rs.length ≤ 100000000000)
    (h : ∀ v' w', OwnH w' B v' rs → w.grownBy w' v.ownBlock → wpList Tryz.prog ops Q rest (a.put o.dst v') w') : wpList Tryz.prog ops Q (o :: rest) a w := by
  obtain ⟨i0, hi, hz0, hz1, hz2⟩ := info_parts Tryz.infoHdr
  cases ao with
  | none =>
    have h0 : rs = [] := by
      rcases hv with h | ⟨_, _, e1, _⟩
      · exact h
      · cases e1
    subst h0
    have hc := hnil rfl
    subst hc
    refine wpList_append_own_none hgd s x _ ho B 51 i0 3 Tryz.underHdrs hi v 0 [] hs hown hx ?_
    exact h v w hown ⟨rfl, rfl, rfl, Nat.le_refl _, fun _ _ _ => rfl⟩
  | some ad =>
    refine wpList_append_own w hgd s x _ ho B 51 i0 (.agg #[.string ⟨#[]⟩, .bool false, .string ⟨#[]⟩]) 3 40 Tryz.underHdrs hi hz0 hz1 hz2 rfl (by decide) v 0 [] hs hown ad rs.length c (hcs rs) hx (hcs_len rs) ?_ (hcs_one rs) (by unfold maxLen; omega) (by omega) hB ?_
    · clear h63
      intro j u hj
      rcases hv with h0 | ⟨b, off, e1, hlt, hc⟩
      · rw [h0] at hj; simp [hcs] at hj
      · obtain rfl : ad = ⟨b, off, none⟩ := Option.some.inj e1
        have hj2 : j < rs.length * 3 := by have := (List.getElem?_eq_some_iff.1 hj).1; rw [hcs_len] at this; exact this
        have hr := hcs_at rs (j / 3) (by omega)
        obtain ⟨c0, c1, c2⟩ := hc (j / 3) (by omega)
        rw [Go.WideShapes.add_plain]
        have h3 : j % 3 = 0 ∨ j % 3 = 1 ∨ j % 3 = 2 := by omega
        rcases h3 with h3 | h3 | h3
        · have ej : j = j / 3 * 3 := by omega
          rw [← ej] at c0 hr
          rw [c0, ← hr.1]
          exact hj
        · have ej : j = j / 3 * 3 + 1 := by omega
          have ea : off + j = off + j / 3 * 3 + 1 := by omega
          rw [ea, c1, ← hr.2.1, ← ej]
          exact hj
        · have ej : j = j / 3 * 3 + 2 := by omega
          have ea : off + j = off + j / 3 * 3 + 2 := by omega
          rw [ea, c2, ← hr.2.2, ← ej]
          exact hj
    · intro v' w' hown' hgrow _
      rw [Nat.zero_add, List.nil_append] at hown'
      exact h v' w' hown' hgrow
end Go.Proofs.YtihokphamgkkcaaGreat
namespace Go.Proofs.YtihokphamgkkcaaGreat
open Go.RowKit
theorem append_two {P : Program} (w : World) (t ty : TypeId) (base : Nat) (e : TypeId) (i : TypeInfo) (z : Value) (size bytes : Nat) (ht : P.underlying t = some (.slice e)) (hi : P.info? e = some i) (hz : i.zero = some z)
    (hsize : i.size = size) (hby : i.bytes = bytes) (hzs : z.cells.size = size) (hsz : 0 < size)
    (v : Value) (n : Nat) (xs : List Value) (hown : w.ownsRow base e size v n xs)
    (ad : Addr) (m c : Nat) (news : List Value) (hl : news.length = m * size) (hnews : ∀ j u, news[j]? = some u → w.cell? (ad.add j) = some u) (h1 : ∀ u ∈ news, u.oneCell' = true)
    (hm : 0 < m) (h63 : n + m ≤ maxLen) (hbytes : (n + m) * bytes ≤ 140737488355328) (hbase : base ≤ w.heap.size) :
    ∃ g cap w', (Builtin.append_ #[t, t] ty #[v, .slice (some ad) m c]).run P w = .ok (.slice (some ⟨g, 0, none⟩) (n + m) cap) w' ∧
      w'.ownsRow base e size (.slice (some ⟨g, 0, none⟩) (n + m) cap) (n + m) (xs ++ news) ∧ ((v = .slice (some ⟨g, 0, none⟩) n cap ∧ w.grownBy w' (some g)) ∨ (g = w.heap.size ∧ Below w.heap.size w w')) := by
  obtain ⟨g, cap, w', hr, h2, h3, h4, h5⟩ := run_append_lies (P := P) w t ty base e i z size bytes ht hi hz hsize hby hzs hsz v n xs hown ad m c news hl hnews h1 hm h63 hbytes hbase _ rfl
  have hsmall : n + m ≤ 9223372036854775807 := by simp only [maxLen] at h63; omega
  have hbel : ∀ o : Obj, Below w.heap.size w (w.drew.alloc o) := fun o => (show Below w.heap.size w w.drew from ⟨rfl, rfl, rfl, Nat.le_refl _, fun _ _ => rfl⟩).alloc (Nat.le_refl _) o
  rcases hown.2 with ⟨rfl, rfl⟩ | ⟨g0, cap0, cur, rfl, hbg, hg, hnc, hcm, hcs, htake⟩
  · have hr' := run_append_nil (P := P) w t ty e i z ht hi hz ad m c news (by rw [hsize]; exact hl) hnews hm (by omega) (by rw [hby]; have hb0 := hbytes; simp only [Nat.zero_add] at hb0; omega)
    have hr2 := hr
    rw [hr'] at hr2
    injection hr2 with e1 e2
    injection e1 with e1 _ _
    injection e1 with e1
    injection e1 with e1 _ _
    refine ⟨g, cap, w', hr, h2, Or.inr ⟨e1.symm, ?_⟩⟩
    rw [← e2]
    exact hbel _
  · by_cases hroom : n + m ≤ cap0
    · obtain ⟨w2, hr', k2, k3⟩ := run_append_own_spare (P := P) w base t ty e i size ht hi hsize g0 n cap0 xs hown ad m c news hl hnews h1 hroom
      exact ⟨g0, cap0, w2, hr', k2, Or.inl ⟨rfl, k3⟩⟩
    · have holds : ∀ j u, xs[j]? = some u → w.cell? ((⟨g0, 0, none⟩ : Addr).add j) = some u := hown.cells (g := g0) rfl
      have hr' := run_append_grow (P := P) w t ty e i z ht hi hz ⟨g0, 0, none⟩ n cap0 xs (by rw [hsize]; exact hown.1) holds ad m c news (by rw [hsize]; exact hl) hnews (by omega) (by omega) (by rw [hby]; exact growslice_fits (by omega) hbytes)
      have hr2 := hr
      rw [hr'] at hr2
      injection hr2 with e1 e2
      injection e1 with e1 _ _
      injection e1 with e1
      injection e1 with e1 _ _
      refine ⟨g, cap, w', hr, h2, Or.inr ⟨e1.symm, ?_⟩⟩
      rw [← e2]
      exact hbel _
theorem wpList_append_two {P : Program} (w : World) {ops : Array Oper} {rest : List Oper} {o : Oper} {a : Act} {Q : Exit → Act → World → Prop} (hgd : o.guard = none) (s x : Operand) (t : TypeId)
    (ho : o.op = .call { callee := .builtin .append, args := #[s, x], argTypes := #[t, t] })
    (base : Nat) (e : TypeId) (i : TypeInfo) (z : Value) (size bytes : Nat) (ht : P.underlying t = some (.slice e)) (hi : P.info? e = some i) (hz : i.zero = some z)
    (hsize : i.size = size) (hby : i.bytes = bytes) (hzs : z.cells.size = size) (hsz : 0 < size)
    (v : Value) (n : Nat) (xs : List Value) (hs : a.eval s = v) (hown : w.ownsRow base e size v n xs)
    (ad : Addr) (m c : Nat) (news : List Value) (hx : a.eval x = .slice (some ad) m c) (hl : news.length = m * size) (hnews : ∀ j u, news[j]? = some u → w.cell? (ad.add j) = some u) (h1 : ∀ u ∈ news, u.oneCell' = true)
    (hm : 0 < m) (h63 : n + m ≤ maxLen) (hbytes : (n + m) * bytes ≤ 140737488355328) (hbase : base ≤ w.heap.size)
    (h : ∀ g cap w', w'.ownsRow base e size (.slice (some ⟨g, 0, none⟩) (n + m) cap) (n + m) (xs ++ news) → ((v = .slice (some ⟨g, 0, none⟩) n cap ∧ w.grownBy w' (some g)) ∨ (g = w.heap.size ∧ Below w.heap.size w w')) → wpList P ops Q rest (a.put o.dst (.slice (some ⟨g, 0, none⟩) (n + m) cap)) w') : wpList P ops Q (o :: rest) a w := by
  refine wpList_plain hgd fun K hK => ?_
  obtain ⟨g, cap, w', hr, h2, h3⟩ := append_two (P := P) w t o.type base e i z size bytes ht hi hz hsize hby hzs hsz v n xs hown ad m c news hl hnews h1 hm h63 hbytes hbase
  unfold Oper.wp execOp
  simp only [ho, resolve, invoke, builtin, Sem.run_bind, Sem.run_pure, Result.andThen_ok, List.map_toArray, List.map_cons, List.map_nil, hs, hx, hr]
  exact hK _ _ (h g cap w' h2 h3)
/-- A row that grows by noughts: in its own block behind what it holds, or elsewhere. -/
theorem appendZ {P : Program} (w : World) (t tn ty : TypeId) (base : Nat) (e : TypeId) (i : TypeInfo) (z : Value) (size bytes : Nat) (ht : P.underlying t = some (.slice e)) (htn : P.underlying tn = some (.int .i64)) (hi : P.info? e = some i) (hz : i.zero = some z)
    (hsize : i.size = size) (hby : i.bytes = bytes) (hzs : z.cells.size = size) (hsz : 0 < size) (hz1 : ∀ m, ∀ u ∈ (Builtin.zeroCells z.cells m).toList, u.oneCell' = true)
    (v : Value) (n : Nat) (xs : List Value) (hown : w.ownsRow base e size v n xs) (k : Nat) (h0 : 0 < k) (h63 : n + k ≤ 1000000000000) (hb : (n + k) * bytes ≤ 140737488355328) :
    ∃ v' w', (Builtin.append_ #[t, tn] ty #[v, .int .i64 k]).run P w = .ok v' w' ∧ ((∃ g, v.ownBlock = some g ∧ w.grownBy w' (some g) ∧ w'.ownsRow base e size v n xs) ∨ Below w.heap.size w w') := by
  have hbel : ∀ o : Obj, Below w.heap.size w (w.drew.alloc o) := fun o => (show Below w.heap.size w w.drew from ⟨rfl, rfl, rfl, Nat.le_refl _, fun _ _ => rfl⟩).alloc (Nat.le_refl _) o
  have hkb : k * bytes ≤ 281474976710656 := Nat.le_trans (Nat.mul_le_mul_right bytes (Nat.le_add_left k n)) (by omega)
  rcases hown.2 with ⟨rfl, rfl⟩ | ⟨g, cap, cur, rfl, hbg, hg, hnc, hcm, hcs, htake⟩
  · exact ⟨_, _, Lib.run_append_nil_zeros w t tn ty e i z .i64 .i64 ht htn hi hz k h0 (by omega) (by omega) (by rw [hby]; exact hkb), Or.inr (hbel _)⟩
  · by_cases hroom : n + k ≤ cap
    · have hst := run_storeCells_at P g (n * size) e (Builtin.zeroCells z.cells k).toList 0 cur w hg (by
        rw [Array.length_toList, size_zeroCells, hzs, hcs, Nat.add_zero, ← Nat.add_mul]
        exact Nat.mul_le_mul_right size hroom) (hz1 k)
      simp only [Nat.add_zero] at hst
      refine ⟨.slice (some ⟨g, 0, none⟩) (n + k) cap, w.setRow g (cur.toList.take (n * size) ++ (Builtin.zeroCells z.cells k).toList ++ cur.toList.drop (n * size + (Builtin.zeroCells z.cells k).toList.length)).toArray, ?_, Or.inl ⟨g, rfl, ⟨rfl, rfl, rfl, ?_, fun j hj hs => setRow_other w g j _ (fun he => hs (by rw [he]))⟩, hown.1, Or.inr ⟨g, cap, _, rfl, hbg, setRow_heap w g cur _ e _ hg, hnc, hcm, ?_, ?_⟩⟩⟩
      · have hk : k ≠ 0 := by omega
        have hw : IntKind.i64.wrap (k : Int) = k := by rw [IntKind.wrap_i64]; omega
        have h48i : ¬ (281474976710656 < (k : Int) * (bytes : Int)) := by
          rw [← Int.natCast_mul]
          omega
        have hneg : ¬ ((k : Int) < 0) := by omega
        have hns : ¬ (k * size = 0) := Nat.mul_ne_zero hk (by omega)
        have ha : (⟨g, 0, none⟩ : Addr).add (n * size) = ⟨g, n * size, none⟩ := by rw [Go.WideShapes.add_plain, Nat.zero_add]
        simp [Builtin.append_, run_underlying ht, run_underlying htn, sizeOf, typeInfo, zeroValue, hi, hz, hsize, hby, asInt, asIntOf, hw, hneg, hns, h48i, hroom, ha, hst]

      · simp [World.setRow]
      · have hle : n * size + k * size ≤ cap * size := by rw [← Nat.add_mul]; exact Nat.mul_le_mul_right size hroom
        simp only [List.size_toArray, List.length_append, List.length_take, List.length_drop, Array.length_toList, size_zeroCells, hzs, hcs]
        omega
      · have hle : n * size ≤ cap * size := Nat.mul_le_mul_right size hnc
        have hlen : (cur.toList.take (n * size)).length = n * size := by rw [List.length_take, Array.length_toList, hcs]; omega
        simp only [List.append_assoc]
        rw [List.take_append_of_le_length (by rw [hlen]; exact Nat.le_refl _), List.take_of_length_le (by rw [hlen]; exact Nat.le_refl _)]
        exact htake
    · have hold := run_firstCells_some (P := P) w.drew i.size n ⟨g, 0, none⟩ n cap xs (by rw [hsize]; exact hown.1) (hown.cells (g := g) rfl)
      exact ⟨_, _, Lib.run_append_grow_zeros w t tn ty e i z .i64 .i64 ht htn hi hz _ n cap xs hold k h0 (by omega) (by omega) (by omega) (by rw [hby]; exact hkb) (by rw [hby]; exact growslice_fits (by omega) hb), Or.inr (hbel _)⟩
theorem own_shrink {w : World} {B n M cap g size : Nat} {e : TypeId} {xs zs : List Value} (h : w.ownsRow B e size (.slice (some ⟨g, 0, none⟩) M cap) M zs) (hn : n ≤ M) (hx : zs.take (n * size) = xs) : w.ownsRow B e size (.slice (some ⟨g, 0, none⟩) n cap) n xs := by
  obtain ⟨h1, h2⟩ := h
  have hm := Nat.mul_le_mul_right size hn
  rcases h2 with ⟨h2, _⟩ | ⟨g', cap', cur, e', hb, hh, k1, k2, k3, k4⟩
  · cases h2
  · injection e' with e1 _ e3
    injection e1 with e1
    injection e1 with e1
    subst e1 e3
    exact ⟨by rw [← hx, List.length_take, h1]; omega, Or.inr ⟨g, cap, cur, rfl, hb, hh, by omega, k2, k3, by rw [← hx, ← k4, List.take_take, Nat.min_eq_left hm]⟩⟩
theorem rcs_set_same {x : RI} : ∀ (l : List RI) (i : Nat), i < l.length → rc1 x = rc1 (l.getD i dri) → rcs (l.set i x) = rcs l
  | [], _, h, _ => by simp at h
  | r :: l, 0, _, h => by
    show rc1 x ++ rcs l = rc1 r ++ rcs l
    rw [h]; rfl
  | r :: l, i + 1, hi, h => by
    show rc1 r ++ rcs (l.set i x) = rc1 r ++ rcs l
    rw [rcs_set_same l i (by simpa using hi) (by simpa using h)]
theorem hv_set_same {x : RI} : ∀ (l : List RI) (i : Nat), i < l.length → x.hv = (l.getD i dri).hv → (l.set i x).map RI.hv = l.map RI.hv
  | [], _, h, _ => by simp at h
  | r :: l, 0, _, h => by
    show x.hv :: l.map RI.hv = r.hv :: l.map RI.hv
    rw [h]; rfl
  | r :: l, i + 1, hi, h => by
    show r.hv :: (l.set i x).map RI.hv = r.hv :: l.map RI.hv
    rw [hv_set_same l i (by simpa using hi) (by simpa using h)]
theorem hv_of {x y : RI} (h : rc1 x = rc1 y) : x.hv = y.hv := by
  have := congrArg (fun z => z[5]?) h
  exact Option.some.inj this
theorem set_self : ∀ (l : List RI) (i : Nat), l.set i (l.getD i dri) = l
  | [], _ => rfl
  | r :: l, 0 => rfl
  | r :: l, i + 1 => by
    show r :: l.set i (l.getD i dri) = r :: l
    rw [set_self l i]
theorem getD_some {l : List RI} {i : Nat} (h : i < l.length) : l[i]? = some (l.getD i dri) := by
  rw [List.getD_eq_getElem?_getD, List.getElem?_eq_getElem h, Option.getD_some]
theorem Held.apart {w : World} {B : Nat} {v : Value} {l : List RI} (h : Held w B v l) {i j g : Nat} {x y : RI} (hij : i ≠ j) (hi : l[i]? = some x) (hj : l[j]? = some y) (hx : x.hv.ownBlock = some g) : y.hv.ownBlock ≠ some g := by
  have ha := List.pairwise_iff_getElem.1 h.ap
  obtain ⟨hi', rfl⟩ := List.getElem?_eq_some_iff.1 hi
  obtain ⟨hj', rfl⟩ := List.getElem?_eq_some_iff.1 hj
  rcases Nat.lt_or_gt_of_ne hij with h1 | h1
  · exact ha i j hi' hj' h1 g hx
  · exact fun hy => ha j i hj' hi' h1 g hy hx
theorem Held.touch {w w' : World} {B : Nat} {v : Value} {l : List RI} {i g : Nat} {x : RI} (h : Held w B v l) (hi : i < l.length) (hx : (l.getD i dri).hv.ownBlock = some g) (hg : w.grownBy w' (some g)) (ho : OwnH w' B x.hv x.r.hs) (hc : rc1 x = rc1 (l.getD i dri)) : Held w' B v (l.set i x) := by
  have hh := h.hds _ (riD_mem hi)
  obtain ⟨c, hb⟩ := ownH_blk hh hx
  have hvn : v.ownBlock ≠ some g := own_ne h.row hb (by decide)
  refine ⟨?_, ?_, ?_⟩
  · rw [List.length_set, rcs_set_same l i hi hc]
    exact own_apart h.row (fun k hk => hg.block k (World.ownsRow.lt h.row k hk).2 (fun e => hvn (hk.trans e)))
  · intro y hy
    obtain ⟨j, hj⟩ := List.getElem?_of_mem hy
    rw [List.getElem?_set] at hj
    by_cases hij : i = j
    · rw [if_pos hij, if_pos hi] at hj
      injection hj with hj
      subst hj; exact ho
    · rw [if_neg hij] at hj
      have hy2 := h.hds y (List.mem_of_getElem? hj)
      have hne := h.apart hij (getD_some hi) hj hx
      exact own_apart hy2 (fun k hk => hg.block k (World.ownsRow.lt hy2 k hk).2 (fun e => hne (hk.trans e)))
  · have k : (l.map RI.hv).Pairwise (fun p q => ∀ g, p.ownBlock = some g → q.ownBlock ≠ some g) := List.pairwise_map.2 h.ap
    rw [← hv_set_same l i hi (hv_of hc)] at k
    exact List.pairwise_map.1 k
/-- Records that may be written over, beside blocks that stay. -/
structure St (w0 w4 : World) (B lo : Nat) (va : Value) (w : World) (l : List RI) : Prop where
  held : Held w B va l
  low : ∀ g, (va.ownBlock = some g ∨ ∃ x ∈ l, x.hv.ownBlock = some g) → g < lo
  kept : ∀ g, lo ≤ g → g < w4.heap.size → w.heap[g]? = w4.heap[g]?
  size : w4.heap.size ≤ w.heap.size
  lo4 : lo ≤ w4.heap.size
  blo : B ≤ lo
  bel : Below B w0 w
theorem St.fresh {w0 w4 w w' : World} {B lo : Nat} {va : Value} {l : List RI} (h : St w0 w4 B lo va w l) (hb : Below w.heap.size w w') : St w0 w4 B lo va w' l where
  held := h.held.kept (fun g hg _ => hb.block g hg)
  low := h.low
  kept := fun g h1 h2 => (hb.block g (Nat.lt_of_lt_of_le h2 h.size)).trans (h.kept g h1 h2)
  size := Nat.le_trans h.size hb.size
  lo4 := h.lo4
  blo := h.blo
  bel := h.bel.trans (hb.mono (Nat.le_trans h.blo (Nat.le_trans h.lo4 h.size)))
theorem St.far {w0 w4 w w' : World} {B lo g : Nat} {va : Value} {l : List RI} (h : St w0 w4 B lo va w l) (hb : w.grownBy w' (some g)) (hg : w4.heap.size ≤ g) : St w0 w4 B lo va w' l where
  held := h.held.kept (fun k hk hk2 => hb.block k hk (fun e => by have := h.low k hk2; have := h.lo4; injection e with e; omega))
  low := h.low
  kept := fun k h1 h2 => (hb.block k (Nat.lt_of_lt_of_le h2 h.size) (fun e => by injection e with e; omega)).trans (h.kept k h1 h2)
  size := Nat.le_trans h.size hb.size
  lo4 := h.lo4
  blo := h.blo
  bel := h.bel.grown hb (Nat.le_trans h.blo (Nat.le_trans h.lo4 h.size)) (fun k hk => by injection hk with hk; have := h.lo4; have := h.blo; omega)
theorem St.touch {w0 w4 w w' : World} {B lo i g : Nat} {va : Value} {l : List RI} {x : RI} (h : St w0 w4 B lo va w l) (hi : i < l.length) (hx : (l.getD i dri).hv.ownBlock = some g) (hg : w.grownBy w' (some g)) (ho : OwnH w' B x.hv x.r.hs) (hc : rc1 x = rc1 (l.getD i dri)) : St w0 w4 B lo va w' (l.set i x) where
  held := h.held.touch hi hx hg ho hc
  low := fun k hk => by
    refine h.low k ?_
    rcases hk with hk | ⟨y, hy, hk⟩
    · exact Or.inl hk
    · right
      have hm : y.hv ∈ (l.set i x).map RI.hv := List.mem_map_of_mem hy
      rw [hv_set_same l i hi (hv_of hc)] at hm
      obtain ⟨y2, hy2, e⟩ := List.mem_map.1 hm
      exact ⟨y2, hy2, by rw [e]; exact hk⟩
  kept := fun k h1 h2 => (hg.block k (Nat.lt_of_lt_of_le h2 h.size) (fun e => by injection e with e; have := h.low g (Or.inr ⟨_, riD_mem hi, hx⟩); omega)).trans (h.kept k h1 h2)
  size := Nat.le_trans h.size hg.size
  lo4 := h.lo4
  blo := h.blo
  bel := h.bel.grown hg (Nat.le_trans h.blo (Nat.le_trans h.lo4 h.size)) (fun k hk => by injection hk with hk; subst hk; exact (World.ownsRow.lt (h.held.hds _ (riD_mem hi)) _ hx).1)
/-- A slice that has grown out of a record's headers. -/
def Gr (w4 w : World) (B : Nat) (x : RI) (vg : Value) (m : Nat) (ys : List Value) : Prop :=
  w.ownsRow B 51 3 vg m ys ∧ ((vg = .slice x.a m x.cap ∧ x.r.hs.length ≤ m ∧ ys.take (x.r.hs.length * 3) = hcs x.r.hs) ∨ ∀ g, vg.ownBlock = some g → w4.heap.size ≤ g)
theorem Gr.start {w4 w : World} {B : Nat} {x : RI} (h : OwnH w B x.hv x.r.hs) : Gr w4 w B x x.hv x.r.hs.length (hcs x.r.hs) :=
  ⟨h, Or.inl ⟨rfl, Nat.le_refl _, List.take_of_length_le (by rw [hcs_len]; exact Nat.le_refl _)⟩⟩
theorem Gr.below {w4 w w' : World} {B m : Nat} {x : RI} {vg : Value} {ys : List Value} (h : Gr w4 w B x vg m ys) (hb : Below w.heap.size w w') : Gr w4 w' B x vg m ys :=
  ⟨own_apart h.1 (fun g hg => hb.block g (World.ownsRow.lt h.1 g hg).2), h.2⟩
theorem Gr.step {w0 w4 w w' : World} {B lo i m g cap : Nat} {va vg : Value} {l : List RI} {ys news : List Value} (h : St w0 w4 B lo va w l) (hi : i < l.length) (hG : Gr w4 w B (l.getD i dri) vg m ys)
    (hown : w'.ownsRow B 51 3 (.slice (some ⟨g, 0, none⟩) (m + 1) cap) (m + 1) (ys ++ news)) (hor : (vg = .slice (some ⟨g, 0, none⟩) m cap ∧ w.grownBy w' (some g)) ∨ (g = w.heap.size ∧ Below w.heap.size w w')) :
    St w0 w4 B lo va w' l ∧ Gr w4 w' B (l.getD i dri) (.slice (some ⟨g, 0, none⟩) (m + 1) cap) (m + 1) (ys ++ news) := by
  rcases hor with ⟨rfl, hg⟩ | ⟨rfl, hb⟩
  · rcases hG.2 with ⟨e, hle, htk⟩ | hfar
    · injection e with e1 _ e3
      have hl : (l.getD i dri).r.hs.length * 3 ≤ ys.length := by have := hG.1.1; omega
      have htk2 : (ys ++ news).take ((l.getD i dri).r.hs.length * 3) = hcs (l.getD i dri).r.hs := by rw [List.take_append_of_le_length hl]; exact htk
      have hx : (l.getD i dri).hv = .slice (some ⟨g, 0, none⟩) (l.getD i dri).r.hs.length cap := by unfold RI.hv; rw [← e1, ← e3]
      have ho : OwnH w' B (l.getD i dri).hv (l.getD i dri).r.hs := by
        rw [hx]
        exact own_shrink hown (by omega) htk2
      have hs := h.touch hi (by rw [hx]; rfl) hg ho rfl
      rw [set_self] at hs
      exact ⟨hs, hown, Or.inl ⟨by rw [← e1, ← e3], by omega, htk2⟩⟩
    · exact ⟨h.far hg (hfar g rfl), hown, Or.inr (fun k hk => by
        have e : g = k := by simpa [Value.ownBlock] using hk
        rw [← e]; exact hfar g rfl)⟩
  · exact ⟨h.fresh hb, hown, Or.inr (fun k hk => by
      have e : w.heap.size = k := by simpa [Value.ownBlock] using hk
      rw [← e]; exact h.size)⟩
theorem zc_hdr (n : Nat) : ∀ u ∈ (Builtin.zeroCells (Value.agg #[.string ⟨#[]⟩, .bool false, .string ⟨#[]⟩]).cells n).toList, u.oneCell' = true := by
  intro u hu
  rw [Array.mem_toList_iff] at hu
  unfold Builtin.zeroCells at hu
  obtain ⟨i, _, rfl⟩ := Array.mem_map.1 hu
  have hm : i % 3 = 0 ∨ i % 3 = 1 ∨ i % 3 = 2 := by omega
  show (#[Value.string ⟨#[]⟩, .bool false, .string ⟨#[]⟩][i % 3]!).oneCell' = true
  rcases hm with h | h | h <;> rw [h] <;> rfl
theorem zc_rec (n : Nat) : ∀ u ∈ (Builtin.zeroCells (Value.agg #[.int .i64 0, .bool false, .string ⟨#[]⟩, .bool false, .string ⟨#[]⟩, .slice none 0 0]).cells n).toList, u.oneCell' = true := by
  intro u hu
  rw [Array.mem_toList_iff] at hu
  unfold Builtin.zeroCells at hu
  obtain ⟨i, _, rfl⟩ := Array.mem_map.1 hu
  have hm : i % 6 = 0 ∨ i % 6 = 1 ∨ i % 6 = 2 ∨ i % 6 = 3 ∨ i % 6 = 4 ∨ i % 6 = 5 := by omega
  show (#[Value.int .i64 0, .bool false, .string ⟨#[]⟩, .bool false, .string ⟨#[]⟩, .slice none 0 0][i % 6]!).oneCell' = true
  rcases hm with h | h | h | h | h | h <;> rw [h] <;> rfl
theorem Tryz.undInt : Tryz.prog.underlying 3 = some (.int .i64) := by kernel_rfl
/-- 'append(a[i].Headers, make([]api.Header, 30)...)'. -/
theorem St.zeros {w0 w4 w : World} {B lo i : Nat} {va : Value} {l : List RI} (h : St w0 w4 B lo va w l) (hi : i < l.length) (hn : (l.getD i dri).r.hs.length ≤ 1048576) :
    ∃ v' w', (Builtin.append_ #[47, 3] 47 #[.slice (l.getD i dri).a (l.getD i dri).r.hs.length (l.getD i dri).cap, .int .i64 30]).run Tryz.prog w = .ok v' w' ∧ St w0 w4 B lo va w' l := by
  obtain ⟨i0, ii, hz0, hz1, hz2⟩ := info_parts Tryz.infoHdr
  have hh := h.held.hds _ (riD_mem hi)
  obtain ⟨v', w', hr, hor⟩ := appendZ (P := Tryz.prog) w 47 3 47 B 51 i0 (.agg #[.string ⟨#[]⟩, .bool false, .string ⟨#[]⟩]) 3 40 Tryz.underHdrs Tryz.undInt ii hz0 hz1 hz2 rfl (by decide) zc_hdr _ _ _ hh 30 (by decide) (by omega) (by omega)
  refine ⟨v', w', hr, ?_⟩
  rcases hor with ⟨g, h1, h2, h3⟩ | hb
  · have hs := h.touch hi h1 h2 h3 rfl
    rw [set_self] at hs
    exact hs
  · exact h.fresh hb
end Go.Proofs.YtihokphamgkkcaaGreat
namespace Go.Proofs.YtihokphamgkkcaaGreat
open Go.RowKit
theorem gby_trans {a b c : World} {r : Option Nat} (h1 : a.grownBy b r) (h2 : b.grownBy c r) : a.grownBy c r :=
  ⟨h2.os.trans h1.os, h2.tape.trans h1.tape, h2.output.trans h1.output, Nat.le_trans h1.size h2.size, fun k hk hn => (h2.block k (Nat.lt_of_lt_of_le hk h1.size) hn).trans (h1.block k hk hn)⟩
theorem hcs_set (y : Hdr) : ∀ (hs : List Hdr) (k : Nat), (((hcs hs).set (k * 3) (.string y.1)).set (k * 3 + 1) (.bool y.2.1)).set (k * 3 + 2) (.string y.2.2) = hcs (hs.set k y)
  | [], k => by simp [hcs]
  | r :: l, 0 => rfl
  | r :: l, k + 1 => by
    have ih := hcs_set y l k
    have e1 : (k + 1) * 3 = k * 3 + 1 + 1 + 1 := by omega
    show (((hc1 r ++ hcs l).set ((k + 1) * 3) (.string y.1)).set ((k + 1) * 3 + 1) (.bool y.2.1)).set ((k + 1) * 3 + 2) (.string y.2.2) = hc1 r ++ hcs (l.set k y)
    rw [e1, ← ih]
    rfl
theorem rcs_set (x : RI) : ∀ (l : List RI) (k : Nat), ((((((rcs l).set (k * 6) (.int .i64 x.r.t)).set (k * 6 + 1) (.bool x.r.kh)).set (k * 6 + 2) (.string x.r.kd)).set (k * 6 + 3) (.bool x.r.vh)).set (k * 6 + 4) (.string x.r.vd)).set (k * 6 + 5) (.slice x.a x.r.hs.length x.cap) = rcs (l.set k x)
  | [], k => by simp [rcs]
  | r :: l, 0 => rfl
  | r :: l, k + 1 => by
    have ih := rcs_set x l k
    have e1 : (k + 1) * 6 = k * 6 + 1 + 1 + 1 + 1 + 1 + 1 := by omega
    show ((((((rc1 r ++ rcs l).set ((k + 1) * 6) (.int .i64 x.r.t)).set ((k + 1) * 6 + 1) (.bool x.r.kh)).set ((k + 1) * 6 + 2) (.string x.r.kd)).set ((k + 1) * 6 + 3) (.bool x.r.vh)).set ((k + 1) * 6 + 4) (.string x.r.vd)).set ((k + 1) * 6 + 5) (.slice x.a x.r.hs.length x.cap) = rc1 r ++ rcs (l.set k x)
    rw [e1, ← ih]
    rfl
def hset (x : RI) (k : Nat) (y : Hdr) : RI := ⟨⟨x.r.t, x.r.kh, x.r.kd, x.r.vh, x.r.vd, x.r.hs.set k y⟩, x.a, x.cap⟩
theorem rc1_hset (x : RI) (k : Nat) (y : Hdr) : rc1 (hset x k y) = rc1 x := by
  unfold rc1 hset
  simp only [List.length_set]
theorem hv_hset (x : RI) (k : Nat) (y : Hdr) : (hset x k y).hv = x.hv := hv_of (rc1_hset x k y)
theorem St.seth {w0 w4 w : World} {B lo i k g : Nat} {va : Value} {l : List RI} (h : St w0 w4 B lo va w l) (hi : i < l.length) (hx : (l.getD i dri).a = some ⟨g, 0, none⟩) (y : Hdr) :
    St w0 w4 B lo va (((w.setCell ⟨g, k * 3, none⟩ (.string y.1)).setCell ⟨g, k * 3 + 1, none⟩ (.bool y.2.1)).setCell ⟨g, k * 3 + 2, none⟩ (.string y.2.2)) (l.set i (hset (l.getD i dri) k y)) := by
  have hh := h.held.hds _ (riD_mem hi)
  have e : (l.getD i dri).hv = .slice (some ⟨g, 0, none⟩) (l.getD i dri).r.hs.length (l.getD i dri).cap := by unfold RI.hv; rw [hx]
  unfold OwnH at hh
  rw [e] at hh
  obtain ⟨h1, g1⟩ := hh.stored (k * 3) (.string y.1)
  obtain ⟨h2, g2⟩ := h1.stored (k * 3 + 1) (.bool y.2.1)
  obtain ⟨h3, g3⟩ := h2.stored (k * 3 + 2) (.string y.2.2)
  rw [hcs_set] at h3
  refine h.touch hi (by rw [e]; rfl) (gby_trans (gby_trans g1 g2) g3) ?_ (rc1_hset _ _ _)
  rw [hv_hset, e]
  show World.ownsRow _ _ _ _ _ (List.length ((l.getD i dri).r.hs.set k y)) (hcs ((l.getD i dri).r.hs.set k y))
  rw [List.length_set]
  exact h3
def ri7 : RI := ⟨⟨7, false, ⟨#[]⟩, false, ⟨#[]⟩, []⟩, none, 0⟩
theorem St.six {w0 w4 w : World} {B lo i g cap : Nat} {l : List RI} (h : St w0 w4 B lo (.slice (some ⟨g, 0, none⟩) l.length cap) w l) :
    St w0 w4 B lo (.slice (some ⟨g, 0, none⟩) l.length cap) ((((((w.setCell ⟨g, i * 6, none⟩ (.int .i64 7)).setCell ⟨g, i * 6 + 1, none⟩ (.bool false)).setCell ⟨g, i * 6 + 2, none⟩ (.string ⟨#[]⟩)).setCell ⟨g, i * 6 + 3, none⟩ (.bool false)).setCell ⟨g, i * 6 + 4, none⟩ (.string ⟨#[]⟩)).setCell ⟨g, i * 6 + 5, none⟩ (.slice none 0 0)) (l.set i ri7) := by
  obtain ⟨h1, g1⟩ := h.held.row.stored (i * 6) (.int .i64 7)
  obtain ⟨h2, g2⟩ := h1.stored (i * 6 + 1) (.bool false)
  obtain ⟨h3, g3⟩ := h2.stored (i * 6 + 2) (.string ⟨#[]⟩)
  obtain ⟨h4, g4⟩ := h3.stored (i * 6 + 3) (.bool false)
  obtain ⟨h5, g5⟩ := h4.stored (i * 6 + 4) (.string ⟨#[]⟩)
  obtain ⟨h6, g6⟩ := h5.stored (i * 6 + 5) (.slice none 0 0)
  have er := rcs_set ri7 l i
  have hG := gby_trans (gby_trans (gby_trans (gby_trans (gby_trans g1 g2) g3) g4) g5) g6
  generalize ((((((w.setCell ⟨g, i * 6, none⟩ (.int .i64 7)).setCell ⟨g, i * 6 + 1, none⟩ (.bool false)).setCell ⟨g, i * 6 + 2, none⟩ (.string ⟨#[]⟩)).setCell ⟨g, i * 6 + 3, none⟩ (.bool false)).setCell ⟨g, i * 6 + 4, none⟩ (.string ⟨#[]⟩)).setCell ⟨g, i * 6 + 5, none⟩ (.slice none 0 0)) = w' at *
  have hrow : w'.ownsRow B 49 6 (.slice (some ⟨g, 0, none⟩) l.length cap) l.length (rcs (l.set i ri7)) := by rw [← er]; exact h6
  have hglo : g < lo := h.low g (Or.inl rfl)
  have hBg : B ≤ g := (World.ownsRow.lt h.held.row g rfl).1
  refine ⟨⟨by rw [List.length_set]; exact hrow, ?_, ?_⟩, ?_, ?_, Nat.le_trans h.size hG.size, h.lo4, h.blo, ?_⟩
  · intro y hy
    rcases List.mem_or_eq_of_mem_set hy with hy | rfl
    · have hy2 := h.held.hds y hy
      refine own_apart hy2 (fun k hk => hG.block k (World.ownsRow.lt hy2 k hk).2 (fun e => ?_))
      injection e with e
      subst e
      obtain ⟨c, hc⟩ := ownH_blk hy2 hk
      exact own_ne h.held.row hc (by decide) rfl
    · exact ownH_nil _ _
  · rw [List.pairwise_iff_getElem]
    have ha := List.pairwise_iff_getElem.1 h.held.ap
    intro a b ha1 hb1 hab k k1 k2
    rw [List.getElem_set] at k1 k2
    by_cases e1 : i = a
    · rw [if_pos e1] at k1; cases k1
    · by_cases e2 : i = b
      · rw [if_pos e2] at k2; cases k2
      · rw [if_neg e1] at k1
        rw [if_neg e2] at k2
        exact ha a b (by simpa using ha1) (by simpa using hb1) hab k k1 k2
  · intro k hk
    refine h.low k ?_
    rcases hk with hk | ⟨y, hy, hk⟩
    · exact Or.inl hk
    · rcases List.mem_or_eq_of_mem_set hy with hy | rfl
      · exact Or.inr ⟨y, hy, hk⟩
      · cases hk
  · exact fun k k1 k2 => (hG.block k (Nat.lt_of_lt_of_le k2 h.size) (fun e => by injection e with e; omega)).trans (h.kept k k1 k2)
  · exact h.bel.grown hG (Nat.le_trans h.blo (Nat.le_trans h.lo4 h.size)) (fun k hk => by injection hk with hk; omega)
/-- 'append(a, make([]api.Record, 9)...)'. -/
theorem St.zerosR {w0 w4 w : World} {B lo : Nat} {va : Value} {l : List RI} (h : St w0 w4 B lo va w l) (hn : l.length ≤ 1048576) :
    ∃ v' w', (Builtin.append_ #[22, 3] 22 #[va, .int .i64 9]).run Tryz.prog w = .ok v' w' ∧ (∀ g, lo ≤ g → g < w4.heap.size → w'.heap[g]? = w4.heap[g]?) ∧ Below B w0 w' ∧ w4.heap.size ≤ w'.heap.size := by
  obtain ⟨i0, ii, hz0, hz1, hz2⟩ := info_parts Tryz.infoRec
  obtain ⟨v', w', hr, hor⟩ := appendZ (P := Tryz.prog) w 22 3 22 B 49 i0 (.agg #[.int .i64 0, .bool false, .string ⟨#[]⟩, .bool false, .string ⟨#[]⟩, .slice none 0 0]) 6 80 Tryz.underRecs Tryz.undInt ii hz0 hz1 hz2 rfl (by decide) zc_rec _ _ _ h.held.row 9 (by decide) (by omega) (by omega)
  refine ⟨v', w', hr, ?_⟩
  rcases hor with ⟨g, h1, h2, _⟩ | hb
  · have hglo : g < lo := h.low g (Or.inl h1)
    have hBg : B ≤ g := (World.ownsRow.lt h.held.row g h1).1
    exact ⟨fun k k1 k2 => (h2.block k (Nat.lt_of_lt_of_le k2 h.size) (fun e => by injection e with e; omega)).trans (h.kept k k1 k2), h.bel.grown h2 (Nat.le_trans h.blo (Nat.le_trans h.lo4 h.size)) (fun k hk => by injection hk with hk; omega), Nat.le_trans h.size h2.size⟩
  · have := h.fresh hb
    exact ⟨this.kept, this.bel, this.size⟩
/-- What ReadBody answers, found or not. -/
theorem rbody_u (s : ByteArray) (first count : Int) (hf : I64 first) : ∃ (E : Nat) (y : List Rec), y.length ≤ 65536 ∧ (∀ r ∈ y, r.hs.length ≤ 1024) ∧ ∀ w, Calls Tryz.prog 39 #[.string s, .int .i64 first, .int .i64 count] w fun e w' => Below w.heap.size w w' ∧ ∃ v l, e = .returned (.tuple #[v, .int .i64 E]) ∧ Held w' w.heap.size v l ∧ l.map RI.r = y := by
  have hc := fun w => rbody_any s first count w hf
  cases hr : rbd s first count with
  | error x =>
    refine ⟨x, [], Nat.zero_le _, fun r hr => by simp at hr, fun w => (hc w).mono ?_⟩
    rintro e w' ⟨hb, hm⟩
    rw [hr] at hm
    obtain ⟨rfl, _⟩ := hm
    exact ⟨hb, _, [], rfl, ⟨World.ownsRow_nil _ _ _ _, fun x hx => by simp at hx, List.Pairwise.nil⟩, rfl⟩
  | ok y =>
    refine ⟨0, y, ?_, ?_, fun w => (hc w).mono ?_⟩
    · unfold rbd at hr
      by_cases hc : ¬ (1 ≤ count ∧ count ≤ 65536)
      · rw [if_pos hc] at hr; cases hr
      rw [if_neg hc] at hr
      by_cases hs : 16777216 < s.size
      · rw [if_pos hs] at hr; cases hr
      rw [if_neg hs] at hr
      cases hq : run s first count.toNat with
      | error e => rw [hq] at hr; cases hr
      | ok z =>
        obtain ⟨m, k⟩ := z
        rw [hq] at hr
        dsimp only at hr
        by_cases hk : k < s.size
        · rw [if_pos hk] at hr; cases hr
        rw [if_neg hk] at hr
        injection hr with hr
        subst hr
        have := (run_ran (by omega) (by omega) hq).len
        omega
    · intro r hx2
      unfold rbd at hr
      by_cases hc : ¬ (1 ≤ count ∧ count ≤ 65536)
      · rw [if_pos hc] at hr; cases hr
      rw [if_neg hc] at hr
      by_cases hs : 16777216 < s.size
      · rw [if_pos hs] at hr; cases hr
      rw [if_neg hs] at hr
      cases hq : run s first count.toNat with
      | error e => rw [hq] at hr; cases hr
      | ok z =>
        obtain ⟨m, k⟩ := z
        rw [hq] at hr
        dsimp only at hr
        by_cases hk : k < s.size
        · rw [if_pos hk] at hr; cases hr
        rw [if_neg hk] at hr
        injection hr with hr
        subst hr
        exact ((run_ran (by omega) (by omega) hq).good _ hx2).2.2.2.2.1
    · rintro e w' ⟨hb, hm⟩
      rw [hr] at hm
      obtain ⟨v, l, rfl, h1, h2⟩ := hm
      exact ⟨hb, v, l, rfl, h1, h2⟩
end Go.Proofs.YtihokphamgkkcaaGreat
