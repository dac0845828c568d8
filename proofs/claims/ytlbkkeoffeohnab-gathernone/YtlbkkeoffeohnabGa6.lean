/- One more waits. -/
import Derived.Test.YtlbkkeoffeohnabGa5
namespace Go.Proofs.Ytlbkkeoffeohnab
open Go.RowKit
/-- What a call leaves that lays a record behind those that wait. -/
def WaitP (g jb : Nat) (s : Gs) (r : Rec) (w : World) (v : Value) (rs : List RI) (w' : World) : Prop := ∃ v' x, x.r = cln r ∧ Gcell w' g jb s v' ∧ Held w' 0 v' (rs ++ [x]) ∧ Ch (fun i => i = g ∨ v.ownBlock = some i) w w' ∧ ∀ i, HS v' (rs ++ [x]) i → HS v rs i ∨ w.heap.size ≤ i
theorem bel_from {w y : World} {o : Obj} (h : Below (w.alloc o).heap.size (w.alloc o) y) : Below (w.heap.size + 1) (w.alloc o) y := by rw [World.size_alloc] at h; exact h
theorem below_alloc {w : World} {o : Obj} {g : Nat} (h : g < w.heap.size) : (w.alloc o).heap[g]? = w.heap[g]? := ((Below.refl w.heap.size w).alloc (Nat.le_refl _) o).block g h
theorem wp_append_two {P : Program} (w : World) {o : Oper} {a : Act} {K : Act → World → Prop} {Q : Exit → Act → World → Prop} (s x : Operand) (t : TypeId)
    (ho : o.op = .call { callee := .builtin .append, args := #[s, x], argTypes := #[t, t] })
    (base : Nat) (e : TypeId) (i : TypeInfo) (z : Value) (size bytes : Nat) (ht : P.underlying t = some (.slice e)) (hi : P.info? e = some i) (hz : i.zero = some z)
    (hsize : i.size = size) (hby : i.bytes = bytes) (hzs : z.cells.size = size) (hsz : 0 < size)
    (v : Value) (n : Nat) (xs : List Value) (hs : a.eval s = v) (hown : w.ownsRow base e size v n xs)
    (ad : Addr) (m c : Nat) (news : List Value) (hx : a.eval x = .slice (some ad) m c) (hl : news.length = m * size) (hnews : ∀ j u, news[j]? = some u → w.cell? (ad.add j) = some u) (h1 : ∀ u ∈ news, u.oneCell' = true)
    (hm : 0 < m) (h63 : n + m ≤ maxLen) (hbytes : (n + m) * bytes ≤ 140737488355328) (hbase : base ≤ w.heap.size)
    (h : ∀ g cap w', w'.ownsRow base e size (.slice (some ⟨g, 0, none⟩) (n + m) cap) (n + m) (xs ++ news) → ((v = .slice (some ⟨g, 0, none⟩) n cap ∧ w.grownBy w' (some g)) ∨ (g = w.heap.size ∧ Below w.heap.size w w')) → K (a.put o.dst (.slice (some ⟨g, 0, none⟩) (n + m) cap)) w') : o.wp P a w K Q := by
  obtain ⟨g, cap, w', hr, h2, h3⟩ := append_two (P := P) w t o.type base e i z size bytes ht hi hz hsize hby hzs hsz v n xs hown ad m c news hl hnews h1 hm h63 hbytes hbase
  unfold Oper.wp execOp
  simp only [ho, resolve, invoke, builtin, Sem.run_bind, Sem.run_pure, Result.andThen_ok, List.map_toArray, List.map_cons, List.map_nil, hs, hx, hr]
  exact h g cap w' h2 h3
theorem wait_row {w z0 z2 : World} {v : Value} {rs : List RI} (h : Held w 0 v rs) (hb : Below w.heap.size w z0) (hb2 : Below z0.heap.size z0 z2) : z2.ownsRow 0 40 6 v rs.length (rcs rs) :=
  (h.kept (w' := z2) (fun g hg _ => (hb2.block g (Nat.lt_of_lt_of_le hg hb.size)).trans (hb.block g hg))).row
theorem wait_mid {w z0 z2 z4 : World} {g g4 cap4 : Nat} {v : Value} {rs : List RI} {x : RI} {c0 c1 c2 c3 c4 c6 r0 r1 r2 r3 r4 r5 : Value} {T : TypeId} {ob : Array Value}
    (h : Held w 0 v rs) (hb : Below w.heap.size w z0) (hb2 : Below z0.heap.size z0 z2)
    (hg : z2.heap[g]? = some (.cells #[c0, c1, c2, c3, c4, v, c6] 30 (0, 0))) (hr : z2.heap[w.heap.size]? = some (.cells #[r0, r1, r2, r3, r4, r5] 40 (0, 0)))
    (ho : OwnH z2 z0.heap.size x.hv x.r.hs)
    (hown : z4.ownsRow 0 40 6 (.slice (some ⟨g4, 0, none⟩) (rs.length + 1) cap4) (rs.length + 1) (rcs rs ++ rc1 x))
    (hcase : (v = .slice (some ⟨g4, 0, none⟩) rs.length cap4 ∧ (z2.alloc (.cells ob T)).grownBy z4 (some g4)) ∨ (g4 = (z2.alloc (.cells ob T)).heap.size ∧ Below (z2.alloc (.cells ob T)).heap.size (z2.alloc (.cells ob T)) z4)) (hs : w.heap.size < z0.heap.size) :
    z4.heap[w.heap.size]? = some (.cells #[r0, r1, r2, r3, r4, r5] 40 (0, 0)) ∧ z4.heap[g]? = some (.cells #[c0, c1, c2, c3, c4, v, c6] 30 (0, 0)) ∧
    ∀ kv, ∀ y, y = (z4.setCell ⟨g, 5, none⟩ (.slice (some ⟨g4, 0, none⟩) (rs.length + 1) cap4)).setCell ⟨g, 6, none⟩ kv → y.heap[g]? = some (.cells #[c0, c1, c2, c3, c4, .slice (some ⟨g4, 0, none⟩) (rs.length + 1) cap4, kv] 30 (0, 0)) ∧ Held y 0 (.slice (some ⟨g4, 0, none⟩) (rs.length + 1) cap4) (rs ++ [x]) ∧ Ch (fun i => i = g ∨ v.ownBlock = some i) w y ∧ ∀ i, HS (.slice (some ⟨g4, 0, none⟩) (rs.length + 1) cap4) (rs ++ [x]) i → HS v rs i ∨ w.heap.size ≤ i := by
  have k2 : Held z2 0 v rs := h.kept (w' := z2) (fun g hg _ => (hb2.block g (Nat.lt_of_lt_of_le hg hb.size)).trans (hb.block g hg))
  have hb3 : Below z2.heap.size z2 (z2.alloc (.cells ob T)) := (Below.refl _ _).alloc (Nat.le_refl _) _
  have k3 : Held (z2.alloc (.cells ob T)) 0 v rs := k2.kept (fun g hg _ => hb3.block g hg)
  have hx3 : OwnH (z2.alloc (.cells ob T)) z0.heap.size x.hv x.r.hs := own_apart ho (fun g hg => hb3.block g (World.ownsRow.lt ho g hg).2)
  have hg3 := (hb3.block g (lt_of_heap hg)).trans hg
  have hr3 := (hb3.block _ (lt_of_heap hr)).trans hr
  have hnr : v.ownBlock ≠ some w.heap.size := fun e => Nat.lt_irrefl _ (World.ownsRow.lt h.row _ e).2
  have hng : v.ownBlock ≠ some g := own_ne k2.row hg (by decide)
  have hgb : (z2.alloc (.cells ob T)).grownBy z4 v.ownBlock := by
    rcases hcase with ⟨rfl, hc⟩ | ⟨_, hc⟩
    · exact hc
    · exact ⟨hc.os, hc.tape, hc.output, hc.size, fun k hk _ => hc.block k hk⟩
  have hg4 := (hgb.block g (lt_of_heap hg3) (fun e => hng e.symm)).trans hg3
  have hr4 := (hgb.block _ (lt_of_heap hr3) (fun e => hnr e.symm)).trans hr3
  have hap : ∀ y ∈ rs, ∀ g, y.hv.ownBlock = some g → x.hv.ownBlock ≠ some g := fun y hy g hgy he => by
    have h1 := (World.ownsRow.lt (h.hds y hy) g hgy).2
    have h2 := (World.ownsRow.lt ho g he).1
    omega
  have k4 : Held z4 0 (.slice (some ⟨g4, 0, none⟩) (rs.length + 1) cap4) (rs ++ [x]) := k3.snoc (own_base (Nat.zero_le _) hx3) hap hown hgb
  refine ⟨hr4, hg4, ?_⟩
  rintro kv y rfl
  have hnh : ∀ i, HS (.slice (some ⟨g4, 0, none⟩) (rs.length + 1) cap4) (rs ++ [x]) i → i ≠ g := by
    rintro i (hi | ⟨q, hq, hi⟩) rfl
    · exact own_ne k4.row hg4 (by decide) hi
    · exact own_ne (k4.hds q hq) hg4 (by decide) hi
  have hsz : w.heap.size ≤ z2.heap.size := Nat.le_trans hb.size hb2.size
  refine ⟨heap_set (heap_set hg4), k4.kept (fun i hi hs => ?_), ?_, ?_⟩
  · have := hnh i hs
    exact (Below.heap_setCell _ _ _ _ this).trans (Below.heap_setCell _ _ _ _ this)
  · have c1 : Ch (fun i => i = g ∨ v.ownBlock = some i) w z2 := Ch.of_below (hb.trans (hb2.mono hb.size))
    have c2 : Ch (fun i => i = g ∨ v.ownBlock = some i) w (z2.alloc (.cells ob T)) := c1.alloc _
    have c3 : Ch (fun i => i = g ∨ v.ownBlock = some i) w z4 := ⟨hgb.os.trans c2.os, hgb.tape.trans c2.tape, hgb.output.trans c2.output, Nat.le_trans c2.size hgb.size, fun i hi hn => (hgb.block i (Nat.lt_of_lt_of_le hi c2.size) (fun e => hn (Or.inr e.symm))).trans (c2.block i hi hn)⟩
    exact (c3.setCell ⟨g, 5, none⟩ _ (fun _ => Or.inl rfl)).setCell ⟨g, 6, none⟩ _ (fun _ => Or.inl rfl)
  · rintro i (hi | ⟨q, hq, hi⟩)
    · have e : g4 = i := by simpa [Value.ownBlock] using hi
      subst e
      rcases hcase with ⟨rfl, _⟩ | ⟨rfl, _⟩
      · exact Or.inl (Or.inl hi)
      · exact Or.inr (Nat.le_trans hsz hb3.size)
    · rcases List.mem_append.1 hq with hq | hq
      · exact Or.inl (Or.inr ⟨q, hq, hi⟩)
      · rw [List.mem_singleton] at hq
        subst hq
        exact Or.inr (Nat.le_trans hb.size (World.ownsRow.lt ho i hi).1)
set_option maxRecDepth 20000 in
set_option maxHeartbeats 4000000 in
theorem wait_any (g jb : Nat) (s : Gs) (r : Rec) (a : Option Addr) (cap : Nat) (k' : Nat) (v : Value) (rs : List RI) (w : World) (h : Gcell w g jb s v) (hH : Held w 0 v rs) (V : Hds w a r.hs) (hz : r.hs.length ≤ 1024) (hn : rs.length < 65536) :
    Calls Try.prog 17 #[.pointer (some ⟨g, 0, none⟩), recV r a cap, .int .i64 k'] w fun e w' => e = .returned (.tuple #[]) ∧ WaitP g jb ⟨s.b, s.l ++ [cln r], k', s.q⟩ r w v rs w' := by
  obtain ⟨i0, hi, hz0, hz1, hz2⟩ := info_parts Try.infoRec
  obtain ⟨⟨R, P, F, sp, pk, pr, sq⟩, l, k, q⟩ := s
  obtain ⟨rt, rkh, rkd, rvh, rvd, rhs⟩ := r
  have HCP : Hid (∀ x, Below w.heap.size w x → Calls Try.prog 20 #[recV ⟨rt, rkh, rkd, rvh, rvd, rhs⟩ a cap] x fun e w' => (∃ a' cap', e = .returned (recV (cln ⟨rt, rkh, rkd, rvh, rvd, rhs⟩) a' cap') ∧ OwnH w' x.heap.size (.slice a' (cln ⟨rt, rkh, rkd, rvh, rvd, rhs⟩).hs.length cap') (cln ⟨rt, rkh, rkd, rvh, rvd, rhs⟩).hs) ∧ Below x.heap.size x w') := fun x hx => copy_any rt rkh rvh rkd rvd rhs a cap x (V.below hx) (by have := hz; dsimp only at this; omega)
  unfold WaitP
  unfold Gcell at *
  dsimp only at *
  obtain ⟨c0, c1, c2, c3, c4, c5, c6⟩ := cells7 h
  have hlt := lt_of_heap h
  have HG := hid h
  have HHe := hid hH
  clear V hz h hH
  generalize cln ⟨rt, rkh, rkd, rvh, rvd, rhs⟩ = rc at *
  obtain ⟨t', kh', kd', vh', vd', hs'⟩ := rc
  simp only [recV] at *
  have HB1 : Hid (Below w.heap.size w (w.alloc (.cells #[.int .i64 rt, .bool rkh, .string rkd, .bool rvh, .string rvd, .slice a rhs.length cap] 40))) := (Below.refl _ w).alloc (Nat.le_refl _) _
  have HR : Hid ((w.alloc (.cells #[.int .i64 rt, .bool rkh, .string rkd, .bool rvh, .string rvd, .slice a rhs.length cap] 40)).heap[w.heap.size]? = some (.cells #[.int .i64 rt, .bool rkh, .string rkd, .bool rvh, .string rvd, .slice a rhs.length cap] 40 (0, 0))) := heap_new _ _
  go_enter Try.func17, Try.ntmps17
  go_wp2_with fail
  have hd0 : Below w.heap.size w (w.alloc (.cells #[.int .i64 rt, .bool rkh, .string rkd, .bool rvh, .string rvd, .slice a rhs.length cap] 40)).drew := HB1.out.drew
  have hg0 : (w.alloc (.cells #[.int .i64 rt, .bool rkh, .string rkd, .bool rvh, .string rvd, .slice a rhs.length cap] 40)).drew.heap[g]? = some _ := heap_alloc_at HG.out
  have hr0 : (w.alloc (.cells #[.int .i64 rt, .bool rkh, .string rkd, .bool rvh, .string rvd, .slice a rhs.length cap] 40)).drew.heap[w.heap.size]? = some _ := HR.out
  have hs0 : w.heap.size < (w.alloc (.cells #[.int .i64 rt, .bool rkh, .string rkd, .bool rvh, .string rvd, .slice a rhs.length cap] 40)).drew.heap.size := lt_of_heap hr0
  refine wp_region_held_drew (S := fun y => y.cell? ⟨w.heap.size, 0, none⟩ = some (.int .i64 rt) ∧ y.cell? ⟨w.heap.size, 1, none⟩ = some (.bool rkh) ∧ y.cell? ⟨w.heap.size, 2, none⟩ = some (.string rkd) ∧ y.cell? ⟨w.heap.size, 3, none⟩ = some (.bool rvh) ∧ y.cell? ⟨w.heap.size, 4, none⟩ = some (.string rvd) ∧ y.cell? ⟨w.heap.size, 5, none⟩ = some (.slice a rhs.length cap)) (by kernel_rfl) (cells6 hr0) (fun hHeld => ?_)
  generalize (w.alloc (.cells #[.int .i64 rt, .bool rkh, .string rkd, .bool rvh, .string rvd, .slice a rhs.length cap] 40)).drew = z0 at *
  clear c0 c1 c2 c3 c4 c5 c6
  refine wpAnyH_take (i := 0) (oi := { dst := some 6, op := Op.move (Operand.tmp 0), type := 24, pos := "gather.go:71", after := #[], guard := none }) (v := ?_) rfl (by kernel_rfl) (by kernel_rfl) (by kernel_rfl) (fun _ _ _ h => h) (Or.inl ⟨by rfl, ?_⟩) (by assumption) ?_
  rotate_left
  · (intro z hSw; (try dsimp only at hSw); go_simp)
    all_goals with_reducible rfl
  try simp only [Act.put, List.setIfInBounds_toArray, List.set_cons_zero, List.set_cons_succ]
  refine wpAnyH_take (i := 1) (oi := { dst := some 7, op := Op.move (Operand.tmp 0), type := 24, pos := "gather.go:71", after := #[], guard := none }) (v := ?_) rfl (by kernel_rfl) (by kernel_rfl) (by kernel_rfl) (fun _ _ _ h => h) (Or.inl ⟨by rfl, ?_⟩) (by assumption) ?_
  rotate_left
  · (intro z hSw; (try dsimp only at hSw); go_simp)
    all_goals with_reducible rfl
  try simp only [Act.put, List.setIfInBounds_toArray, List.set_cons_zero, List.set_cons_succ]
  refine wpAnyH_take (i := 2) (oi := { dst := some 8, op := Op.nilCheck (Operand.tmp 7), type := 0, pos := "gather.go:71", after := #[{ on := 1, ground := Ground.data }], guard := none }) (v := ?_) rfl (by kernel_rfl) (by kernel_rfl) (by kernel_rfl) (fun _ _ _ h => h) (Or.inl ⟨by rfl, ?_⟩) (by assumption) ?_
  rotate_left
  · (intro z hSw; (try dsimp only at hSw); go_simp)
    all_goals with_reducible rfl
  try simp only [Act.put, List.setIfInBounds_toArray, List.set_cons_zero, List.set_cons_succ]
  refine wpAnyH_take (i := 3) (oi := { dst := some 9, op := Op.fieldAddr 30 (Operand.tmp 8) 1, type := 0, pos := "gather.go:71", after := #[{ on := 2, ground := Ground.data }], guard := none }) (v := ?_) rfl (by kernel_rfl) (by kernel_rfl) (by kernel_rfl) (fun _ _ _ h => h) (Or.inl ⟨by rfl, ?_⟩) (by assumption) ?_
  rotate_left
  · (intro z hSw; (try dsimp only at hSw); go_simp)
    all_goals with_reducible rfl
  try simp only [Act.put, List.setIfInBounds_toArray, List.set_cons_zero, List.set_cons_succ]
  refine wpAnyH_take (i := 4) (oi := { dst := some 10, op := Op.fieldAddr 28 (Operand.tmp 9) 4, type := 0, pos := "gather.go:71", after := #[{ on := 3, ground := Ground.data }], guard := none }) (v := ?_) rfl (by kernel_rfl) (by kernel_rfl) (by kernel_rfl) (fun _ _ _ h => h) (Or.inl ⟨by rfl, ?_⟩) (by assumption) ?_
  rotate_left
  · (intro z hSw; (try dsimp only at hSw); go_simp)
    all_goals with_reducible rfl
  try simp only [Act.put, List.setIfInBounds_toArray, List.set_cons_zero, List.set_cons_succ]
  refine wpAnyH_take (i := 6) (oi := { dst := some 12, op := Op.load 40 (Operand.tmp 4), type := 40, pos := "gather.go:71", after := #[], guard := none }) (v := ?_) rfl (by kernel_rfl) (by kernel_rfl) (by kernel_rfl) (fun _ _ _ h => h) (Or.inl ⟨by rfl, ?_⟩) (by assumption) ?_
  rotate_left
  · (intro z hSw; (try dsimp only at hSw); go_simp)
    all_goals with_reducible rfl
  try simp only [Act.put, List.setIfInBounds_toArray, List.set_cons_zero, List.set_cons_succ]
  refine wpAnyH_ready (rs := [5, 7]) (by kernel_rfl) (by simp) ?_
  refine AllReadyH.cons (o := { dst := some 11, op := Op.load 26 (Operand.tmp 10), type := 26, pos := "gather.go:71", after := #[{ on := 4, ground := Ground.data }], guard := none }) rfl (fun K hK => ?_) (AllReadyH.cons (o := { dst := some 13, op := Op.call { callee := Callee.value (Operand.func 20), args := #[Operand.tmp 12], argTypes := #[40] }, type := 40, pos := "gather.go:71", after := #[{ on := 6, ground := Ground.data }], guard := none }) rfl (fun K hK => ?_) AllReadyH.nil)
  · have q5 := (cells7 hg0).2.2.2.2.2.1
    go_simp
    refine hK.out _ _ (cells6 hr0) (fun hHeld => ?_)
    clear hK K
    try simp only [Act.put, List.setIfInBounds_toArray, List.set_cons_zero, List.set_cons_succ]
    clear q5
    refine wpAnyH_ready (rs := [7]) (by kernel_rfl) (by simp) ?_
    refine AllReadyH.cons (o := { dst := some 13, op := Op.call { callee := Callee.value (Operand.func 20), args := #[Operand.tmp 12], argTypes := #[40] }, type := 40, pos := "gather.go:71", after := #[{ on := 6, ground := Ground.data }], guard := none }) rfl (fun K hK => ?_) AllReadyH.nil
    go_simp
    go_at_call 20
    refine (HCP.out _ hd0).mono ?_
    rintro e z2 ⟨⟨ac, cc, rfl, ho2⟩, hb2⟩
    go_wp2_with fail
    have hg2 := (hb2.block g (lt_of_heap hg0)).trans hg0
    have hr2 := (hb2.block w.heap.size hs0).trans hr0
    refine hK.out _ _ (cells6 hr2) (fun hHeld => ?_)
    clear hK K
    try simp only [Act.put, List.setIfInBounds_toArray, List.set_cons_zero, List.set_cons_succ]
    refine wpAnyH_ready (rs := [8]) (by kernel_rfl) (by simp) ?_
    refine AllReadyH.cons (o := { dst := some 14, op := Op.buildSlice 26 1 #[(0, Operand.tmp 13)], type := 26, pos := "gather.go:71", after := #[{ on := 7, ground := Ground.data }], guard := none }) rfl (fun K hK => ?_) AllReadyH.nil
    go_simp
    have hg3 := (below_alloc (o := .cells (rc1 ⟨⟨t', kh', kd', vh', vd', hs'⟩, ac, cc⟩).toArray 40) (lt_of_heap hg2)).trans hg2
    have hr3 := (below_alloc (o := .cells (rc1 ⟨⟨t', kh', kd', vh', vd', hs'⟩, ac, cc⟩).toArray 40) (lt_of_heap hr2)).trans hr2
    refine hK.out _ _ (cells6 hr3) (fun hHeld => ?_)
    clear hK K
    try simp only [Act.put, List.setIfInBounds_toArray, List.set_cons_zero, List.set_cons_succ]
    refine wpAnyH_ready (rs := [9]) (by kernel_rfl) (by simp) ?_
    refine AllReadyH.cons (o := { dst := some 15, op := Op.call { callee := Callee.builtin Builtin.append, args := #[Operand.tmp 11, Operand.tmp 14], argTypes := #[26, 26] }, type := 26, pos := "gather.go:71", after := #[{ on := 5, ground := Ground.data }, { on := 8, ground := Ground.data }, { on := 7, ground := Ground.chain }], guard := none }) rfl (fun K hK => ?_) AllReadyH.nil
    refine wp_append_two _ _ _ 26 rfl 0 40 i0 (.agg #[.int .i64 0, .bool false, .string ⟨#[]⟩, .bool false, .string ⟨#[]⟩, .slice none 0 0]) 6 80 Try.underRecs hi hz0 hz1 hz2 rfl (by decide) v rs.length (rcs rs) rfl ((wait_row HHe.out hd0 hb2).alloc _) ⟨z2.heap.size, 0, none⟩ 1 1 (rc1 ⟨⟨t', kh', kd', vh', vd', hs'⟩, ac, cc⟩) rfl rfl (cells_newN _ (rc1 ⟨⟨t', kh', kd', vh', vd', hs'⟩, ac, cc⟩) _ _ rfl) (rc1_one _) (by decide) (by unfold maxLen; omega) (by omega) (Nat.zero_le _) ?_
    intro g4 cap4 z4 hown4 hcase
    have hW := wait_mid (x := ⟨⟨t', kh', kd', vh', vd', hs'⟩, ac, cc⟩) HHe.out hd0 hb2 hg2 hr2 ho2 hown4 hcase hs0
    have hg4 := hW.2.1
    have hr4 := hW.1
    refine hK.out _ _ (cells6 hr4) (fun hHeld => ?_)
    clear hK K
    try simp only [Act.put, List.setIfInBounds_toArray, List.set_cons_zero, List.set_cons_succ]
    refine wpAnyH_take (i := 10) (oi := { dst := some 16, op := Op.nilCheck (Operand.tmp 6), type := 0, pos := "gather.go:71", after := #[{ on := 0, ground := Ground.data }, { on := 0, ground := Ground.phase }, { on := 1, ground := Ground.phase }, { on := 2, ground := Ground.phase }, { on := 3, ground := Ground.phase }, { on := 4, ground := Ground.phase }, { on := 5, ground := Ground.phase }, { on := 6, ground := Ground.phase }, { on := 7, ground := Ground.phase }, { on := 8, ground := Ground.phase }, { on := 9, ground := Ground.phase }], guard := none }) (v := ?_) rfl (by kernel_rfl) (by kernel_rfl) (by kernel_rfl) (fun _ _ _ h => h) (Or.inl ⟨by rfl, ?_⟩) (by assumption) ?_
    rotate_left
    · (intro z hSw; (try dsimp only at hSw); go_simp)
      all_goals with_reducible rfl
    try simp only [Act.put, List.setIfInBounds_toArray, List.set_cons_zero, List.set_cons_succ]
    refine wpAnyH_take (i := 11) (oi := { dst := some 17, op := Op.fieldAddr 30 (Operand.tmp 16) 1, type := 0, pos := "gather.go:71", after := #[{ on := 10, ground := Ground.data }, { on := 0, ground := Ground.phase }, { on := 1, ground := Ground.phase }, { on := 2, ground := Ground.phase }, { on := 3, ground := Ground.phase }, { on := 4, ground := Ground.phase }, { on := 5, ground := Ground.phase }, { on := 6, ground := Ground.phase }, { on := 7, ground := Ground.phase }, { on := 8, ground := Ground.phase }, { on := 9, ground := Ground.phase }], guard := none }) (v := ?_) rfl (by kernel_rfl) (by kernel_rfl) (by kernel_rfl) (fun _ _ _ h => h) (Or.inl ⟨by rfl, ?_⟩) (by assumption) ?_
    rotate_left
    · (intro z hSw; (try dsimp only at hSw); go_simp)
      all_goals with_reducible rfl
    try simp only [Act.put, List.setIfInBounds_toArray, List.set_cons_zero, List.set_cons_succ]
    refine wpAnyH_take (i := 12) (oi := { dst := some 18, op := Op.fieldAddr 28 (Operand.tmp 17) 4, type := 0, pos := "gather.go:71", after := #[{ on := 11, ground := Ground.data }, { on := 0, ground := Ground.phase }, { on := 1, ground := Ground.phase }, { on := 2, ground := Ground.phase }, { on := 3, ground := Ground.phase }, { on := 4, ground := Ground.phase }, { on := 5, ground := Ground.phase }, { on := 6, ground := Ground.phase }, { on := 7, ground := Ground.phase }, { on := 8, ground := Ground.phase }, { on := 9, ground := Ground.phase }], guard := none }) (v := ?_) rfl (by kernel_rfl) (by kernel_rfl) (by kernel_rfl) (fun _ _ _ h => h) (Or.inl ⟨by rfl, ?_⟩) (by assumption) ?_
    rotate_left
    · (intro z hSw; (try dsimp only at hSw); go_simp)
      all_goals with_reducible rfl
    try simp only [Act.put, List.setIfInBounds_toArray, List.set_cons_zero, List.set_cons_succ]
    refine wpAnyH_ready (rs := [13]) (by kernel_rfl) (by simp) ?_
    refine AllReadyH.cons (o := { dst := none, op := Op.store 26 (Operand.tmp 18) (Operand.tmp 15), type := 0, pos := "gather.go:71", after := #[{ on := 12, ground := Ground.data }, { on := 9, ground := Ground.data }, { on := 9, ground := Ground.chain }, { on := 0, ground := Ground.phase }, { on := 1, ground := Ground.phase }, { on := 2, ground := Ground.phase }, { on := 3, ground := Ground.phase }, { on := 4, ground := Ground.phase }, { on := 5, ground := Ground.phase }, { on := 6, ground := Ground.phase }, { on := 7, ground := Ground.phase }, { on := 8, ground := Ground.phase }, { on := 9, ground := Ground.phase }], guard := none }) rfl (fun K hK => ?_) AllReadyH.nil
    have q5 := (cells7 hg4).2.2.2.2.2.1
    have fz := fun o => froz_of (i := o) hg4
    go_simp
    have hr5 : (z4.setCell ⟨g, 5, none⟩ (.slice (some ⟨g4, 0, none⟩) (rs.length + 1) cap4)).heap[w.heap.size]? = _ := heap_set_far hr4 (fun e => Nat.lt_irrefl g (Nat.lt_of_lt_of_eq hlt e))
    refine hK.out _ _ (cells6 hr5) (fun hHeld => ?_)
    clear hK K
    try simp only [Act.put, List.setIfInBounds_toArray, List.set_cons_zero, List.set_cons_succ]
    clear q5
    refine wpAnyH_done (by kernel_rfl) ?_ _
    have hg5 : (z4.setCell ⟨g, 5, none⟩ (.slice (some ⟨g4, 0, none⟩) (rs.length + 1) cap4)).heap[g]? = _ := heap_set hg4
    obtain ⟨p0, p1, p2, p3, p4, p5, p6⟩ := cells7 hg5
    have fz5 := fun o => froz_of (i := o) hg5
    have HW := hid hW.2.2
    clear hW hg5 hr5 hg4 hr4 hg2 hr2 hown4 hcase fz
    go_wp2_with fail
    go_end0
    exact ⟨rfl, _, _, rfl, HW.out _ _ rfl⟩
  · go_simp
    go_at_call 20
    refine (HCP.out _ hd0).mono ?_
    rintro e z2 ⟨⟨ac, cc, rfl, ho2⟩, hb2⟩
    go_wp2_with fail
    have hg2 := (hb2.block g (lt_of_heap hg0)).trans hg0
    have hr2 := (hb2.block w.heap.size hs0).trans hr0
    refine hK.out _ _ (cells6 hr2) (fun hHeld => ?_)
    clear hK K
    try simp only [Act.put, List.setIfInBounds_toArray, List.set_cons_zero, List.set_cons_succ]
    refine wpAnyH_ready (rs := [5, 8]) (by kernel_rfl) (by simp) ?_
    refine AllReadyH.cons (o := { dst := some 11, op := Op.load 26 (Operand.tmp 10), type := 26, pos := "gather.go:71", after := #[{ on := 4, ground := Ground.data }], guard := none }) rfl (fun K hK => ?_) (AllReadyH.cons (o := { dst := some 14, op := Op.buildSlice 26 1 #[(0, Operand.tmp 13)], type := 26, pos := "gather.go:71", after := #[{ on := 7, ground := Ground.data }], guard := none }) rfl (fun K hK => ?_) AllReadyH.nil)
    · have q5 := (cells7 hg2).2.2.2.2.2.1
      go_simp
      refine hK.out _ _ (cells6 hr2) (fun hHeld => ?_)
      clear hK K
      try simp only [Act.put, List.setIfInBounds_toArray, List.set_cons_zero, List.set_cons_succ]
      clear q5
      refine wpAnyH_ready (rs := [8]) (by kernel_rfl) (by simp) ?_
      refine AllReadyH.cons (o := { dst := some 14, op := Op.buildSlice 26 1 #[(0, Operand.tmp 13)], type := 26, pos := "gather.go:71", after := #[{ on := 7, ground := Ground.data }], guard := none }) rfl (fun K hK => ?_) AllReadyH.nil
      go_simp
      have hg3 := (below_alloc (o := .cells (rc1 ⟨⟨t', kh', kd', vh', vd', hs'⟩, ac, cc⟩).toArray 40) (lt_of_heap hg2)).trans hg2
      have hr3 := (below_alloc (o := .cells (rc1 ⟨⟨t', kh', kd', vh', vd', hs'⟩, ac, cc⟩).toArray 40) (lt_of_heap hr2)).trans hr2
      refine hK.out _ _ (cells6 hr3) (fun hHeld => ?_)
      clear hK K
      try simp only [Act.put, List.setIfInBounds_toArray, List.set_cons_zero, List.set_cons_succ]
      refine wpAnyH_ready (rs := [9]) (by kernel_rfl) (by simp) ?_
      refine AllReadyH.cons (o := { dst := some 15, op := Op.call { callee := Callee.builtin Builtin.append, args := #[Operand.tmp 11, Operand.tmp 14], argTypes := #[26, 26] }, type := 26, pos := "gather.go:71", after := #[{ on := 5, ground := Ground.data }, { on := 8, ground := Ground.data }, { on := 7, ground := Ground.chain }], guard := none }) rfl (fun K hK => ?_) AllReadyH.nil
      refine wp_append_two _ _ _ 26 rfl 0 40 i0 (.agg #[.int .i64 0, .bool false, .string ⟨#[]⟩, .bool false, .string ⟨#[]⟩, .slice none 0 0]) 6 80 Try.underRecs hi hz0 hz1 hz2 rfl (by decide) v rs.length (rcs rs) rfl ((wait_row HHe.out hd0 hb2).alloc _) ⟨z2.heap.size, 0, none⟩ 1 1 (rc1 ⟨⟨t', kh', kd', vh', vd', hs'⟩, ac, cc⟩) rfl rfl (cells_newN _ (rc1 ⟨⟨t', kh', kd', vh', vd', hs'⟩, ac, cc⟩) _ _ rfl) (rc1_one _) (by decide) (by unfold maxLen; omega) (by omega) (Nat.zero_le _) ?_
      intro g4 cap4 z4 hown4 hcase
      have hW := wait_mid (x := ⟨⟨t', kh', kd', vh', vd', hs'⟩, ac, cc⟩) HHe.out hd0 hb2 hg2 hr2 ho2 hown4 hcase hs0
      have hg4 := hW.2.1
      have hr4 := hW.1
      refine hK.out _ _ (cells6 hr4) (fun hHeld => ?_)
      clear hK K
      try simp only [Act.put, List.setIfInBounds_toArray, List.set_cons_zero, List.set_cons_succ]
      refine wpAnyH_take (i := 10) (oi := { dst := some 16, op := Op.nilCheck (Operand.tmp 6), type := 0, pos := "gather.go:71", after := #[{ on := 0, ground := Ground.data }, { on := 0, ground := Ground.phase }, { on := 1, ground := Ground.phase }, { on := 2, ground := Ground.phase }, { on := 3, ground := Ground.phase }, { on := 4, ground := Ground.phase }, { on := 5, ground := Ground.phase }, { on := 6, ground := Ground.phase }, { on := 7, ground := Ground.phase }, { on := 8, ground := Ground.phase }, { on := 9, ground := Ground.phase }], guard := none }) (v := ?_) rfl (by kernel_rfl) (by kernel_rfl) (by kernel_rfl) (fun _ _ _ h => h) (Or.inl ⟨by rfl, ?_⟩) (by assumption) ?_
      rotate_left
      · (intro z hSw; (try dsimp only at hSw); go_simp)
        all_goals with_reducible rfl
      try simp only [Act.put, List.setIfInBounds_toArray, List.set_cons_zero, List.set_cons_succ]
      refine wpAnyH_take (i := 11) (oi := { dst := some 17, op := Op.fieldAddr 30 (Operand.tmp 16) 1, type := 0, pos := "gather.go:71", after := #[{ on := 10, ground := Ground.data }, { on := 0, ground := Ground.phase }, { on := 1, ground := Ground.phase }, { on := 2, ground := Ground.phase }, { on := 3, ground := Ground.phase }, { on := 4, ground := Ground.phase }, { on := 5, ground := Ground.phase }, { on := 6, ground := Ground.phase }, { on := 7, ground := Ground.phase }, { on := 8, ground := Ground.phase }, { on := 9, ground := Ground.phase }], guard := none }) (v := ?_) rfl (by kernel_rfl) (by kernel_rfl) (by kernel_rfl) (fun _ _ _ h => h) (Or.inl ⟨by rfl, ?_⟩) (by assumption) ?_
      rotate_left
      · (intro z hSw; (try dsimp only at hSw); go_simp)
        all_goals with_reducible rfl
      try simp only [Act.put, List.setIfInBounds_toArray, List.set_cons_zero, List.set_cons_succ]
      refine wpAnyH_take (i := 12) (oi := { dst := some 18, op := Op.fieldAddr 28 (Operand.tmp 17) 4, type := 0, pos := "gather.go:71", after := #[{ on := 11, ground := Ground.data }, { on := 0, ground := Ground.phase }, { on := 1, ground := Ground.phase }, { on := 2, ground := Ground.phase }, { on := 3, ground := Ground.phase }, { on := 4, ground := Ground.phase }, { on := 5, ground := Ground.phase }, { on := 6, ground := Ground.phase }, { on := 7, ground := Ground.phase }, { on := 8, ground := Ground.phase }, { on := 9, ground := Ground.phase }], guard := none }) (v := ?_) rfl (by kernel_rfl) (by kernel_rfl) (by kernel_rfl) (fun _ _ _ h => h) (Or.inl ⟨by rfl, ?_⟩) (by assumption) ?_
      rotate_left
      · (intro z hSw; (try dsimp only at hSw); go_simp)
        all_goals with_reducible rfl
      try simp only [Act.put, List.setIfInBounds_toArray, List.set_cons_zero, List.set_cons_succ]
      refine wpAnyH_ready (rs := [13]) (by kernel_rfl) (by simp) ?_
      refine AllReadyH.cons (o := { dst := none, op := Op.store 26 (Operand.tmp 18) (Operand.tmp 15), type := 0, pos := "gather.go:71", after := #[{ on := 12, ground := Ground.data }, { on := 9, ground := Ground.data }, { on := 9, ground := Ground.chain }, { on := 0, ground := Ground.phase }, { on := 1, ground := Ground.phase }, { on := 2, ground := Ground.phase }, { on := 3, ground := Ground.phase }, { on := 4, ground := Ground.phase }, { on := 5, ground := Ground.phase }, { on := 6, ground := Ground.phase }, { on := 7, ground := Ground.phase }, { on := 8, ground := Ground.phase }, { on := 9, ground := Ground.phase }], guard := none }) rfl (fun K hK => ?_) AllReadyH.nil
      have q5 := (cells7 hg4).2.2.2.2.2.1
      have fz := fun o => froz_of (i := o) hg4
      go_simp
      have hr5 : (z4.setCell ⟨g, 5, none⟩ (.slice (some ⟨g4, 0, none⟩) (rs.length + 1) cap4)).heap[w.heap.size]? = _ := heap_set_far hr4 (fun e => Nat.lt_irrefl g (Nat.lt_of_lt_of_eq hlt e))
      refine hK.out _ _ (cells6 hr5) (fun hHeld => ?_)
      clear hK K
      try simp only [Act.put, List.setIfInBounds_toArray, List.set_cons_zero, List.set_cons_succ]
      clear q5
      refine wpAnyH_done (by kernel_rfl) ?_ _
      have hg5 : (z4.setCell ⟨g, 5, none⟩ (.slice (some ⟨g4, 0, none⟩) (rs.length + 1) cap4)).heap[g]? = _ := heap_set hg4
      obtain ⟨p0, p1, p2, p3, p4, p5, p6⟩ := cells7 hg5
      have fz5 := fun o => froz_of (i := o) hg5
      have HW := hid hW.2.2
      clear hW hg5 hr5 hg4 hr4 hg2 hr2 hown4 hcase fz
      go_wp2_with fail
      go_end0
      exact ⟨rfl, _, _, rfl, HW.out _ _ rfl⟩
    · go_simp
      have hg3 := (below_alloc (o := .cells (rc1 ⟨⟨t', kh', kd', vh', vd', hs'⟩, ac, cc⟩).toArray 40) (lt_of_heap hg2)).trans hg2
      have hr3 := (below_alloc (o := .cells (rc1 ⟨⟨t', kh', kd', vh', vd', hs'⟩, ac, cc⟩).toArray 40) (lt_of_heap hr2)).trans hr2
      refine hK.out _ _ (cells6 hr3) (fun hHeld => ?_)
      clear hK K
      try simp only [Act.put, List.setIfInBounds_toArray, List.set_cons_zero, List.set_cons_succ]
      refine wpAnyH_ready (rs := [5]) (by kernel_rfl) (by simp) ?_
      refine AllReadyH.cons (o := { dst := some 11, op := Op.load 26 (Operand.tmp 10), type := 26, pos := "gather.go:71", after := #[{ on := 4, ground := Ground.data }], guard := none }) rfl (fun K hK => ?_) AllReadyH.nil
      have hl2 := lt_of_heap hg2
      have q5 := (cells7 hg2).2.2.2.2.2.1
      go_simp
      refine hK.out _ _ (cells6 hr3) (fun hHeld => ?_)
      clear hK K
      try simp only [Act.put, List.setIfInBounds_toArray, List.set_cons_zero, List.set_cons_succ]
      clear q5
      refine wpAnyH_ready (rs := [9]) (by kernel_rfl) (by simp) ?_
      refine AllReadyH.cons (o := { dst := some 15, op := Op.call { callee := Callee.builtin Builtin.append, args := #[Operand.tmp 11, Operand.tmp 14], argTypes := #[26, 26] }, type := 26, pos := "gather.go:71", after := #[{ on := 5, ground := Ground.data }, { on := 8, ground := Ground.data }, { on := 7, ground := Ground.chain }], guard := none }) rfl (fun K hK => ?_) AllReadyH.nil
      refine wp_append_two _ _ _ 26 rfl 0 40 i0 (.agg #[.int .i64 0, .bool false, .string ⟨#[]⟩, .bool false, .string ⟨#[]⟩, .slice none 0 0]) 6 80 Try.underRecs hi hz0 hz1 hz2 rfl (by decide) v rs.length (rcs rs) rfl ((wait_row HHe.out hd0 hb2).alloc _) ⟨z2.heap.size, 0, none⟩ 1 1 (rc1 ⟨⟨t', kh', kd', vh', vd', hs'⟩, ac, cc⟩) rfl rfl (cells_newN _ (rc1 ⟨⟨t', kh', kd', vh', vd', hs'⟩, ac, cc⟩) _ _ rfl) (rc1_one _) (by decide) (by unfold maxLen; omega) (by omega) (Nat.zero_le _) ?_
      intro g4 cap4 z4 hown4 hcase
      have hW := wait_mid (x := ⟨⟨t', kh', kd', vh', vd', hs'⟩, ac, cc⟩) HHe.out hd0 hb2 hg2 hr2 ho2 hown4 hcase hs0
      have hg4 := hW.2.1
      have hr4 := hW.1
      refine hK.out _ _ (cells6 hr4) (fun hHeld => ?_)
      clear hK K
      try simp only [Act.put, List.setIfInBounds_toArray, List.set_cons_zero, List.set_cons_succ]
      refine wpAnyH_take (i := 10) (oi := { dst := some 16, op := Op.nilCheck (Operand.tmp 6), type := 0, pos := "gather.go:71", after := #[{ on := 0, ground := Ground.data }, { on := 0, ground := Ground.phase }, { on := 1, ground := Ground.phase }, { on := 2, ground := Ground.phase }, { on := 3, ground := Ground.phase }, { on := 4, ground := Ground.phase }, { on := 5, ground := Ground.phase }, { on := 6, ground := Ground.phase }, { on := 7, ground := Ground.phase }, { on := 8, ground := Ground.phase }, { on := 9, ground := Ground.phase }], guard := none }) (v := ?_) rfl (by kernel_rfl) (by kernel_rfl) (by kernel_rfl) (fun _ _ _ h => h) (Or.inl ⟨by rfl, ?_⟩) (by assumption) ?_
      rotate_left
      · (intro z hSw; (try dsimp only at hSw); go_simp)
        all_goals with_reducible rfl
      try simp only [Act.put, List.setIfInBounds_toArray, List.set_cons_zero, List.set_cons_succ]
      refine wpAnyH_take (i := 11) (oi := { dst := some 17, op := Op.fieldAddr 30 (Operand.tmp 16) 1, type := 0, pos := "gather.go:71", after := #[{ on := 10, ground := Ground.data }, { on := 0, ground := Ground.phase }, { on := 1, ground := Ground.phase }, { on := 2, ground := Ground.phase }, { on := 3, ground := Ground.phase }, { on := 4, ground := Ground.phase }, { on := 5, ground := Ground.phase }, { on := 6, ground := Ground.phase }, { on := 7, ground := Ground.phase }, { on := 8, ground := Ground.phase }, { on := 9, ground := Ground.phase }], guard := none }) (v := ?_) rfl (by kernel_rfl) (by kernel_rfl) (by kernel_rfl) (fun _ _ _ h => h) (Or.inl ⟨by rfl, ?_⟩) (by assumption) ?_
      rotate_left
      · (intro z hSw; (try dsimp only at hSw); go_simp)
        all_goals with_reducible rfl
      try simp only [Act.put, List.setIfInBounds_toArray, List.set_cons_zero, List.set_cons_succ]
      refine wpAnyH_take (i := 12) (oi := { dst := some 18, op := Op.fieldAddr 28 (Operand.tmp 17) 4, type := 0, pos := "gather.go:71", after := #[{ on := 11, ground := Ground.data }, { on := 0, ground := Ground.phase }, { on := 1, ground := Ground.phase }, { on := 2, ground := Ground.phase }, { on := 3, ground := Ground.phase }, { on := 4, ground := Ground.phase }, { on := 5, ground := Ground.phase }, { on := 6, ground := Ground.phase }, { on := 7, ground := Ground.phase }, { on := 8, ground := Ground.phase }, { on := 9, ground := Ground.phase }], guard := none }) (v := ?_) rfl (by kernel_rfl) (by kernel_rfl) (by kernel_rfl) (fun _ _ _ h => h) (Or.inl ⟨by rfl, ?_⟩) (by assumption) ?_
      rotate_left
      · (intro z hSw; (try dsimp only at hSw); go_simp)
        all_goals with_reducible rfl
      try simp only [Act.put, List.setIfInBounds_toArray, List.set_cons_zero, List.set_cons_succ]
      refine wpAnyH_ready (rs := [13]) (by kernel_rfl) (by simp) ?_
      refine AllReadyH.cons (o := { dst := none, op := Op.store 26 (Operand.tmp 18) (Operand.tmp 15), type := 0, pos := "gather.go:71", after := #[{ on := 12, ground := Ground.data }, { on := 9, ground := Ground.data }, { on := 9, ground := Ground.chain }, { on := 0, ground := Ground.phase }, { on := 1, ground := Ground.phase }, { on := 2, ground := Ground.phase }, { on := 3, ground := Ground.phase }, { on := 4, ground := Ground.phase }, { on := 5, ground := Ground.phase }, { on := 6, ground := Ground.phase }, { on := 7, ground := Ground.phase }, { on := 8, ground := Ground.phase }, { on := 9, ground := Ground.phase }], guard := none }) rfl (fun K hK => ?_) AllReadyH.nil
      have q5 := (cells7 hg4).2.2.2.2.2.1
      have fz := fun o => froz_of (i := o) hg4
      go_simp
      have hr5 : (z4.setCell ⟨g, 5, none⟩ (.slice (some ⟨g4, 0, none⟩) (rs.length + 1) cap4)).heap[w.heap.size]? = _ := heap_set_far hr4 (fun e => Nat.lt_irrefl g (Nat.lt_of_lt_of_eq hlt e))
      refine hK.out _ _ (cells6 hr5) (fun hHeld => ?_)
      clear hK K
      try simp only [Act.put, List.setIfInBounds_toArray, List.set_cons_zero, List.set_cons_succ]
      clear q5
      refine wpAnyH_done (by kernel_rfl) ?_ _
      have hg5 : (z4.setCell ⟨g, 5, none⟩ (.slice (some ⟨g4, 0, none⟩) (rs.length + 1) cap4)).heap[g]? = _ := heap_set hg4
      obtain ⟨p0, p1, p2, p3, p4, p5, p6⟩ := cells7 hg5
      have fz5 := fun o => froz_of (i := o) hg5
      have HW := hid hW.2.2
      clear hW hg5 hr5 hg4 hr4 hg2 hr2 hown4 hcase fz
      go_wp2_with fail
      go_end0
      exact ⟨rfl, _, _, rfl, HW.out _ _ rfl⟩
end Go.Proofs.Ytlbkkeoffeohnab
