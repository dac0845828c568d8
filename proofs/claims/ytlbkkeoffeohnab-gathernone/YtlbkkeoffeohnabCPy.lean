import Derived.Test.YtlbkkeoffeohnabCPs
import Derived.Deep.AppendLies
/- record.Copy. -/
namespace Go.Proofs.Ytlbkkeoffeohnab
open Go.RowKit
theorem held6 {w0 x : World} {B P : Nat} {T : TypeId} {v0 v1 v2 v3 v4 v5 : Value} (h : w0.heap[P]? = some (.cells #[v0, v1, v2, v3, v4, v5] T (0, 0))) (hP : P < B) (hb : Below B w0 x) :
    (x.cell? ⟨P, 0, none⟩ = some v0 ∧ x.cell? ⟨P, 1, none⟩ = some v1 ∧ x.cell? ⟨P, 2, none⟩ = some v2 ∧ x.cell? ⟨P, 3, none⟩ = some v3 ∧ x.cell? ⟨P, 4, none⟩ = some v4 ∧ x.cell? ⟨P, 5, none⟩ = some v5) ∧ Below B w0 x := ⟨cells6 ((hb.block P hP).trans h), hb⟩
theorem bel6 {w0 x : World} {B G : Nat} {v0 v1 v2 v3 v4 v5 : Value} (h : Below B w0 x) (hG : B ≤ G) : Below B w0 ((((((x.setCell ⟨G, 0, none⟩ v0).setCell ⟨G, 1, none⟩ v1).setCell ⟨G, 2, none⟩ v2).setCell ⟨G, 3, none⟩ v3).setCell ⟨G, 4, none⟩ v4).setCell ⟨G, 5, none⟩ v5) :=
  (((((h.setCell hG _).setCell hG _).setCell hG _).setCell hG _).setCell hG _).setCell hG _
theorem heap6 {x : World} {G : Nat} {T : TypeId} {u0 u1 u2 u3 u4 u5 v0 v1 v2 v3 v4 v5 : Value} (h : x.heap[G]? = some (.cells #[u0, u1, u2, u3, u4, u5] T (0, 0))) :
    ((((((x.setCell ⟨G, 0, none⟩ v0).setCell ⟨G, 1, none⟩ v1).setCell ⟨G, 2, none⟩ v2).setCell ⟨G, 3, none⟩ v3).setCell ⟨G, 4, none⟩ v4).setCell ⟨G, 5, none⟩ v5).heap[G]? = some (.cells #[v0, v1, v2, v3, v4, v5] T (0, 0)) := heap_set (heap_set (heap_set (heap_set (heap_set (heap_set h)))))
set_option maxHeartbeats 1000000 in
set_option maxRecDepth 20000 in
theorem copy_any (t : Int) (kh vh : Bool) (kd vd : ByteArray) (hs : List Hdr) (a : Option Addr) (cap : Nat) (w : World) (V : Hds w a hs) (hz : hs.length ≤ 1048576) :
    Calls Try.prog 20 #[.agg #[.int .i64 t, .bool kh, .string kd, .bool vh, .string vd, .slice a hs.length cap]] w fun e w' => (∃ a' cap', e = .returned (recV (cln ⟨t, kh, kd, vh, vd, hs⟩) a' cap') ∧ OwnH w' w.heap.size (.slice a' (cln ⟨t, kh, kd, vh, vd, hs⟩).hs.length cap') (cln ⟨t, kh, kd, vh, vd, hs⟩).hs) ∧ Below w.heap.size w w' := by
  have HVV := hid V
  have HZZ := hid hz
  clear V hz
  go_enter Try.func20, Try.ntmps20
  go_wp2_with fail
  have h1 : ((w.alloc (.cells #[.int .i64 t, .bool kh, .string kd, .bool vh, .string vd, .slice a hs.length cap] 40)).alloc (.cells #[.int .i64 0, .bool false, .string ⟨#[]⟩, .bool false, .string ⟨#[]⟩, .slice none 0 0] 40)).heap[w.heap.size]? = some (.cells #[.int .i64 t, .bool kh, .string kd, .bool vh, .string vd, .slice a hs.length cap] 40 (0, 0)) := heap_alloc_at (heap_new _ _)
  have h2 : ((w.alloc (.cells #[.int .i64 t, .bool kh, .string kd, .bool vh, .string vd, .slice a hs.length cap] 40)).alloc (.cells #[.int .i64 0, .bool false, .string ⟨#[]⟩, .bool false, .string ⟨#[]⟩, .slice none 0 0] 40)).heap[w.heap.size + 1]? = some (.cells #[.int .i64 0, .bool false, .string ⟨#[]⟩, .bool false, .string ⟨#[]⟩, .slice none 0 0] 40 (0, 0)) := heap_new' _ _ _ (by simp)
  have hb0 : Below w.heap.size w ((w.alloc (.cells #[.int .i64 t, .bool kh, .string kd, .bool vh, .string vd, .slice a hs.length cap] 40)).alloc (.cells #[.int .i64 0, .bool false, .string ⟨#[]⟩, .bool false, .string ⟨#[]⟩, .slice none 0 0] 40)) := ((Below.refl _ w).alloc (Nat.le_refl _) _).alloc (by simp) _
  have hs1 : ((w.alloc (.cells #[.int .i64 t, .bool kh, .string kd, .bool vh, .string vd, .slice a hs.length cap] 40)).alloc (.cells #[.int .i64 0, .bool false, .string ⟨#[]⟩, .bool false, .string ⟨#[]⟩, .slice none 0 0] 40)).heap.size = w.heap.size + 2 := by simp
  generalize ((w.alloc (.cells #[.int .i64 t, .bool kh, .string kd, .bool vh, .string vd, .slice a hs.length cap] 40)).alloc (.cells #[.int .i64 0, .bool false, .string ⟨#[]⟩, .bool false, .string ⟨#[]⟩, .slice none 0 0] 40)) = W2 at *
  have hB : w.heap.size + 2 ≤ W2.heap.size := by omega
  have HB1 := hid hb0
  have h0 : Below (w.heap.size + 2) W2 W2 := Below.refl _ _
  have H1 := hid h1
  have H2 := hid h2
  have y1 : w.heap.size < w.heap.size + 2 := by omega
  have y2 : w.heap.size + 1 < w.heap.size + 2 := by omega
  clear h1 h2 hb0
  go_cut [3] (fun v wc => ∃ G, v = .pointer (some ⟨G, 0, none⟩) ∧ w.heap.size + 2 ≤ G ∧ wc.heap[G]? = some (.cells #[.int .i64 t, .bool kh, .string (bd kh kd), .bool vh, .string (bd vh vd), .slice none 0 0] 40 (0, 0)) ∧ Below (w.heap.size + 2) W2 wc)
  case first =>
    refine wp_region_held_drew (S := fun x => (x.cell? ⟨w.heap.size, 0, none⟩ = some (.int .i64 t) ∧ x.cell? ⟨w.heap.size, 1, none⟩ = some (.bool kh) ∧ x.cell? ⟨w.heap.size, 2, none⟩ = some (.string kd) ∧ x.cell? ⟨w.heap.size, 3, none⟩ = some (.bool vh) ∧ x.cell? ⟨w.heap.size, 4, none⟩ = some (.string vd) ∧ x.cell? ⟨w.heap.size, 5, none⟩ = some (.slice a hs.length cap)) ∧ Below (w.heap.size + 2) W2 x) (by kernel_rfl) (held6 H1.out y1 (Below.drew h0)) (fun hHeld => ?_)
    refine wpAnyH_take (i := 0) (oi := { dst := some 6, op := Op.fieldAddr 40 (Operand.tmp 1) 0, type := 0, pos := "record.go:120", after := #[], guard := none }) (v := ?_) rfl (by kernel_rfl) (by kernel_rfl) (by kernel_rfl) (fun _ _ _ h => h) (Or.inl ⟨by rfl, ?_⟩) (by assumption) ?_
    rotate_left
    · (intro z hSw; (try dsimp only at hSw); go_simp)
      all_goals with_reducible rfl
    try simp only [Act.put, List.setIfInBounds_toArray, List.set_cons_zero, List.set_cons_succ]
    refine wpAnyH_take (i := 1) (oi := { dst := some 7, op := Op.load 2 (Operand.tmp 6), type := 2, pos := "record.go:120", after := #[{ on := 0, ground := Ground.data }], guard := none }) (v := ?_) rfl (by kernel_rfl) (by kernel_rfl) (by kernel_rfl) (fun _ _ _ h => h) (Or.inl ⟨by rfl, ?_⟩) (by assumption) ?_
    rotate_left
    · (intro z hSw; (try dsimp only at hSw); go_simp)
      all_goals with_reducible rfl
    try simp only [Act.put, List.setIfInBounds_toArray, List.set_cons_zero, List.set_cons_succ]
    refine wpAnyH_take (i := 2) (oi := { dst := some 8, op := Op.fieldAddr 40 (Operand.tmp 1) 1, type := 0, pos := "record.go:120", after := #[], guard := none }) (v := ?_) rfl (by kernel_rfl) (by kernel_rfl) (by kernel_rfl) (fun _ _ _ h => h) (Or.inl ⟨by rfl, ?_⟩) (by assumption) ?_
    rotate_left
    · (intro z hSw; (try dsimp only at hSw); go_simp)
      all_goals with_reducible rfl
    try simp only [Act.put, List.setIfInBounds_toArray, List.set_cons_zero, List.set_cons_succ]
    refine wpAnyH_take (i := 3) (oi := { dst := some 9, op := Op.load 37 (Operand.tmp 8), type := 37, pos := "record.go:120", after := #[{ on := 2, ground := Ground.data }], guard := none }) (v := ?_) rfl (by kernel_rfl) (by kernel_rfl) (by kernel_rfl) (fun _ _ _ h => h) (Or.inl ⟨by rfl, ?_⟩) (by assumption) ?_
    rotate_left
    · (intro z hSw; (try dsimp only at hSw); go_simp)
      all_goals with_reducible rfl
    try simp only [Act.put, List.setIfInBounds_toArray, List.set_cons_zero, List.set_cons_succ]
    refine wpAnyH_take (i := 5) (oi := { dst := some 11, op := Op.fieldAddr 40 (Operand.tmp 1) 2, type := 0, pos := "record.go:120", after := #[], guard := none }) (v := ?_) rfl (by kernel_rfl) (by kernel_rfl) (by kernel_rfl) (fun _ _ _ h => h) (Or.inl ⟨by rfl, ?_⟩) (by assumption) ?_
    rotate_left
    · (intro z hSw; (try dsimp only at hSw); go_simp)
      all_goals with_reducible rfl
    try simp only [Act.put, List.setIfInBounds_toArray, List.set_cons_zero, List.set_cons_succ]
    refine wpAnyH_take (i := 6) (oi := { dst := some 12, op := Op.load 37 (Operand.tmp 11), type := 37, pos := "record.go:120", after := #[{ on := 5, ground := Ground.data }], guard := none }) (v := ?_) rfl (by kernel_rfl) (by kernel_rfl) (by kernel_rfl) (fun _ _ _ h => h) (Or.inl ⟨by rfl, ?_⟩) (by assumption) ?_
    rotate_left
    · (intro z hSw; (try dsimp only at hSw); go_simp)
      all_goals with_reducible rfl
    try simp only [Act.put, List.setIfInBounds_toArray, List.set_cons_zero, List.set_cons_succ]
    refine wpAnyH_ready (rs := [4, 9]) (by kernel_rfl) (by simp) ?_
    refine AllReadyH.cons (o := { dst := some 10, op := Op.call { callee := Callee.value (Operand.func 25), args := #[Operand.tmp 9], argTypes := #[37] }, type := 37, pos := "record.go:120", after := #[{ on := 3, ground := Ground.data }], guard := none }) rfl (fun K hK => ?_) (AllReadyH.cons (o := { dst := some 3, op := Op.alloc 40, type := 0, pos := "record.go:120", after := #[], guard := none }) rfl (fun K hK => ?_) AllReadyH.nil)
    · go_simp
      go_at_call 25
      refine (bare_any _ _ _).mono ?_
      rintro e z1 ⟨rfl, hb1⟩
      go_wp2_with fail
      refine hK.out _ _ (held6 H1.out y1 (bel_next hHeld.2 hB hb1)) (fun hHeld => ?_)
      clear hK K
      try simp only [Act.put, List.setIfInBounds_toArray, List.set_cons_zero, List.set_cons_succ]
      refine wpAnyH_ready (rs := [7, 9]) (by kernel_rfl) (by simp) ?_
      refine AllReadyH.cons (o := { dst := some 13, op := Op.call { callee := Callee.value (Operand.func 25), args := #[Operand.tmp 12], argTypes := #[37] }, type := 37, pos := "record.go:120", after := #[{ on := 6, ground := Ground.data }, { on := 4, ground := Ground.chain }], guard := none }) rfl (fun K hK => ?_) (AllReadyH.cons (o := { dst := some 3, op := Op.alloc 40, type := 0, pos := "record.go:120", after := #[], guard := none }) rfl (fun K hK => ?_) AllReadyH.nil)
      · go_simp
        go_at_call 25
        refine (bare_any _ _ _).mono ?_
        rintro e z2 ⟨rfl, hb2⟩
        go_wp2_with fail
        refine hK.out _ _ (held6 H1.out y1 (bel_next hHeld.2 hB hb2)) (fun hHeld => ?_)
        clear hK K
        try simp only [Act.put, List.setIfInBounds_toArray, List.set_cons_zero, List.set_cons_succ]
        refine wpAnyH_take (i := 8) (oi := { dst := some 14, op := Op.build 40 #[(0, Operand.tmp 7), (1, Operand.tmp 10), (2, Operand.tmp 13)], type := 40, pos := "record.go:120", after := #[{ on := 1, ground := Ground.data }, { on := 4, ground := Ground.data }, { on := 7, ground := Ground.data }], guard := none }) (v := ?_) rfl (by kernel_rfl) (by kernel_rfl) (by kernel_rfl) (fun _ _ _ h => h) (Or.inl ⟨by rfl, ?_⟩) (by assumption) ?_
        rotate_left
        · (intro z hSw; (try dsimp only at hSw); go_simp)
          all_goals with_reducible rfl
        try simp only [Act.put, List.setIfInBounds_toArray, List.set_cons_zero, List.set_cons_succ]
        refine wpAnyH_ready (rs := [9]) (by kernel_rfl) (by simp) ?_
        refine AllReadyH.cons (o := { dst := some 3, op := Op.alloc 40, type := 0, pos := "record.go:120", after := #[], guard := none }) rfl (fun K hK => ?_) AllReadyH.nil
        go_simp
        have hge : w.heap.size + 2 ≤ z2.heap.size := Nat.le_trans hB hHeld.2.size
        refine hK.out _ _ (held6 H1.out y1 (hHeld.2.alloc (Nat.le_trans hB hHeld.2.size) _)) (fun hHeld => ?_)
        have hg : (z2.alloc (.cells #[.int .i64 0, .bool false, .string ⟨#[]⟩, .bool false, .string ⟨#[]⟩, .slice none 0 0] 40)).heap[z2.heap.size]? = some (.cells #[.int .i64 0, .bool false, .string ⟨#[]⟩, .bool false, .string ⟨#[]⟩, .slice none 0 0] 40 (0, 0)) := heap_new _ _
        clear hK K
        generalize z2.heap.size = G at hge hg ⊢
        generalize (z2.alloc (.cells #[.int .i64 0, .bool false, .string ⟨#[]⟩, .bool false, .string ⟨#[]⟩, .slice none 0 0] 40)) = zA at *
        try simp only [Act.put, List.setIfInBounds_toArray, List.set_cons_zero, List.set_cons_succ]
        refine wpAnyH_ready (rs := [10]) (by kernel_rfl) (by simp) ?_
        refine AllReadyH.cons (o := { dst := none, op := Op.store 40 (Operand.tmp 3) (Operand.tmp 14), type := 0, pos := "record.go:120", after := #[{ on := 9, ground := Ground.data }, { on := 8, ground := Ground.data }, { on := 7, ground := Ground.chain }, { on := 0, ground := Ground.phase }, { on := 1, ground := Ground.phase }, { on := 2, ground := Ground.phase }, { on := 3, ground := Ground.phase }, { on := 4, ground := Ground.phase }, { on := 5, ground := Ground.phase }, { on := 6, ground := Ground.phase }, { on := 7, ground := Ground.phase }, { on := 8, ground := Ground.phase }, { on := 9, ground := Ground.phase }], guard := none }) rfl (fun K hK => ?_) AllReadyH.nil
        obtain ⟨m0, m1, m2, m3, m4, m5⟩ := cells6 hg
        have fz := fun o => froz_of (i := o) hg
        go_simp
        refine hK.out _ _ (held6 H1.out y1 (bel6 hHeld.2 hge)) (fun hHeld => ?_)
        have hg6 := heap6 hg (v0 := .int .i64 t) (v1 := .bool kh) (v2 := .string (bd kh kd)) (v3 := .bool vh) (v4 := .string (bd vh vd)) (v5 := .slice none 0 0)
        clear hK K m0 m1 m2 m3 m4 m5 fz hg
        try simp only [Act.put, List.setIfInBounds_toArray, List.set_cons_zero, List.set_cons_succ]
        refine wpAnyH_done (by kernel_rfl) ?_ _
        go_wp2
        go_meet
        case rel => exact ⟨G, rfl, hge, hg6, hHeld.2⟩
      · go_simp
        have hge : w.heap.size + 2 ≤ z1.heap.size := Nat.le_trans hB hHeld.2.size
        refine hK.out _ _ (held6 H1.out y1 (hHeld.2.alloc (Nat.le_trans hB hHeld.2.size) _)) (fun hHeld => ?_)
        have hg : (z1.alloc (.cells #[.int .i64 0, .bool false, .string ⟨#[]⟩, .bool false, .string ⟨#[]⟩, .slice none 0 0] 40)).heap[z1.heap.size]? = some (.cells #[.int .i64 0, .bool false, .string ⟨#[]⟩, .bool false, .string ⟨#[]⟩, .slice none 0 0] 40 (0, 0)) := heap_new _ _
        clear hK K
        generalize z1.heap.size = G at hge hg ⊢
        generalize (z1.alloc (.cells #[.int .i64 0, .bool false, .string ⟨#[]⟩, .bool false, .string ⟨#[]⟩, .slice none 0 0] 40)) = zA at *
        try simp only [Act.put, List.setIfInBounds_toArray, List.set_cons_zero, List.set_cons_succ]
        refine wpAnyH_ready (rs := [7]) (by kernel_rfl) (by simp) ?_
        refine AllReadyH.cons (o := { dst := some 13, op := Op.call { callee := Callee.value (Operand.func 25), args := #[Operand.tmp 12], argTypes := #[37] }, type := 37, pos := "record.go:120", after := #[{ on := 6, ground := Ground.data }, { on := 4, ground := Ground.chain }], guard := none }) rfl (fun K hK => ?_) AllReadyH.nil
        go_simp
        go_at_call 25
        refine (bare_any _ _ _).mono ?_
        rintro e z2 ⟨rfl, hb2⟩
        go_wp2_with fail
        refine hK.out _ _ (held6 H1.out y1 (bel_next hHeld.2 hB hb2)) (fun hHeld => ?_)
        clear hK K
        try simp only [Act.put, List.setIfInBounds_toArray, List.set_cons_zero, List.set_cons_succ]
        have hg := (hb2.block G (lt_of_heap hg)).trans hg
        refine wpAnyH_take (i := 8) (oi := { dst := some 14, op := Op.build 40 #[(0, Operand.tmp 7), (1, Operand.tmp 10), (2, Operand.tmp 13)], type := 40, pos := "record.go:120", after := #[{ on := 1, ground := Ground.data }, { on := 4, ground := Ground.data }, { on := 7, ground := Ground.data }], guard := none }) (v := ?_) rfl (by kernel_rfl) (by kernel_rfl) (by kernel_rfl) (fun _ _ _ h => h) (Or.inl ⟨by rfl, ?_⟩) (by assumption) ?_
        rotate_left
        · (intro z hSw; (try dsimp only at hSw); go_simp)
          all_goals with_reducible rfl
        try simp only [Act.put, List.setIfInBounds_toArray, List.set_cons_zero, List.set_cons_succ]
        refine wpAnyH_ready (rs := [10]) (by kernel_rfl) (by simp) ?_
        refine AllReadyH.cons (o := { dst := none, op := Op.store 40 (Operand.tmp 3) (Operand.tmp 14), type := 0, pos := "record.go:120", after := #[{ on := 9, ground := Ground.data }, { on := 8, ground := Ground.data }, { on := 7, ground := Ground.chain }, { on := 0, ground := Ground.phase }, { on := 1, ground := Ground.phase }, { on := 2, ground := Ground.phase }, { on := 3, ground := Ground.phase }, { on := 4, ground := Ground.phase }, { on := 5, ground := Ground.phase }, { on := 6, ground := Ground.phase }, { on := 7, ground := Ground.phase }, { on := 8, ground := Ground.phase }, { on := 9, ground := Ground.phase }], guard := none }) rfl (fun K hK => ?_) AllReadyH.nil
        obtain ⟨m0, m1, m2, m3, m4, m5⟩ := cells6 hg
        have fz := fun o => froz_of (i := o) hg
        go_simp
        refine hK.out _ _ (held6 H1.out y1 (bel6 hHeld.2 hge)) (fun hHeld => ?_)
        have hg6 := heap6 hg (v0 := .int .i64 t) (v1 := .bool kh) (v2 := .string (bd kh kd)) (v3 := .bool vh) (v4 := .string (bd vh vd)) (v5 := .slice none 0 0)
        clear hK K m0 m1 m2 m3 m4 m5 fz hg
        try simp only [Act.put, List.setIfInBounds_toArray, List.set_cons_zero, List.set_cons_succ]
        refine wpAnyH_done (by kernel_rfl) ?_ _
        go_wp2
        go_meet
        case rel => exact ⟨G, rfl, hge, hg6, hHeld.2⟩
    · go_simp
      have hge : w.heap.size + 2 ≤ w.heap.size + 2 := Nat.le_refl _
      refine hK.out _ _ (held6 H1.out y1 (hHeld.2.alloc (Nat.le_trans hB hHeld.2.size) _)) (fun hHeld => ?_)
      have hg : (W2.alloc (.cells #[.int .i64 0, .bool false, .string ⟨#[]⟩, .bool false, .string ⟨#[]⟩, .slice none 0 0] 40)).drew.heap[w.heap.size + 2]? = some (.cells #[.int .i64 0, .bool false, .string ⟨#[]⟩, .bool false, .string ⟨#[]⟩, .slice none 0 0] 40 (0, 0)) := heap_new' W2 _ _ hs1
      clear hK K
      generalize (W2.alloc (.cells #[.int .i64 0, .bool false, .string ⟨#[]⟩, .bool false, .string ⟨#[]⟩, .slice none 0 0] 40)).drew = zA at *
      try simp only [Act.put, List.setIfInBounds_toArray, List.set_cons_zero, List.set_cons_succ]
      refine wpAnyH_ready (rs := [4]) (by kernel_rfl) (by simp) ?_
      refine AllReadyH.cons (o := { dst := some 10, op := Op.call { callee := Callee.value (Operand.func 25), args := #[Operand.tmp 9], argTypes := #[37] }, type := 37, pos := "record.go:120", after := #[{ on := 3, ground := Ground.data }], guard := none }) rfl (fun K hK => ?_) AllReadyH.nil
      go_simp
      go_at_call 25
      refine (bare_any _ _ _).mono ?_
      rintro e z1 ⟨rfl, hb1⟩
      go_wp2_with fail
      refine hK.out _ _ (held6 H1.out y1 (bel_next hHeld.2 hB hb1)) (fun hHeld => ?_)
      clear hK K
      try simp only [Act.put, List.setIfInBounds_toArray, List.set_cons_zero, List.set_cons_succ]
      have hg := (hb1.block (w.heap.size + 2) (lt_of_heap hg)).trans hg
      refine wpAnyH_ready (rs := [7]) (by kernel_rfl) (by simp) ?_
      refine AllReadyH.cons (o := { dst := some 13, op := Op.call { callee := Callee.value (Operand.func 25), args := #[Operand.tmp 12], argTypes := #[37] }, type := 37, pos := "record.go:120", after := #[{ on := 6, ground := Ground.data }, { on := 4, ground := Ground.chain }], guard := none }) rfl (fun K hK => ?_) AllReadyH.nil
      go_simp
      go_at_call 25
      refine (bare_any _ _ _).mono ?_
      rintro e z2 ⟨rfl, hb2⟩
      go_wp2_with fail
      refine hK.out _ _ (held6 H1.out y1 (bel_next hHeld.2 hB hb2)) (fun hHeld => ?_)
      clear hK K
      try simp only [Act.put, List.setIfInBounds_toArray, List.set_cons_zero, List.set_cons_succ]
      have hg := (hb2.block (w.heap.size + 2) (lt_of_heap hg)).trans hg
      refine wpAnyH_take (i := 8) (oi := { dst := some 14, op := Op.build 40 #[(0, Operand.tmp 7), (1, Operand.tmp 10), (2, Operand.tmp 13)], type := 40, pos := "record.go:120", after := #[{ on := 1, ground := Ground.data }, { on := 4, ground := Ground.data }, { on := 7, ground := Ground.data }], guard := none }) (v := ?_) rfl (by kernel_rfl) (by kernel_rfl) (by kernel_rfl) (fun _ _ _ h => h) (Or.inl ⟨by rfl, ?_⟩) (by assumption) ?_
      rotate_left
      · (intro z hSw; (try dsimp only at hSw); go_simp)
        all_goals with_reducible rfl
      try simp only [Act.put, List.setIfInBounds_toArray, List.set_cons_zero, List.set_cons_succ]
      refine wpAnyH_ready (rs := [10]) (by kernel_rfl) (by simp) ?_
      refine AllReadyH.cons (o := { dst := none, op := Op.store 40 (Operand.tmp 3) (Operand.tmp 14), type := 0, pos := "record.go:120", after := #[{ on := 9, ground := Ground.data }, { on := 8, ground := Ground.data }, { on := 7, ground := Ground.chain }, { on := 0, ground := Ground.phase }, { on := 1, ground := Ground.phase }, { on := 2, ground := Ground.phase }, { on := 3, ground := Ground.phase }, { on := 4, ground := Ground.phase }, { on := 5, ground := Ground.phase }, { on := 6, ground := Ground.phase }, { on := 7, ground := Ground.phase }, { on := 8, ground := Ground.phase }, { on := 9, ground := Ground.phase }], guard := none }) rfl (fun K hK => ?_) AllReadyH.nil
      obtain ⟨m0, m1, m2, m3, m4, m5⟩ := cells6 hg
      have fz := fun o => froz_of (i := o) hg
      go_simp
      refine hK.out _ _ (held6 H1.out y1 (bel6 hHeld.2 hge)) (fun hHeld => ?_)
      have hg6 := heap6 hg (v0 := .int .i64 t) (v1 := .bool kh) (v2 := .string (bd kh kd)) (v3 := .bool vh) (v4 := .string (bd vh vd)) (v5 := .slice none 0 0)
      clear hK K m0 m1 m2 m3 m4 m5 fz hg
      try simp only [Act.put, List.setIfInBounds_toArray, List.set_cons_zero, List.set_cons_succ]
      refine wpAnyH_done (by kernel_rfl) ?_ _
      go_wp2
      go_meet
      case rel => exact ⟨w.heap.size + 2, rfl, hge, hg6, hHeld.2⟩
  case rest =>
    obtain ⟨G, rfl, hge, hg, hb⟩ := hcut
    have HGE := hid hge
    have HBZ := hid hB
    have HI : Hid (CpI (w.heap.size + 2) W2 wc G ⟨t, kh, bd kh kd, vh, bd vh vd, []⟩ (.slice none 0 0) []) := ⟨hg, ownH_nil _ _, hb, hB⟩
    have c5 : wc.cell? ⟨w.heap.size, 5, none⟩ = some (.slice a hs.length cap) := (cells6 ((hb.block w.heap.size y1).trans H1.out)).2.2.2.2.2
    clear hge hg hb hB h0 hs1
    go_wp2_with fail
    go_loopg [18] hs.length (fun k i wr => ∃ (j : Nat) (l : List Hdr) (a' : Option Addr) (cap' : Nat), j + k = hs.length ∧ i = .int .i64 j ∧ l = (hs.map fun x => (x.1, x.2.1, bd x.2.1 x.2.2)).take j ∧ Hid (CpI (w.heap.size + 2) W2 wr G ⟨t, kh, bd kh kd, vh, bd vh vd, []⟩ (.slice a' j cap') l))
    case atStart => exact ⟨0, [], none, 0, by omega, rfl, by simp, HI⟩
    case round =>
      clear HI c5
      obtain ⟨j, l, a', cap', hk, rfl, hl, HI⟩ := hrel
      have hlj : l.length = j := by rw [hl, List.length_take, List.length_map]; omega
      have HLL := hid hl
      have HLJ := hid hlj
      have HKK := hid hk
      clear hl hlj hk
      by_cases hlt : j < hs.length
      · obtain ⟨k, rfl⟩ : ∃ k, gk = k + 1 := ⟨gk - 1, by have := HKK.out; omega⟩
        obtain ⟨i0, hi, hz0, hz1, hz2⟩ := info_parts Try.infoHdr
        rcases HVV.out with h | ⟨b, off, rfl, hbl, hc⟩
        · rw [h] at hlt; simp at hlt
        obtain ⟨q0, q1, q2⟩ := hc j hlt
        have hcw : ∀ o, wr.cell? ⟨b, o, none⟩ = w.cell? ⟨b, o, none⟩ := fun o => (HI.out.bel.cell (p := ⟨b, o, none⟩) (by show b < _; omega)).trans (HB1.out.cell (p := ⟨b, o, none⟩) hbl)
        obtain ⟨x, hx⟩ : ∃ x, hs.getD j df = x := ⟨_, rfl⟩
        rw [hx] at q0 q1 q2
        obtain ⟨xk, xh, xd⟩ := x
        dsimp only at q0 q1 q2
        have l0 := (hcw _).trans q0
        have l1 := (hcw _).trans q1
        have l2 := (hcw _).trans q2
        have HX := hid hx
        have HJL := hid hlt
        have i1 : (0 : Int) ≤ (j : Int) := by omega
        have i2 : (j : Int) < hs.length := by omega
        have hh0 : (wr.alloc (.cells #[.string xk, .bool xh, .string xd] 72)).drew.heap[wr.heap.size]? = some (.cells #[.string xk, .bool xh, .string xd] 72 (0, 0)) := heap_new _ _
        have HI0 : Hid (CpI (w.heap.size + 2) W2 (wr.alloc (.cells #[.string xk, .bool xh, .string xd] 72)).drew G ⟨t, kh, bd kh kd, vh, bd vh vd, []⟩ (.slice a' j cap') l) := HI.out.next (((Below.refl _ _).alloc (Nat.le_refl _) _).drew)
        have HVL : Hid ((Value.slice a' j cap').ownBlock ≠ some wr.heap.size) := fun e => Nat.lt_irrefl _ (World.ownsRow.lt HI.out.own _ e).2
        have HGL : Hid (wr.heap.size ≠ G) := fun e => Nat.lt_irrefl G (Nat.lt_of_lt_of_eq (lt_of_heap HI.out.blk) e)
        clear hcw q0 q1 q2 hc hx
        go_wp2_with fail
        refine wp_region_held_drew (S := fun z => z.cell? ⟨wr.heap.size, 0, none⟩ = some (.string xk) ∧ z.cell? ⟨wr.heap.size, 1, none⟩ = some (.bool xh) ∧ z.cell? ⟨wr.heap.size, 2, none⟩ = some (.string xd)) (by kernel_rfl) (cells3 hh0) (fun hHeld => ?_)
        generalize (wr.alloc (.cells #[.string xk, .bool xh, .string xd] 72)).drew = z0 at *
        refine wpAnyH_take (i := 0) (oi := { dst := some 22, op := Op.fieldAddr 40 (Operand.tmp 3) 3, type := 0, pos := "record.go:122", after := #[], guard := none }) (v := ?_) rfl (by kernel_rfl) (by kernel_rfl) (by kernel_rfl) (fun _ _ _ h => h) (Or.inl ⟨by rfl, ?_⟩) (by assumption) ?_
        rotate_left
        · (intro z hSw; (try dsimp only at hSw); go_simp)
          all_goals with_reducible rfl
        try simp only [Act.put, List.setIfInBounds_toArray, List.set_cons_zero, List.set_cons_succ]
        refine wpAnyH_take (i := 2) (oi := { dst := some 24, op := Op.load 72 (Operand.tmp 5), type := 72, pos := "record.go:122", after := #[], guard := none }) (v := ?_) rfl (by kernel_rfl) (by kernel_rfl) (by kernel_rfl) (fun _ _ _ h => h) (Or.inl ⟨by rfl, ?_⟩) (by assumption) ?_
        rotate_left
        · (intro z hSw; (try dsimp only at hSw); go_simp)
          all_goals with_reducible rfl
        try simp only [Act.put, List.setIfInBounds_toArray, List.set_cons_zero, List.set_cons_succ]
        refine wpAnyH_ready (rs := [1, 3]) (by kernel_rfl) (by simp) ?_
        refine AllReadyH.cons (o := { dst := some 23, op := Op.load 38 (Operand.tmp 22), type := 38, pos := "record.go:122", after := #[{ on := 0, ground := Ground.data }], guard := none }) rfl (fun K hK => ?_) (AllReadyH.cons (o := { dst := some 25, op := Op.call { callee := Callee.value (Operand.func 26), args := #[Operand.tmp 24], argTypes := #[72] }, type := 72, pos := "record.go:122", after := #[{ on := 2, ground := Ground.data }], guard := none }) rfl (fun K hK => ?_) AllReadyH.nil)
        · have m5 := (cells6 HI0.out.blk).2.2.2.2.2
          go_simp
          refine hK.out _ _ (cells3 hh0) (fun hHeld => ?_)
          clear hK K m5
          try simp only [Act.put, List.setIfInBounds_toArray, List.set_cons_zero, List.set_cons_succ]
          refine wpAnyH_ready (rs := [3]) (by kernel_rfl) (by simp) ?_
          refine AllReadyH.cons (o := { dst := some 25, op := Op.call { callee := Callee.value (Operand.func 26), args := #[Operand.tmp 24], argTypes := #[72] }, type := 72, pos := "record.go:122", after := #[{ on := 2, ground := Ground.data }], guard := none }) rfl (fun K hK => ?_) AllReadyH.nil
          go_simp
          go_at_call 26
          refine (bareh_any _ _ _ _).mono ?_
          rintro e z1 ⟨rfl, hb1⟩
          go_wp2_with fail
          have hh1 := (hb1.block _ (lt_of_heap hh0)).trans hh0
          have HI1 := hid (HI0.out.next hb1)
          refine hK.out _ _ (cells3 hh1) (fun hHeld => ?_)
          clear hK K
          try simp only [Act.put, List.setIfInBounds_toArray, List.set_cons_zero, List.set_cons_succ]
          refine wpAnyH_ready (rs := [4]) (by kernel_rfl) (by simp) ?_
          refine AllReadyH.cons (o := { dst := some 26, op := Op.buildSlice 38 1 #[(0, Operand.tmp 25)], type := 38, pos := "record.go:122", after := #[{ on := 3, ground := Ground.data }], guard := none }) rfl (fun K hK => ?_) AllReadyH.nil
          go_simp
          have hb2 : Below z1.heap.size z1 (z1.alloc (.cells #[.string xk, .bool xh, .string (bd xh xd)] 72)) := (Below.refl _ _).alloc (Nat.le_refl _) _
          have hn : (z1.alloc (.cells #[.string xk, .bool xh, .string (bd xh xd)] 72)).heap[z1.heap.size]? = some (.cells #[.string xk, .bool xh, .string (bd xh xd)] 72 (0, 0)) := heap_new _ _
          have hh2 := (hb2.block _ (lt_of_heap hh1)).trans hh1
          have HI2 := hid (HI1.out.next hb2)
          refine hK.out _ _ (cells3 hh2) (fun hHeld => ?_)
          clear hK K
          generalize (z1.alloc (.cells #[.string xk, .bool xh, .string (bd xh xd)] 72)) = z2 at *
          try simp only [Act.put, List.setIfInBounds_toArray, List.set_cons_zero, List.set_cons_succ]
          refine wpAnyH_ready (rs := [5]) (by kernel_rfl) (by simp) ?_
          refine AllReadyH.cons (o := { dst := some 27, op := Op.call { callee := Callee.builtin Builtin.append, args := #[Operand.tmp 23, Operand.tmp 26], argTypes := #[38, 38] }, type := 38, pos := "record.go:122", after := #[{ on := 1, ground := Ground.data }, { on := 4, ground := Ground.data }, { on := 3, ground := Ground.chain }], guard := none }) rfl (fun K hK => ?_) AllReadyH.nil
          refine step_append_lies _ rfl (.tmp 23) (.tmp 26) 38 rfl (w.heap.size + 2) 72 i0 (.agg #[.string ⟨#[]⟩, .bool false, .string ⟨#[]⟩]) 3 40 Try.underHdrs hi hz0 hz1 hz2 rfl (by decide) (.slice a' j cap') j (hcs l) rfl (HLJ.out ▸ HI2.out.own) ⟨z1.heap.size, 0, none⟩ 1 1 [.string xk, .bool xh, .string (bd xh xd)] rfl rfl (World.news_of_block hn) (hcs_one [(xk, xh, bd xh xd)]) (by decide) (by have := HZZ.out; unfold maxLen; omega) (by have := HZZ.out; omega) (Nat.le_trans HI2.out.hB HI2.out.bel.size) _ rfl ?_
          intro g cap2 z9 hown hgr hat hlt9
          have hh9 := (hgr.block wr.heap.size (lt_of_heap hh2) (fun e => HVL.out e.symm)).trans hh2
          have HO9 := hid (HI2.out.grown (r := (xk, xh, bd xh xd)) hown hgr)
          refine hK.out _ _ (cells3 hh9) (fun hHeld => ?_)
          clear hK K hown hgr hat
          try simp only [Act.put, List.setIfInBounds_toArray, List.set_cons_zero, List.set_cons_succ]
          refine wpAnyH_take (i := 6) (oi := { dst := some 28, op := Op.fieldAddr 40 (Operand.tmp 3) 3, type := 0, pos := "record.go:122", after := #[{ on := 0, ground := Ground.phase }, { on := 1, ground := Ground.phase }, { on := 2, ground := Ground.phase }, { on := 3, ground := Ground.phase }, { on := 4, ground := Ground.phase }, { on := 5, ground := Ground.phase }], guard := none }) (v := ?_) rfl (by kernel_rfl) (by kernel_rfl) (by kernel_rfl) (fun _ _ _ h => h) (Or.inl ⟨by rfl, ?_⟩) (by assumption) ?_
          rotate_left
          · (intro z hSw; (try dsimp only at hSw); go_simp)
            all_goals with_reducible rfl
          try simp only [Act.put, List.setIfInBounds_toArray, List.set_cons_zero, List.set_cons_succ]
          refine wpAnyH_ready (rs := [7]) (by kernel_rfl) (by simp) ?_
          refine AllReadyH.cons (o := { dst := none, op := Op.store 38 (Operand.tmp 28) (Operand.tmp 27), type := 0, pos := "record.go:122", after := #[{ on := 6, ground := Ground.data }, { on := 5, ground := Ground.data }, { on := 5, ground := Ground.chain }, { on := 0, ground := Ground.phase }, { on := 1, ground := Ground.phase }, { on := 2, ground := Ground.phase }, { on := 3, ground := Ground.phase }, { on := 4, ground := Ground.phase }, { on := 5, ground := Ground.phase }], guard := none }) rfl (fun K hK => ?_) AllReadyH.nil
          have m5 := (cells6 HO9.out.1).2.2.2.2.2
          have f5 := froz_of (i := 5) HO9.out.1
          go_simp
          have hhA : (z9.setCell ⟨G, 5, none⟩ (.slice (some ⟨g, 0, none⟩) (j + 1) cap2)).heap[wr.heap.size]? = _ := heap_set_far hh9 (fun e => HGL.out e)
          refine hK.out _ _ (cells3 hhA) (fun hHeld => ?_)
          clear hK K m5 f5
          try simp only [Act.put, List.setIfInBounds_toArray, List.set_cons_zero, List.set_cons_succ]
          refine wpAnyH_done (by kernel_rfl) ?_ _
          have HIA := hid (CpI.put HO9.out HLJ.out HGE.out HBZ.out)
          go_wp2
          go_roundg k
          case measure => omega
          case rel => have hz := HZZ.out; have ew : wrap64 ((j : Int) + 1) = ((j + 1 : Nat) : Int) := by { unfold wrap64; omega }; exact ⟨j + 1, l ++ [(xk, xh, bd xh xd)], some ⟨g, 0, none⟩, cap2, by have := HKK.out; omega, congrArg (Value.int .i64) ew, take_map HLL.out HJL.out HX.out, HIA⟩
        · go_simp
          go_at_call 26
          refine (bareh_any _ _ _ _).mono ?_
          rintro e z1 ⟨rfl, hb1⟩
          go_wp2_with fail
          have hh1 := (hb1.block _ (lt_of_heap hh0)).trans hh0
          have HI1 := hid (HI0.out.next hb1)
          refine hK.out _ _ (cells3 hh1) (fun hHeld => ?_)
          clear hK K
          try simp only [Act.put, List.setIfInBounds_toArray, List.set_cons_zero, List.set_cons_succ]
          refine wpAnyH_ready (rs := [1, 4]) (by kernel_rfl) (by simp) ?_
          refine AllReadyH.cons (o := { dst := some 23, op := Op.load 38 (Operand.tmp 22), type := 38, pos := "record.go:122", after := #[{ on := 0, ground := Ground.data }], guard := none }) rfl (fun K hK => ?_) (AllReadyH.cons (o := { dst := some 26, op := Op.buildSlice 38 1 #[(0, Operand.tmp 25)], type := 38, pos := "record.go:122", after := #[{ on := 3, ground := Ground.data }], guard := none }) rfl (fun K hK => ?_) AllReadyH.nil)
          · have m5 := (cells6 HI1.out.blk).2.2.2.2.2
            go_simp
            refine hK.out _ _ (cells3 hh1) (fun hHeld => ?_)
            clear hK K m5
            try simp only [Act.put, List.setIfInBounds_toArray, List.set_cons_zero, List.set_cons_succ]
            refine wpAnyH_ready (rs := [4]) (by kernel_rfl) (by simp) ?_
            refine AllReadyH.cons (o := { dst := some 26, op := Op.buildSlice 38 1 #[(0, Operand.tmp 25)], type := 38, pos := "record.go:122", after := #[{ on := 3, ground := Ground.data }], guard := none }) rfl (fun K hK => ?_) AllReadyH.nil
            go_simp
            have hb2 : Below z1.heap.size z1 (z1.alloc (.cells #[.string xk, .bool xh, .string (bd xh xd)] 72)) := (Below.refl _ _).alloc (Nat.le_refl _) _
            have hn : (z1.alloc (.cells #[.string xk, .bool xh, .string (bd xh xd)] 72)).heap[z1.heap.size]? = some (.cells #[.string xk, .bool xh, .string (bd xh xd)] 72 (0, 0)) := heap_new _ _
            have hh2 := (hb2.block _ (lt_of_heap hh1)).trans hh1
            have HI2 := hid (HI1.out.next hb2)
            refine hK.out _ _ (cells3 hh2) (fun hHeld => ?_)
            clear hK K
            generalize (z1.alloc (.cells #[.string xk, .bool xh, .string (bd xh xd)] 72)) = z2 at *
            try simp only [Act.put, List.setIfInBounds_toArray, List.set_cons_zero, List.set_cons_succ]
            refine wpAnyH_ready (rs := [5]) (by kernel_rfl) (by simp) ?_
            refine AllReadyH.cons (o := { dst := some 27, op := Op.call { callee := Callee.builtin Builtin.append, args := #[Operand.tmp 23, Operand.tmp 26], argTypes := #[38, 38] }, type := 38, pos := "record.go:122", after := #[{ on := 1, ground := Ground.data }, { on := 4, ground := Ground.data }, { on := 3, ground := Ground.chain }], guard := none }) rfl (fun K hK => ?_) AllReadyH.nil
            refine step_append_lies _ rfl (.tmp 23) (.tmp 26) 38 rfl (w.heap.size + 2) 72 i0 (.agg #[.string ⟨#[]⟩, .bool false, .string ⟨#[]⟩]) 3 40 Try.underHdrs hi hz0 hz1 hz2 rfl (by decide) (.slice a' j cap') j (hcs l) rfl (HLJ.out ▸ HI2.out.own) ⟨z1.heap.size, 0, none⟩ 1 1 [.string xk, .bool xh, .string (bd xh xd)] rfl rfl (World.news_of_block hn) (hcs_one [(xk, xh, bd xh xd)]) (by decide) (by have := HZZ.out; unfold maxLen; omega) (by have := HZZ.out; omega) (Nat.le_trans HI2.out.hB HI2.out.bel.size) _ rfl ?_
            intro g cap2 z9 hown hgr hat hlt9
            have hh9 := (hgr.block wr.heap.size (lt_of_heap hh2) (fun e => HVL.out e.symm)).trans hh2
            have HO9 := hid (HI2.out.grown (r := (xk, xh, bd xh xd)) hown hgr)
            refine hK.out _ _ (cells3 hh9) (fun hHeld => ?_)
            clear hK K hown hgr hat
            try simp only [Act.put, List.setIfInBounds_toArray, List.set_cons_zero, List.set_cons_succ]
            refine wpAnyH_take (i := 6) (oi := { dst := some 28, op := Op.fieldAddr 40 (Operand.tmp 3) 3, type := 0, pos := "record.go:122", after := #[{ on := 0, ground := Ground.phase }, { on := 1, ground := Ground.phase }, { on := 2, ground := Ground.phase }, { on := 3, ground := Ground.phase }, { on := 4, ground := Ground.phase }, { on := 5, ground := Ground.phase }], guard := none }) (v := ?_) rfl (by kernel_rfl) (by kernel_rfl) (by kernel_rfl) (fun _ _ _ h => h) (Or.inl ⟨by rfl, ?_⟩) (by assumption) ?_
            rotate_left
            · (intro z hSw; (try dsimp only at hSw); go_simp)
              all_goals with_reducible rfl
            try simp only [Act.put, List.setIfInBounds_toArray, List.set_cons_zero, List.set_cons_succ]
            refine wpAnyH_ready (rs := [7]) (by kernel_rfl) (by simp) ?_
            refine AllReadyH.cons (o := { dst := none, op := Op.store 38 (Operand.tmp 28) (Operand.tmp 27), type := 0, pos := "record.go:122", after := #[{ on := 6, ground := Ground.data }, { on := 5, ground := Ground.data }, { on := 5, ground := Ground.chain }, { on := 0, ground := Ground.phase }, { on := 1, ground := Ground.phase }, { on := 2, ground := Ground.phase }, { on := 3, ground := Ground.phase }, { on := 4, ground := Ground.phase }, { on := 5, ground := Ground.phase }], guard := none }) rfl (fun K hK => ?_) AllReadyH.nil
            have m5 := (cells6 HO9.out.1).2.2.2.2.2
            have f5 := froz_of (i := 5) HO9.out.1
            go_simp
            have hhA : (z9.setCell ⟨G, 5, none⟩ (.slice (some ⟨g, 0, none⟩) (j + 1) cap2)).heap[wr.heap.size]? = _ := heap_set_far hh9 (fun e => HGL.out e)
            refine hK.out _ _ (cells3 hhA) (fun hHeld => ?_)
            clear hK K m5 f5
            try simp only [Act.put, List.setIfInBounds_toArray, List.set_cons_zero, List.set_cons_succ]
            refine wpAnyH_done (by kernel_rfl) ?_ _
            have HIA := hid (CpI.put HO9.out HLJ.out HGE.out HBZ.out)
            go_wp2
            go_roundg k
            case measure => omega
            case rel => have hz := HZZ.out; have ew : wrap64 ((j : Int) + 1) = ((j + 1 : Nat) : Int) := by { unfold wrap64; omega }; exact ⟨j + 1, l ++ [(xk, xh, bd xh xd)], some ⟨g, 0, none⟩, cap2, by have := HKK.out; omega, congrArg (Value.int .i64) ew, take_map HLL.out HJL.out HX.out, HIA⟩
          · go_simp
            have hb2 : Below z1.heap.size z1 (z1.alloc (.cells #[.string xk, .bool xh, .string (bd xh xd)] 72)) := (Below.refl _ _).alloc (Nat.le_refl _) _
            have hn : (z1.alloc (.cells #[.string xk, .bool xh, .string (bd xh xd)] 72)).heap[z1.heap.size]? = some (.cells #[.string xk, .bool xh, .string (bd xh xd)] 72 (0, 0)) := heap_new _ _
            have hh2 := (hb2.block _ (lt_of_heap hh1)).trans hh1
            have HI2 := hid (HI1.out.next hb2)
            refine hK.out _ _ (cells3 hh2) (fun hHeld => ?_)
            clear hK K
            generalize (z1.alloc (.cells #[.string xk, .bool xh, .string (bd xh xd)] 72)) = z2 at *
            try simp only [Act.put, List.setIfInBounds_toArray, List.set_cons_zero, List.set_cons_succ]
            refine wpAnyH_ready (rs := [1]) (by kernel_rfl) (by simp) ?_
            refine AllReadyH.cons (o := { dst := some 23, op := Op.load 38 (Operand.tmp 22), type := 38, pos := "record.go:122", after := #[{ on := 0, ground := Ground.data }], guard := none }) rfl (fun K hK => ?_) AllReadyH.nil
            have m5 := (cells6 HI2.out.blk).2.2.2.2.2
            go_simp
            refine hK.out _ _ (cells3 hh2) (fun hHeld => ?_)
            clear hK K m5
            try simp only [Act.put, List.setIfInBounds_toArray, List.set_cons_zero, List.set_cons_succ]
            refine wpAnyH_ready (rs := [5]) (by kernel_rfl) (by simp) ?_
            refine AllReadyH.cons (o := { dst := some 27, op := Op.call { callee := Callee.builtin Builtin.append, args := #[Operand.tmp 23, Operand.tmp 26], argTypes := #[38, 38] }, type := 38, pos := "record.go:122", after := #[{ on := 1, ground := Ground.data }, { on := 4, ground := Ground.data }, { on := 3, ground := Ground.chain }], guard := none }) rfl (fun K hK => ?_) AllReadyH.nil
            refine step_append_lies _ rfl (.tmp 23) (.tmp 26) 38 rfl (w.heap.size + 2) 72 i0 (.agg #[.string ⟨#[]⟩, .bool false, .string ⟨#[]⟩]) 3 40 Try.underHdrs hi hz0 hz1 hz2 rfl (by decide) (.slice a' j cap') j (hcs l) rfl (HLJ.out ▸ HI2.out.own) ⟨z1.heap.size, 0, none⟩ 1 1 [.string xk, .bool xh, .string (bd xh xd)] rfl rfl (World.news_of_block hn) (hcs_one [(xk, xh, bd xh xd)]) (by decide) (by have := HZZ.out; unfold maxLen; omega) (by have := HZZ.out; omega) (Nat.le_trans HI2.out.hB HI2.out.bel.size) _ rfl ?_
            intro g cap2 z9 hown hgr hat hlt9
            have hh9 := (hgr.block wr.heap.size (lt_of_heap hh2) (fun e => HVL.out e.symm)).trans hh2
            have HO9 := hid (HI2.out.grown (r := (xk, xh, bd xh xd)) hown hgr)
            refine hK.out _ _ (cells3 hh9) (fun hHeld => ?_)
            clear hK K hown hgr hat
            try simp only [Act.put, List.setIfInBounds_toArray, List.set_cons_zero, List.set_cons_succ]
            refine wpAnyH_take (i := 6) (oi := { dst := some 28, op := Op.fieldAddr 40 (Operand.tmp 3) 3, type := 0, pos := "record.go:122", after := #[{ on := 0, ground := Ground.phase }, { on := 1, ground := Ground.phase }, { on := 2, ground := Ground.phase }, { on := 3, ground := Ground.phase }, { on := 4, ground := Ground.phase }, { on := 5, ground := Ground.phase }], guard := none }) (v := ?_) rfl (by kernel_rfl) (by kernel_rfl) (by kernel_rfl) (fun _ _ _ h => h) (Or.inl ⟨by rfl, ?_⟩) (by assumption) ?_
            rotate_left
            · (intro z hSw; (try dsimp only at hSw); go_simp)
              all_goals with_reducible rfl
            try simp only [Act.put, List.setIfInBounds_toArray, List.set_cons_zero, List.set_cons_succ]
            refine wpAnyH_ready (rs := [7]) (by kernel_rfl) (by simp) ?_
            refine AllReadyH.cons (o := { dst := none, op := Op.store 38 (Operand.tmp 28) (Operand.tmp 27), type := 0, pos := "record.go:122", after := #[{ on := 6, ground := Ground.data }, { on := 5, ground := Ground.data }, { on := 5, ground := Ground.chain }, { on := 0, ground := Ground.phase }, { on := 1, ground := Ground.phase }, { on := 2, ground := Ground.phase }, { on := 3, ground := Ground.phase }, { on := 4, ground := Ground.phase }, { on := 5, ground := Ground.phase }], guard := none }) rfl (fun K hK => ?_) AllReadyH.nil
            have m5 := (cells6 HO9.out.1).2.2.2.2.2
            have f5 := froz_of (i := 5) HO9.out.1
            go_simp
            have hhA : (z9.setCell ⟨G, 5, none⟩ (.slice (some ⟨g, 0, none⟩) (j + 1) cap2)).heap[wr.heap.size]? = _ := heap_set_far hh9 (fun e => HGL.out e)
            refine hK.out _ _ (cells3 hhA) (fun hHeld => ?_)
            clear hK K m5 f5
            try simp only [Act.put, List.setIfInBounds_toArray, List.set_cons_zero, List.set_cons_succ]
            refine wpAnyH_done (by kernel_rfl) ?_ _
            have HIA := hid (CpI.put HO9.out HLJ.out HGE.out HBZ.out)
            go_wp2
            go_roundg k
            case measure => omega
            case rel => have hz := HZZ.out; have ew : wrap64 ((j : Int) + 1) = ((j + 1 : Nat) : Int) := by { unfold wrap64; omega }; exact ⟨j + 1, l ++ [(xk, xh, bd xh xd)], some ⟨g, 0, none⟩, cap2, by have := HKK.out; omega, congrArg (Value.int .i64) ew, take_map HLL.out HJL.out HX.out, HIA⟩
      · have i2 : ¬ (j : Int) < hs.length := by omega
        obtain ⟨n0, n1, n2, n3, n4, n5⟩ := cells6 HI.out.blk
        have hjl : j = hs.length := by have := HKK.out; omega
        have r2 : wr.heap[w.heap.size + 1]? = some (.cells #[.int .i64 0, .bool false, .string ⟨#[]⟩, .bool false, .string ⟨#[]⟩, .slice none 0 0] 40 (0, 0)) := (HI.out.bel.block _ (by omega)).trans H2.out
        obtain ⟨m0, m1, m2, m3, m4, m5⟩ := cells6 r2
        have fz := fun o => froz_of (i := o) r2
        have HJ := hid hjl
        have HR := hid r2
        clear hjl r2
        have HFF := hid (cp_end HI.out HJ.out HLL.out HB1.out HR.out)
        clear HI HLL
        go_wp2_with fail
        exact bodyPost_ret (v := .agg #[.int .i64 t, .bool kh, .string (bd kh kd), .bool vh, .string (bd vh vd), .slice a' j cap']) (by obtain ⟨j0, j1, j2, j3, j4, j5⟩ := HFF.out.1; simp [results, Try.results20, go_sem, j0, j1, j2, j3, j4, j5]) rfl ⟨⟨a', cap', HFF.out.2.1, HFF.out.2.2.1⟩, HFF.out.2.2.2⟩
end Go.Proofs.Ytlbkkeoffeohnab
