/- The law's 'step': one call on both disks. -/
import Derived.Test.YtclelafnjfhdjaaLkk
namespace Go.Proofs.Ytclelafnjfhdjaa
open Go.RowKit
/-- Both disks under way, and the call's struct in a block of its own. -/
def PS (w0 : World) (K : Nat → Prop) (F : Nat) (o : Op5) (d r : Nat) (rm : Nat) (w : World) (cl cb : Int) (V : Vw) (cl' cb' : Int) (V' : Vw) : Prop := Pr w0 K w d r rm cl cb V cl' cb' V' ∧ w.heap[F]? = some (.cells #[.int .i64 o.k, .string o.nm, .int .i64 o.a, .int .i64 o.b, .string o.s] 31 (0, 0))
section
variable {w0 : World} {K : Nat → Prop} {F : Nat} {o : Op5} {d r : Nat} {rm : Nat} {w w' : World} {cl cb : Int} {V : Vw} {cl' cb' : Int} {V' : Vw}
theorem PS.kept (h : PS w0 K F o d r rm w cl cb V cl' cb' V') (hb : Below w.heap.size w w') : PS w0 K F o d r rm w' cl cb V cl' cb' V' := ⟨h.1.kept hb, (hb.block F (lt_of_heap h.2)).trans h.2⟩
theorem PS.drew (h : PS w0 K F o d r rm w cl cb V cl' cb' V') : PS w0 K F o d r rm w.drew cl cb V cl' cb' V' := h.kept (Below.drew (Below.refl _ _))
theorem PS.ys (h : PS w0 K F o d r rm w cl cb V cl' cb' V') : w.cell? ⟨F, 0, none⟩ = some (.int .i64 o.k) ∧ w.cell? ⟨F, 1, none⟩ = some (.string o.nm) ∧ w.cell? ⟨F, 2, none⟩ = some (.int .i64 o.a) ∧ w.cell? ⟨F, 3, none⟩ = some (.int .i64 o.b) ∧ w.cell? ⟨F, 4, none⟩ = some (.string o.s) :=
  ⟨(cell_of h.2).trans rfl, (cell_of h.2).trans rfl, (cell_of h.2).trans rfl, (cell_of h.2).trans rfl, (cell_of h.2).trans rfl⟩
theorem PS.prog (h : PS w0 K F o d r rm w cl cb V cl' cb' V') {cl1 cb1 : Int} {V1 : Vw} {f : FuncId} {args : Array Value} {v : Value}
    (hc : ∀ fa, Ds w d fa rm cl cb V → Calls Try.prog f args w fun e w' => e = .returned v ∧ Aft w fa d rm cl1 cb1 V1 w') : Calls Try.prog f args w fun e w' => e = .returned v ∧ PS w0 K F o d r rm w' cl1 cb1 V1 cl' cb' V' :=
  h.1.prog hc (fun w' k1 k2 => ⟨rfl, k1, k2 F _ _ _ h.2 (by decide) (by decide) (by decide)⟩)
theorem PS.ref (h : PS w0 K F o d r rm w cl cb V cl' cb' V') {cl1 cb1 : Int} {V1 : Vw} {f : FuncId} {args : Array Value} {v : Value}
    (hc : ∀ fl, Rk w r fl rm cl' cb' V' → Calls Try.prog f args w fun e w' => e = .returned v ∧ RAft w (Rt r fl) r rm cl1 cb1 V1 w') : Calls Try.prog f args w fun e w' => e = .returned v ∧ PS w0 K F o d r rm w' cl cb V cl1 cb1 V1 :=
  h.1.refA hc (fun w' k1 k2 => ⟨rfl, k1, k2 F _ _ _ h.2 (by decide) (by decide) (by decide) (by decide) (by decide)⟩)
theorem PS.lookD (h : PS w0 K F o d r rm w cl cb V cl' cb' V') {f : FuncId} {args : Array Value} {v : Value} (hc : ∀ fd, Ds w d fd rm cl cb V → Calls Try.prog f args w fun e w' => e = .returned v ∧ ∃ k, w' = w.drewN k) : Calls Try.prog f args w fun e w' => e = .returned v ∧ PS w0 K F o d r rm w' cl cb V cl' cb' V' := by
  obtain ⟨fd, fr, h1, h2⟩ := h.1
  refine (hc fd h1).mono ?_
  rintro e w' ⟨he, k, rfl⟩
  exact ⟨he, h.kept (bel_drewN w k)⟩
theorem PS.lookR (h : PS w0 K F o d r rm w cl cb V cl' cb' V') {f : FuncId} {args : Array Value} {v : Value} (hc : ∀ fl, Rk w r fl rm cl' cb' V' → Calls Try.prog f args w fun e w' => e = .returned v ∧ ∃ k, w' = w.drewN k) : Calls Try.prog f args w fun e w' => e = .returned v ∧ PS w0 K F o d r rm w' cl cb V cl' cb' V' := by
  obtain ⟨fd, fr, h1, ⟨fl, h2, _⟩, _⟩ := h.1
  refine (hc fl h2).mono ?_
  rintro e w' ⟨he, k, rfl⟩
  exact ⟨he, h.kept (bel_drewN w k)⟩
end
/-- What a call of the script leaves. -/
def Stp (w0 : World) (K : Nat → Prop) (d r : Nat) (rm : Nat) (w : World) : Prop := ∃ (cl cb : Int) (V : Vw), Pr w0 K w d r rm cl cb V cl cb V ∧ SV rm V
set_option maxHeartbeats 4000000 in
set_option maxRecDepth 20000 in
theorem step_create (w0 : World) (K : Nat → Prop) (d r : Nat) (rm : Nat) (cl cb : Int) (V : Vw) (nm : ByteArray) (A B : Int) (S : ByteArray) (w : World) (hP : Pr w0 K w d r rm cl cb V cl cb V) (hs : SV rm V) (hn : nm.size ≤ maxLen) (_ha : A ≤ 9223372036854775807) :
    Calls Try.prog 11 #[.pointer (some ⟨d, 0, none⟩), .pointer (some ⟨r, 0, none⟩), .agg #[.int .i64 1, .string nm, .int .i64 A, .int .i64 B, .string S]] w fun e w' => e = .returned (.bool true) ∧ Stp w0 K d r rm w' := by
  obtain ⟨wo, hwo⟩ : ∃ wo, wo = w.alloc (.cells #[.int .i64 1, .string nm, .int .i64 A, .int .i64 B, .string S] 31) := ⟨_, rfl⟩
  have HP0 : Hid (PS w0 K w.heap.size ⟨1, nm, A, B, S⟩ d r rm wo cl cb V cl cb V) := by show _ ∧ _; rw [hwo]; exact ⟨hP.kept (bel_alloc w _), heap_new _ _⟩
  have hwo' := hwo.symm
  obtain ⟨y0, y1, y2, y3, y4⟩ := HP0.out.ys
  simp only at y0 y1 y2 y3 y4
  clear hwo hP
  go_enter Try.func11, Try.ntmps11
  go_wp2_with fail
  go_region_held3 (fun x => x.cell? ⟨w.heap.size, 0, none⟩ = some (.int .i64 1) ∧ x.cell? ⟨w.heap.size, 1, none⟩ = some (.string nm) ∧ x.cell? ⟨w.heap.size, 2, none⟩ = some (.int .i64 A) ∧ x.cell? ⟨w.heap.size, 3, none⟩ = some (.int .i64 B) ∧ x.cell? ⟨w.heap.size, 4, none⟩ = some (.string S)) ((first | assumption | exact ⟨by assumption, by assumption, by assumption, by assumption, by assumption⟩ | go_keep)) (first | (go_at_call 22; refine ((show PS w0 K w.heap.size ⟨1, nm, A, B, S⟩ d r rm _ cl cb V cl cb V from (by first | exact HP0.out | exact HP0.out.drew)).prog (fun fa hd => s_create d fa rm cl cb V nm _ hd hn)).mono ?_; rintro e w1 ⟨rfl, hP1⟩; have ys1 := hP1.ys) | (go_at_call 33; refine ((show PS w0 K w.heap.size ⟨1, nm, A, B, S⟩ d r rm _ cl cb (crV nm V) cl cb V from (by first | exact hP1 | exact hP1.drew)).ref (fun fl hk => rcreate_any r fl rm cl cb V nm _ hk hs hn)).mono ?_; rintro e w2 ⟨rfl, hP2⟩; have ys2 := hP2.ys))
  go_wp2_with fail
  go_ret
  exact ⟨rfl, _, _, _, hP2.1, hs.cr nm⟩
set_option maxHeartbeats 4000000 in
set_option maxRecDepth 20000 in
theorem step_cut (w0 : World) (K : Nat → Prop) (d r : Nat) (rm : Nat) (cl cb : Int) (V : Vw) (nm : ByteArray) (A B : Int) (S : ByteArray) (w : World) (hP : Pr w0 K w d r rm cl cb V cl cb V) (hs : SV rm V) (hn : nm.size ≤ maxLen) (_ha : A ≤ 9223372036854775807) :
    Calls Try.prog 11 #[.pointer (some ⟨d, 0, none⟩), .pointer (some ⟨r, 0, none⟩), .agg #[.int .i64 3, .string nm, .int .i64 A, .int .i64 B, .string S]] w fun e w' => e = .returned (.bool true) ∧ Stp w0 K d r rm w' := by
  obtain ⟨wo, hwo⟩ : ∃ wo, wo = w.alloc (.cells #[.int .i64 3, .string nm, .int .i64 A, .int .i64 B, .string S] 31) := ⟨_, rfl⟩
  have HP0 : Hid (PS w0 K w.heap.size ⟨3, nm, A, B, S⟩ d r rm wo cl cb V cl cb V) := by show _ ∧ _; rw [hwo]; exact ⟨hP.kept (bel_alloc w _), heap_new _ _⟩
  have hwo' := hwo.symm
  obtain ⟨y0, y1, y2, y3, y4⟩ := HP0.out.ys
  simp only at y0 y1 y2 y3 y4
  clear hwo hP
  go_enter Try.func11, Try.ntmps11
  go_wp2_with fail
  go_region_held3 (fun x => x.cell? ⟨w.heap.size, 0, none⟩ = some (.int .i64 3) ∧ x.cell? ⟨w.heap.size, 1, none⟩ = some (.string nm) ∧ x.cell? ⟨w.heap.size, 2, none⟩ = some (.int .i64 A) ∧ x.cell? ⟨w.heap.size, 3, none⟩ = some (.int .i64 B) ∧ x.cell? ⟨w.heap.size, 4, none⟩ = some (.string S)) ((first | assumption | exact ⟨by assumption, by assumption, by assumption, by assumption, by assumption⟩ | go_keep)) (first | (go_at_call 35; refine ((show PS w0 K w.heap.size ⟨3, nm, A, B, S⟩ d r rm _ cl cb V cl cb V from (by first | exact HP0.out | exact HP0.out.drew)).prog (fun fa hd => s_cut d fa rm cl cb V nm _ hd A hn)).mono ?_; rintro e w1 ⟨rfl, hP1⟩; have ys1 := hP1.ys) | (go_at_call 36; refine ((show PS w0 K w.heap.size ⟨3, nm, A, B, S⟩ d r rm _ cl cb (cuV nm A V) cl cb V from (by first | exact hP1 | exact hP1.drew)).ref (fun fl hk => rcut_any r fl rm cl cb V nm A _ hk hs)).mono ?_; rintro e w2 ⟨rfl, hP2⟩; have ys2 := hP2.ys))
  go_wp2_with fail
  go_ret
  exact ⟨rfl, _, _, _, hP2.1, hs.cu nm A⟩
set_option maxHeartbeats 4000000 in
set_option maxRecDepth 20000 in
theorem step_sync (w0 : World) (K : Nat → Prop) (d r : Nat) (rm : Nat) (cl cb : Int) (V : Vw) (nm : ByteArray) (A B : Int) (S : ByteArray) (w : World) (hP : Pr w0 K w d r rm cl cb V cl cb V) (hs : SV rm V) (hn : nm.size ≤ maxLen) (_ha : A ≤ 9223372036854775807) :
    Calls Try.prog 11 #[.pointer (some ⟨d, 0, none⟩), .pointer (some ⟨r, 0, none⟩), .agg #[.int .i64 4, .string nm, .int .i64 A, .int .i64 B, .string S]] w fun e w' => e = .returned (.bool true) ∧ Stp w0 K d r rm w' := by
  obtain ⟨wo, hwo⟩ : ∃ wo, wo = w.alloc (.cells #[.int .i64 4, .string nm, .int .i64 A, .int .i64 B, .string S] 31) := ⟨_, rfl⟩
  have HP0 : Hid (PS w0 K w.heap.size ⟨4, nm, A, B, S⟩ d r rm wo cl cb V cl cb V) := by show _ ∧ _; rw [hwo]; exact ⟨hP.kept (bel_alloc w _), heap_new _ _⟩
  have hwo' := hwo.symm
  obtain ⟨y0, y1, y2, y3, y4⟩ := HP0.out.ys
  simp only at y0 y1 y2 y3 y4
  clear hwo hP
  go_enter Try.func11, Try.ntmps11
  go_wp2_with fail
  go_region_held3 (fun x => x.cell? ⟨w.heap.size, 0, none⟩ = some (.int .i64 4) ∧ x.cell? ⟨w.heap.size, 1, none⟩ = some (.string nm) ∧ x.cell? ⟨w.heap.size, 2, none⟩ = some (.int .i64 A) ∧ x.cell? ⟨w.heap.size, 3, none⟩ = some (.int .i64 B) ∧ x.cell? ⟨w.heap.size, 4, none⟩ = some (.string S)) ((first | assumption | exact ⟨by assumption, by assumption, by assumption, by assumption, by assumption⟩ | go_keep)) (first | (go_at_call 37; refine ((show PS w0 K w.heap.size ⟨4, nm, A, B, S⟩ d r rm _ cl cb V cl cb V from (by first | exact HP0.out | exact HP0.out.drew)).prog (fun fa hd => s_sync d fa rm cl cb V nm _ hd hn)).mono ?_; rintro e w1 ⟨rfl, hP1⟩; have ys1 := hP1.ys) | (go_at_call 38; refine ((show PS w0 K w.heap.size ⟨4, nm, A, B, S⟩ d r rm _ cl cb (synV nm V) cl cb V from (by first | exact hP1 | exact hP1.drew)).ref (fun fl hk => rsync_any r fl rm cl cb V nm _ hk hs)).mono ?_; rintro e w2 ⟨rfl, hP2⟩; have ys2 := hP2.ys))
  go_wp2_with fail
  go_ret
  exact ⟨rfl, _, _, _, hP2.1, hs.sy nm⟩
set_option maxHeartbeats 4000000 in
set_option maxRecDepth 20000 in
theorem step_remove (w0 : World) (K : Nat → Prop) (d r : Nat) (rm : Nat) (cl cb : Int) (V : Vw) (nm : ByteArray) (A B : Int) (S : ByteArray) (w : World) (hP : Pr w0 K w d r rm cl cb V cl cb V) (hs : SV rm V) (hn : nm.size ≤ maxLen) (_ha : A ≤ 9223372036854775807) :
    Calls Try.prog 11 #[.pointer (some ⟨d, 0, none⟩), .pointer (some ⟨r, 0, none⟩), .agg #[.int .i64 5, .string nm, .int .i64 A, .int .i64 B, .string S]] w fun e w' => e = .returned (.bool true) ∧ Stp w0 K d r rm w' := by
  obtain ⟨wo, hwo⟩ : ∃ wo, wo = w.alloc (.cells #[.int .i64 5, .string nm, .int .i64 A, .int .i64 B, .string S] 31) := ⟨_, rfl⟩
  have HP0 : Hid (PS w0 K w.heap.size ⟨5, nm, A, B, S⟩ d r rm wo cl cb V cl cb V) := by show _ ∧ _; rw [hwo]; exact ⟨hP.kept (bel_alloc w _), heap_new _ _⟩
  have hwo' := hwo.symm
  obtain ⟨y0, y1, y2, y3, y4⟩ := HP0.out.ys
  simp only at y0 y1 y2 y3 y4
  clear hwo hP
  go_enter Try.func11, Try.ntmps11
  go_wp2_with fail
  go_region_held3 (fun x => x.cell? ⟨w.heap.size, 0, none⟩ = some (.int .i64 5) ∧ x.cell? ⟨w.heap.size, 1, none⟩ = some (.string nm) ∧ x.cell? ⟨w.heap.size, 2, none⟩ = some (.int .i64 A) ∧ x.cell? ⟨w.heap.size, 3, none⟩ = some (.int .i64 B) ∧ x.cell? ⟨w.heap.size, 4, none⟩ = some (.string S)) ((first | assumption | exact ⟨by assumption, by assumption, by assumption, by assumption, by assumption⟩ | go_keep)) (first | (go_at_call 39; refine ((show PS w0 K w.heap.size ⟨5, nm, A, B, S⟩ d r rm _ cl cb V cl cb V from (by first | exact HP0.out | exact HP0.out.drew)).prog (fun fa hd => s_remove d fa rm cl cb V nm _ hd hn)).mono ?_; rintro e w1 ⟨rfl, hP1⟩; have ys1 := hP1.ys) | (go_at_call 40; refine ((show PS w0 K w.heap.size ⟨5, nm, A, B, S⟩ d r rm _ cl cb (vdel nm V) cl cb V from (by first | exact hP1 | exact hP1.drew)).ref (fun fl hk => rremove_any r fl rm cl cb V nm _ hk hs)).mono ?_; rintro e w2 ⟨rfl, hP2⟩; have ys2 := hP2.ys))
  go_wp2_with fail
  go_ret
  exact ⟨rfl, _, _, _, hP2.1, hs.del nm⟩
set_option maxHeartbeats 4000000 in
set_option maxRecDepth 20000 in
theorem step_over (w0 : World) (K : Nat → Prop) (d r : Nat) (rm : Nat) (cl cb : Int) (V : Vw) (nm : ByteArray) (A B : Int) (S : ByteArray) (w : World) (hP : Pr w0 K w d r rm cl cb V cl cb V) (hs : SV rm V) (hn : nm.size ≤ maxLen) (ha : A ≤ 9223372036854775807) :
    Calls Try.prog 11 #[.pointer (some ⟨d, 0, none⟩), .pointer (some ⟨r, 0, none⟩), .agg #[.int .i64 6, .string nm, .int .i64 A, .int .i64 B, .string S]] w fun e w' => e = .returned (.bool true) ∧ Stp w0 K d r rm w' := by
  obtain ⟨wo, hwo⟩ : ∃ wo, wo = w.alloc (.cells #[.int .i64 6, .string nm, .int .i64 A, .int .i64 B, .string S] 31) := ⟨_, rfl⟩
  have HP0 : Hid (PS w0 K w.heap.size ⟨6, nm, A, B, S⟩ d r rm wo cl cb V cl cb V) := by show _ ∧ _; rw [hwo]; exact ⟨hP.kept (bel_alloc w _), heap_new _ _⟩
  have hwo' := hwo.symm
  obtain ⟨y0, y1, y2, y3, y4⟩ := HP0.out.ys
  simp only at y0 y1 y2 y3 y4
  clear hwo hP
  go_enter Try.func11, Try.ntmps11
  go_wp2_with fail
  go_region_held3 (fun x => x.cell? ⟨w.heap.size, 0, none⟩ = some (.int .i64 6) ∧ x.cell? ⟨w.heap.size, 1, none⟩ = some (.string nm) ∧ x.cell? ⟨w.heap.size, 2, none⟩ = some (.int .i64 A) ∧ x.cell? ⟨w.heap.size, 3, none⟩ = some (.int .i64 B) ∧ x.cell? ⟨w.heap.size, 4, none⟩ = some (.string S)) ((first | assumption | exact ⟨by assumption, by assumption, by assumption, by assumption, by assumption⟩ | go_keep)) (first | (go_at_call 20; refine ((show PS w0 K w.heap.size ⟨6, nm, A, B, S⟩ d r rm _ cl cb V cl cb V from (by first | exact HP0.out | exact HP0.out.drew)).prog (fun fa hd => s_over d fa rm cl cb V nm _ hd A S hn ha)).mono ?_; rintro e w1 ⟨rfl, hP1⟩; have ys1 := hP1.ys) | (go_at_call 41; refine ((show PS w0 K w.heap.size ⟨6, nm, A, B, S⟩ d r rm _ cl cb (ovV nm A S V) cl cb V from (by first | exact hP1 | exact hP1.drew)).ref (fun fl hk => rover_any r fl rm cl cb V nm A S _ hk hs ha)).mono ?_; rintro e w2 ⟨rfl, hP2⟩; have ys2 := hP2.ys))
  go_wp2_with fail
  go_ret
  exact ⟨rfl, _, _, _, hP2.1, hs.ov nm S A⟩
set_option maxHeartbeats 4000000 in
set_option maxRecDepth 20000 in
theorem step_append (w0 : World) (K : Nat → Prop) (d r : Nat) (rm : Nat) (cl cb : Int) (V : Vw) (nm : ByteArray) (A B : Int) (S : ByteArray) (w : World) (hP : Pr w0 K w d r rm cl cb V cl cb V) (hs : SV rm V) (hn : nm.size ≤ maxLen) (_ha : A ≤ 9223372036854775807) :
    Calls Try.prog 11 #[.pointer (some ⟨d, 0, none⟩), .pointer (some ⟨r, 0, none⟩), .agg #[.int .i64 2, .string nm, .int .i64 A, .int .i64 B, .string S]] w fun e w' => e = .returned (.bool true) ∧ Stp w0 K d r rm w' := by
  obtain ⟨wo, hwo⟩ : ∃ wo, wo = w.alloc (.cells #[.int .i64 2, .string nm, .int .i64 A, .int .i64 B, .string S] 31) := ⟨_, rfl⟩
  have HP0 : Hid (PS w0 K w.heap.size ⟨2, nm, A, B, S⟩ d r rm wo cl cb V cl cb V) := by show _ ∧ _; rw [hwo]; exact ⟨hP.kept (bel_alloc w _), heap_new _ _⟩
  have hwo' := hwo.symm
  obtain ⟨y0, y1, y2, y3, y4⟩ := HP0.out.ys
  simp only at y0 y1 y2 y3 y4
  clear hwo hP
  go_enter Try.func11, Try.ntmps11
  go_wp2_with fail
  refine (HP0.out.prog (fun fa hd => s_append d fa rm cl cb V nm _ hd S hn)).mono ?_
  rintro e w1 ⟨rfl, hp1⟩
  have HP1 := hid hp1
  clear y0 y1 y2 y3 y4
  obtain ⟨y0, y1, y2, y3, y4⟩ := hp1.ys
  simp only at y0 y1 y2 y3 y4
  clear hp1
  go_wp2_with fail
  refine (HP1.out.ref (fun fl hk => rappend_any r fl rm cl cb V nm S _ hk hs)).mono ?_
  rintro e w2 ⟨rfl, hp2⟩
  have HP2 := hid hp2
  clear y0 y1 y2 y3 y4
  obtain ⟨y0, y1, y2, y3, y4⟩ := hp2.ys
  simp only at y0 y1 y2 y3 y4
  clear hp2
  go_wp2_with fail
  go_ret
  exact ⟨rfl, _, _, _, HP2.out.1, hs.ap nm S⟩
set_option maxHeartbeats 4000000 in
set_option maxRecDepth 20000 in
theorem step_read (w0 : World) (K : Nat → Prop) (d r : Nat) (rm : Nat) (cl cb : Int) (V : Vw) (nm : ByteArray) (A B : Int) (S : ByteArray) (w : World) (hP : Pr w0 K w d r rm cl cb V cl cb V) (hs : SV rm V) (hn : nm.size ≤ maxLen) (ha : A ≤ 9223372036854775807) :
    Calls Try.prog 11 #[.pointer (some ⟨d, 0, none⟩), .pointer (some ⟨r, 0, none⟩), .agg #[.int .i64 7, .string nm, .int .i64 A, .int .i64 B, .string S]] w fun e w' => e = .returned (.bool true) ∧ Stp w0 K d r rm w' := by
  obtain ⟨wo, hwo⟩ : ∃ wo, wo = w.alloc (.cells #[.int .i64 7, .string nm, .int .i64 A, .int .i64 B, .string S] 31) := ⟨_, rfl⟩
  have HP0 : Hid (PS w0 K w.heap.size ⟨7, nm, A, B, S⟩ d r rm wo cl cb V cl cb V) := by show _ ∧ _; rw [hwo]; exact ⟨hP.kept (bel_alloc w _), heap_new _ _⟩
  have hwo' := hwo.symm
  obtain ⟨y0, y1, y2, y3, y4⟩ := HP0.out.ys
  simp only at y0 y1 y2 y3 y4
  clear hwo hP
  have te := tq_eq (rdS (vl nm V) A B)
  go_enter Try.func11, Try.ntmps11
  go_wp2_with fail
  refine (HP0.out.prog (fun fa hd => s_read d fa rm cl cb V nm _ hd A B hn ha)).mono ?_
  rintro e w1 ⟨rfl, hp1⟩
  have HP1 := hid hp1
  clear y0 y1 y2 y3 y4
  obtain ⟨y0, y1, y2, y3, y4⟩ := hp1.ys
  simp only at y0 y1 y2 y3 y4
  clear hp1
  go_wp2_with fail
  refine (HP1.out.ref (fun fl hk => rread_any r fl rm cl cb V nm A B _ hk hs ha)).mono ?_
  rintro e w2 ⟨rfl, hp2⟩
  have HP2 := hid hp2
  clear y0 y1 y2 y3 y4
  obtain ⟨y0, y1, y2, y3, y4⟩ := hp2.ys
  simp only at y0 y1 y2 y3 y4
  clear hp2
  go_wp2_with fail
  go_ret
  exact ⟨rfl, _, _, _, HP2.out.1, hs⟩
set_option maxHeartbeats 4000000 in
set_option maxRecDepth 20000 in
theorem step_look (w0 : World) (K : Nat → Prop) (d r : Nat) (rm : Nat) (cl cb : Int) (V : Vw) (kd : Int) (nm : ByteArray) (A B : Int) (S : ByteArray) (w : World) (hP : Pr w0 K w d r rm cl cb V cl cb V) (hs : SV rm V) (hn : nm.size ≤ maxLen) (_ha : A ≤ 9223372036854775807) (h1 : kd ≠ 1) (h2 : kd ≠ 2) (h3 : kd ≠ 3) (h4 : kd ≠ 4) (h5 : kd ≠ 5) (h6 : kd ≠ 6) (h7 : kd ≠ 7) :
    Calls Try.prog 11 #[.pointer (some ⟨d, 0, none⟩), .pointer (some ⟨r, 0, none⟩), .agg #[.int .i64 kd, .string nm, .int .i64 A, .int .i64 B, .string S]] w fun e w' => e = .returned (.bool true) ∧ Stp w0 K d r rm w' := by
  obtain ⟨wo, hwo⟩ : ∃ wo, wo = w.alloc (.cells #[.int .i64 kd, .string nm, .int .i64 A, .int .i64 B, .string S] 31) := ⟨_, rfl⟩
  have HP0 : Hid (PS w0 K w.heap.size ⟨kd, nm, A, B, S⟩ d r rm wo cl cb V cl cb V) := by show _ ∧ _; rw [hwo]; exact ⟨hP.kept (bel_alloc w _), heap_new _ _⟩
  have hwo' := hwo.symm
  obtain ⟨y0, y1, y2, y3, y4⟩ := HP0.out.ys
  simp only at y0 y1 y2 y3 y4
  clear hwo hP
  go_enter Try.func11, Try.ntmps11
  go_wp2_with fail
  refine (HP0.out.lookD (fun fd hd => s_size d fd rm cl cb V nm _ hd hn)).mono ?_
  rintro e w1 ⟨rfl, hp1⟩
  have HP1 := hid hp1
  clear y0 y1 y2 y3 y4
  obtain ⟨y0, y1, y2, y3, y4⟩ := hp1.ys
  simp only at y0 y1 y2 y3 y4
  clear hp1
  go_wp2_with fail
  refine (HP1.out.lookR (fun fl hk => rsize_any r fl rm cl cb V nm _ hk hs)).mono ?_
  rintro e w2 ⟨rfl, hp2⟩
  have HP2 := hid hp2
  clear y0 y1 y2 y3 y4
  obtain ⟨y0, y1, y2, y3, y4⟩ := hp2.ys
  simp only at y0 y1 y2 y3 y4
  clear hp2
  go_wp2_with fail
  refine (HP2.out.lookD (fun fd hd => s_synced d fd rm cl cb V nm _ hd hn)).mono ?_
  rintro e w3 ⟨rfl, hp3⟩
  have HP3 := hid hp3
  clear y0 y1 y2 y3 y4
  obtain ⟨y0, y1, y2, y3, y4⟩ := hp3.ys
  simp only at y0 y1 y2 y3 y4
  clear hp3
  go_wp2_with fail
  refine (HP3.out.lookR (fun fl hk => rsynced_any r fl rm cl cb V nm _ hk hs)).mono ?_
  rintro e w4 ⟨rfl, hp4⟩
  have HP4 := hid hp4
  clear y0 y1 y2 y3 y4
  obtain ⟨y0, y1, y2, y3, y4⟩ := hp4.ys
  simp only at y0 y1 y2 y3 y4
  clear hp4
  go_wp2_with fail
  go_ret
  exact ⟨rfl, _, _, _, HP4.out.1, hs⟩
theorem step_any (w0 : World) (K : Nat → Prop) (d r : Nat) (rm : Nat) (cl cb : Int) (V : Vw) (kd : Int) (nm : ByteArray) (A B : Int) (S : ByteArray) (w : World) (hP : Pr w0 K w d r rm cl cb V cl cb V) (hs : SV rm V) (hn : nm.size ≤ maxLen) (ha : A ≤ 9223372036854775807) :
    Calls Try.prog 11 #[.pointer (some ⟨d, 0, none⟩), .pointer (some ⟨r, 0, none⟩), .agg #[.int .i64 kd, .string nm, .int .i64 A, .int .i64 B, .string S]] w fun e w' => e = .returned (.bool true) ∧ Stp w0 K d r rm w' := by
  by_cases h1 : kd = 1
  · subst h1; exact step_create w0 K d r rm cl cb V nm A B S w hP hs hn ha
  by_cases h2 : kd = 2
  · subst h2; exact step_append w0 K d r rm cl cb V nm A B S w hP hs hn ha
  by_cases h3 : kd = 3
  · subst h3; exact step_cut w0 K d r rm cl cb V nm A B S w hP hs hn ha
  by_cases h4 : kd = 4
  · subst h4; exact step_sync w0 K d r rm cl cb V nm A B S w hP hs hn ha
  by_cases h5 : kd = 5
  · subst h5; exact step_remove w0 K d r rm cl cb V nm A B S w hP hs hn ha
  by_cases h6 : kd = 6
  · subst h6; exact step_over w0 K d r rm cl cb V nm A B S w hP hs hn ha
  by_cases h7 : kd = 7
  · subst h7; exact step_read w0 K d r rm cl cb V nm A B S w hP hs hn ha
  exact step_look w0 K d r rm cl cb V kd nm A B S w hP hs hn ha h1 h2 h3 h4 h5 h6 h7
end Go.Proofs.Ytclelafnjfhdjaa
