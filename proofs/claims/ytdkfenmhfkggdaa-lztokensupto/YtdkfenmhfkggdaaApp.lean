/- What the program lays down behind some bytes: a match token, the tokens of literals; nothing that was there before is turned. -/
import Derived.Test.YtdkfenmhfkggdaaTok
import Derived.Lib.AppendStr
import Derived.Deep.AppendLies
import Derived.Maps.AppendAt
import Derived.Lib.BufferRead
namespace Go.Proofs.Ytdkfenmhfkggdaa
open Go.RowKit
theorem Try.info5 : (Try.prog.info? 5).map (fun i => (i.zero, i.size, i.bytes)) = some (some (.int .u8 0), 1, 1) := by kernel_rfl
theorem Try.underBytes : Try.prog.underlying 57 = some (.slice 5) := by kernel_rfl
theorem Try.under5 : Try.prog.underlying 5 = some (.int .u8) := by kernel_rfl
theorem Try.under9 : Try.prog.underlying 9 = some .string := by kernel_rfl
/-- Bytes as cells. -/
def bc (l : List UInt8) : List Value := l.map fun b : UInt8 => Value.int .u8 (b.toNat : Int)
theorem bc_len (l : List UInt8) : (bc l).length = l.length := by simp [bc]
theorem bc_app (l m : List UInt8) : bc (l ++ m) = bc l ++ bc m := by simp [bc]
theorem bc_str (t : ByteArray) : Lib.strCells t = bc t.data.toList := by simp [Lib.strCells, bc]
theorem bc_one (l : List UInt8) : ∀ u ∈ bc l, u.oneCell' = true := by
  intro u hu
  simp only [bc, List.mem_map] at hu
  obtain ⟨b, _, rfl⟩ := hu
  rfl
/-- A row of bytes of the call's own, from B on. -/
def Own (w : World) (B : Nat) (v : Value) (l : List UInt8) : Prop := w.ownsRow B 5 1 v l.length (bc l)
theorem own_ch {S : Nat → Prop} {w w' : World} {B n size : Nat} {e : TypeId} {v : Value} {l : List Value} (h : w.ownsRow B e size v n l) (hc : Ch S w w') (hS : ∀ i, B ≤ i → ¬ S i) : w'.ownsRow B e size v n l := by
  have hlt := h.lt
  obtain ⟨h1, h2⟩ := h
  refine ⟨h1, ?_⟩
  rcases h2 with h2 | ⟨g, cap, cur, rfl, hg, hh, r⟩
  · exact Or.inl h2
  · exact Or.inr ⟨g, cap, cur, rfl, hg, (hc.block g (hlt g rfl).2 (hS g hg)).trans hh, r⟩
/-- What only turns blocks apart from this row leaves it. -/
theorem own_apart {w w' : World} {B n size : Nat} {e : TypeId} {v : Value} {l : List Value} (h : w.ownsRow B e size v n l) (hc : ∀ g, v.ownBlock = some g → w'.heap[g]? = w.heap[g]?) : w'.ownsRow B e size v n l := by
  obtain ⟨h1, h2⟩ := h
  refine ⟨h1, ?_⟩
  rcases h2 with h2 | ⟨g, cap, cur, rfl, hg, hh, r⟩
  · exact Or.inl h2
  · exact Or.inr ⟨g, cap, cur, rfl, hg, (hc g rfl).trans hh, r⟩
theorem bel_step {base n size : Nat} {e : TypeId} {w wr w1 : World} {o : Value} {l : List Value} {obj : Obj} (hbel : Below base w wr) (hown : wr.ownsRow base e size o n l) (hb : base ≤ wr.heap.size) (hg : (wr.alloc obj).grownBy w1 o.ownBlock) : Below base w w1 :=
  (hbel.alloc hb obj).grown hg (by simp; omega) (fun k hk => (hown.lt k hk).1)
theorem bel_step0 {base n size : Nat} {e : TypeId} {w wr w1 : World} {o : Value} {l : List Value} (hbel : Below base w wr) (hown : wr.ownsRow base e size o n l) (hb : base ≤ wr.heap.size) (hg : wr.grownBy w1 o.ownBlock) : Below base w w1 :=
  hbel.grown hg hb (fun k hk => (hown.lt k hk).1)
/-- 'string(b)' of a row that the call itself made. -/
theorem conv_own {w : World} {base : Nat} {v : Value} {l : List UInt8} (hown : Own w base v l) : (convert 57 9 v).run Try.prog w = .ok (.string (ba l)) w := by
  unfold Own at hown
  have hcell := fun (g : Nat) (hg : v.ownBlock = some g) => hown.cells hg
  obtain ⟨hl, h⟩ := hown
  rcases h with ⟨rfl, h0⟩ | ⟨g, cap, cur, rfl, hg, hh, h1, h2, h3, h4⟩
  · have : l = [] := List.eq_nil_of_length_eq_zero (by omega)
    subst this
    exact Lib.run_convert_nil_bytes w 57 9 5 0 Try.underBytes Try.under5 Try.under9
  · exact run_convert_bytes_back (P := Try.prog) w 57 9 5 ⟨g, 0, none⟩ cap l Try.underBytes Try.under5 Try.under9 (fun j hj => hcell g rfl j _ (by simp [bc, hj]))
theorem u8z {a : Int} {b : UInt8} (h : a = (b.toNat : Int)) : Value.int .u8 a = .int .u8 (b.toNat : Int) := by rw [h]
theorem cells_new (w : World) (xs : List Value) (t : TypeId) : ∀ j u, xs[j]? = some u → (w.alloc (.cells xs.toArray t)).cell? ((⟨w.heap.size, 0, none⟩ : Addr).add j) = some u := by
  intro j u hj
  have h := cell_of (i := j) (heap_new w (.cells xs.toArray t))
  have e : (⟨w.heap.size, 0, none⟩ : Addr).add j = ⟨w.heap.size, j, none⟩ := by
    by_cases h0 : j = 0
    · subst h0; simp [Addr.add]
    · simp [Addr.add, h0]
  rw [e, h]
  simpa using hj
theorem own_mk {w : World} {B n m : Nat} {v : Value} {l r : List UInt8} {xs : List Value} (h : w.ownsRow B 5 1 v (n + m) (bc l ++ xs)) (hn : l.length = n) (hm : r.length = m) (hx : xs = bc r) : Own w B v (l ++ r) := by
  unfold Own
  rw [List.length_append, hn, hm, bc_app, ← hx]
  exact h
theorem own_ne {w : World} {B n size : Nat} {e T : TypeId} {v : Value} {l : List Value} {k : Nat} {c : Array Value} {fz : Nat × Nat} (h : w.ownsRow B e size v n l) (hk : w.heap[k]? = some (.cells c T fz)) (hT : T ≠ e) : v.ownBlock ≠ some k := by
  intro hv
  obtain ⟨h1, h2⟩ := h
  rcases h2 with ⟨rfl, h0⟩ | ⟨g, cap, cur, rfl, hg, hh, r⟩
  · cases hv
  · have e1 : g = k := by simpa [Value.ownBlock] using hv
    subst e1
    rw [hk] at hh
    injection hh with hh
    injection hh with h3 h4 h5
    exact hT h4
set_option maxHeartbeats 1000000 in
set_option maxRecDepth 20000 in
theorem amat_any (B : Nat) (l : List UInt8) (v : Value) (n d : Nat) (w : World) (hown : Own w B v l) (hB : B ≤ w.heap.size) (hn : 4 ≤ n) (hn2 : n ≤ 131) (hd : d ≤ 8192) (hl : l.length ≤ 140737488350000) :
    Calls Try.prog 26 #[v, .int .i64 n, .int .i64 d] w fun e w' => ∃ v', e = .returned v' ∧ Own w' B v' (l ++ (M.Tok.mat n d).bytes) ∧ Below B w w' := by
  obtain ⟨i0, hi, hz0, hz1, hz2⟩ := info_parts Try.info5
  have e1 : 128 + (n : Int) - 4 = ((UInt8.ofNat (n + 124)).toNat : Int) := by rw [M.u8_of (by omega)]; omega
  have e2 : (d : Int) / 256 = ((UInt8.ofNat (d / 256)).toNat : Int) := by rw [M.u8_of (by omega)]; omega
  have e3 : (d : Int) % 256 = ((UInt8.ofNat (d % 256)).toNat : Int) := by rw [M.u8_of (by omega)]; omega
  have HBY : Hid ((M.Tok.mat n d).bytes = [UInt8.ofNat (n + 124), UInt8.ofNat (d / 256), UInt8.ofNat (d % 256)]) := rfl
  generalize (M.Tok.mat n d).bytes = bys at *
  generalize UInt8.ofNat (n + 124) = b1 at *
  generalize UInt8.ofNat (d / 256) = b2 at *
  generalize UInt8.ofNat (d % 256) = b3 at *
  have q1 := b1.toNat_lt
  have q2 := b2.toNat_lt
  unfold Own at hown
  generalize hN : l.length = N at *
  have HN := hid hN
  clear hN
  go_enter Try.func26, Try.ntmps26
  go_wp2_with (at_builtin; refine wpList_append_own _ rfl _ _ 57 rfl B 5 i0 (.int .u8 0) 1 1 Try.underBytes hi hz0 hz1 hz2 rfl (by decide) _ _ _ rfl (hown.alloc _) ⟨w.heap.size, 0, none⟩ 3 3 (bc [b1, b2, b3]) rfl rfl ?c1 ?c2 ?c3 ?c4 ?c5 ?_)
  case c1 => exact cells_new w (bc [b1, b2, b3]) 5
  case c2 => exact bc_one _
  case c3 => unfold maxLen; omega
  case c4 => omega
  case c5 => simp; omega
  · intro v' w1 hown1 hgrow _
    have HB := hid (bel_step (Below.refl B w) hown hB hgrow)
    have HO := hid (own_mk (r := [b1, b2, b3]) hown1 HN.out rfl rfl)
    clear hown1 hgrow hown
    go_wp2_with fail
    go_ret
    exact ⟨_, rfl, by rw [HBY.out]; exact HO.out, HB.out⟩
theorem len_ext (S : ByteArray) (a b : Nat) : (S.extract a b).data.toList = (S.data.toList.drop a).take (b - a) := by rw [ext_ba]; rfl
set_option maxHeartbeats 2000000 in
set_option maxRecDepth 20000 in
theorem alit_any (B : Nat) (l : List UInt8) (v : Value) (L : ByteArray) (w : World) (hown : Own w B v l) (hB : B ≤ w.heap.size) (hl : l.length + (M.bytesOf (M.runs L.data.toList)).length ≤ 140737488355000) :
    Calls Try.prog 27 #[v, .string L] w fun e w' => ∃ v', e = .returned v' ∧ Own w' B v' (l ++ M.bytesOf (M.runs L.data.toList)) ∧ Below B w w' := by
  obtain ⟨i0, hi, hz0, hz1, hz2⟩ := info_parts Try.info5
  generalize hT : M.bytesOf (M.runs L.data.toList) = T at *
  have HT := hid hT
  have HOWN := hid hown
  clear hown hT
  go_enter Try.func27, Try.ntmps27
  go_wp2_with fail
  go_loopg [0, 1, 5] L.size (fun k o s n wr => ∃ (S : ByteArray) (pre : List UInt8), S.size = k ∧ s = .string S ∧ Hid (Own wr B o (l ++ pre)) ∧ Hid (pre ++ M.bytesOf (M.runs S.data.toList) = T) ∧ Hid (Below B w wr))
  case atStart => exact ⟨L, [], rfl, rfl, by rw [List.append_nil]; exact HOWN, HT, Below.refl _ _⟩
  case round =>
    clear HOWN HT
    obtain ⟨S, pre, rfl, rfl, HO, HP, HW⟩ := hrel
    by_cases h0 : S.size = 0
    · have e1 := (empty_iff S).1 h0
      subst e1
      have HE : Hid (l ++ pre = l ++ T) := by
        show l ++ pre = l ++ T
        rw [← HP.out]
        show l ++ pre = l ++ (pre ++ [])
        rw [List.append_nil]
      go_wp2_with fail
      go_ret
      exact ⟨_, rfl, by rw [← HE.out]; exact HO.out, HW.out⟩
    · have e1 := ne_emp h0
      have hr := M.runs_step (l := S.data.toList) (by rw [len_]; exact h0)
      have hp := HP.out
      rw [hr, M.bytesOf_cons, ← List.append_assoc] at hp
      have hlen : (l ++ pre).length + S.size + 1 ≤ 140737488355001 := by
        have := congrArg List.length HP.out
        rw [List.length_append, M.runs_size, len_] at this
        rw [List.length_append]
        omega
      have hlt : (S.data.toList.take 128).length = min 128 S.size := by rw [List.length_take, len_]
      obtain ⟨b0, hb0⟩ : ∃ b : UInt8, b = UInt8.ofNat (min 128 S.size - 1) := ⟨_, rfl⟩
      have hbv : (b0.toNat : Int) = (min 128 S.size - 1 : Nat) := by rw [hb0, M.u8_of (by omega)]
      have hby : (M.Tok.lit (S.data.toList.take 128)).bytes = b0 :: S.data.toList.take 128 := by
        show UInt8.ofNat ((S.data.toList.take 128).length - 1) :: _ = _
        rw [hlt, hb0]
      rw [hby] at hp
      have HP2 := hid hp
      have ho := HO.out
      unfold Own at ho
      have hsz := HW.out.size
      generalize hN : (l ++ pre).length = N at *
      have HN := hid hN
      clear hr hp hlt hb0 hby hN HP HO
      by_cases h8 : S.size ≤ 128
      · have hbe : (S.size : Int) - 1 = (b0.toNat : Int) := by omega
        have q1 := b0.toNat_lt
        have htk : S.data.toList.take 128 = S.data.toList := List.take_of_length_le (by rw [len_]; omega)
        have HTK := hid htk
        clear hbv htk
        go_wp2_with (at_builtin; refine wpList_append_own _ rfl _ _ 57 rfl B 5 i0 (.int .u8 0) 1 1 Try.underBytes hi hz0 hz1 hz2 rfl (by decide) _ _ _ rfl (ho.alloc _) ⟨wr.heap.size, 0, none⟩ 1 1 (bc [b0]) rfl rfl ?c1 ?c2 ?c3 ?c4 ?c5 ?_)
        case c1 => exact cells_new wr (bc [b0]) 5
        case c2 => exact bc_one _
        case c3 => unfold maxLen; omega
        case c4 => omega
        case c5 => simp; omega
        · intro v' w1 hown1 hgrow _
          have HB1 := hid (bel_step HW.out ho (by omega) hgrow)
          have ho1 := hown1
          have hsz1 := HB1.out.size
          clear hown1 hgrow ho HW
          go_wp2_with (at_builtin; refine Lib.wpList_append_own_string _ rfl _ _ 57 9 rfl B 5 i0 Try.underBytes Try.under9 hi hz0 hz1 hz2 _ _ _ rfl ho1 S rfl ?d1 ?d2 ?d3 ?_)
          case d1 => unfold maxLen; omega
          case d2 => omega
          case d3 => omega
          · intro v'' w2 hown2 hgrow2 _
            have HB2 := hid (bel_step0 HB1.out ho1 (by omega) hgrow2)
            have HO2 : Hid (Own w2 B v'' (l ++ (pre ++ b0 :: S.data.toList.take 128))) := by
              show Own w2 B v'' (l ++ (pre ++ b0 :: S.data.toList.take 128))
              rw [← List.append_assoc]
              refine own_mk (n := N) (m := 1 + S.size) (xs := bc [b0] ++ bc S.data.toList) ?_ HN.out ?_ ?_
              · rw [← bc_str, ← Nat.add_assoc]; first | exact hown2 | (rw [← List.append_assoc]; exact hown2)
              · rw [HTK.out, List.length_cons, len_]; omega
              · rw [HTK.out, ← bc_app]; rfl
            clear hown2 hgrow2 ho1
            go_wp2_with fail
            go_roundg 0
            case measure => omega
            case rel =>
              refine ⟨_, pre ++ b0 :: S.data.toList.take 128, ?_, rfl, HO2, ?_, HB2⟩
              · first | rfl | simp
              · show _ = T
                rw [← HP2.out]
                congr 2
                have hd : S.data.toList.drop 128 = [] := List.drop_eq_nil_of_le (by rw [len_]; omega)
                rw [hd]
                first | rfl | simp
      · have hbe : (127 : Int) = (b0.toNat : Int) := by omega
        have q1 := b0.toNat_lt
        have htk : S.data.toList.take 128 = (S.extract 0 128).data.toList := by rw [len_ext, List.drop_zero]
        have hex : (S.extract 0 128).size = 128 := by rw [← len_, len_ext, List.length_take, List.length_drop, len_]; omega
        have HTK := hid htk
        clear hbv htk
        go_wp2_with (at_builtin; refine wpList_append_own _ rfl _ _ 57 rfl B 5 i0 (.int .u8 0) 1 1 Try.underBytes hi hz0 hz1 hz2 rfl (by decide) _ _ _ rfl (ho.alloc _) ⟨wr.heap.size, 0, none⟩ 1 1 (bc [b0]) rfl rfl ?c1 ?c2 ?c3 ?c4 ?c5 ?_)
        case c1 => exact cells_new wr (bc [b0]) 5
        case c2 => exact bc_one _
        case c3 => unfold maxLen; omega
        case c4 => omega
        case c5 => simp; omega
        · intro v' w1 hown1 hgrow _
          have HB1 := hid (bel_step HW.out ho (by omega) hgrow)
          have ho1 := hown1
          have hsz1 := HB1.out.size
          clear hown1 hgrow ho HW
          go_wp2_with (at_builtin; refine Lib.wpList_append_own_string _ rfl _ _ 57 9 rfl B 5 i0 Try.underBytes Try.under9 hi hz0 hz1 hz2 _ _ _ rfl ho1 (S.extract 0 128) rfl ?d1 ?d2 ?d3 ?_)
          case d1 => unfold maxLen; omega
          case d2 => omega
          case d3 => omega
          · intro v'' w2 hown2 hgrow2 _
            have HB2 := hid (bel_step0 HB1.out ho1 (by omega) hgrow2)
            have HO2 : Hid (Own w2 B v'' (l ++ (pre ++ b0 :: S.data.toList.take 128))) := by
              show Own w2 B v'' (l ++ (pre ++ b0 :: S.data.toList.take 128))
              rw [← List.append_assoc]
              refine own_mk (n := N) (m := 1 + (S.extract 0 128).size) (xs := bc [b0] ++ bc (S.extract 0 128).data.toList) ?_ HN.out ?_ ?_
              · rw [← bc_str, ← Nat.add_assoc, hex]; exact hown2
              · rw [HTK.out, List.length_cons, len_]; omega
              · rw [HTK.out, ← bc_app]; rfl
            clear hown2 hgrow2 ho1
            go_wp2_with fail
            go_roundg (S.size - 128)
            case measure => omega
            case rel =>
              refine ⟨_, pre ++ b0 :: S.data.toList.take 128, ?_, rfl, HO2, ?_, HB2⟩
              · rw [← len_, len_ext, List.length_take, List.length_drop, len_]; omega
              · show _ = T
                have hd : (S.data.toList.drop 128).take (S.size - 128) = S.data.toList.drop 128 := List.take_of_length_le (by rw [List.length_drop, len_]; omega)
                rw [← HP2.out, len_ext, hd]
end Go.Proofs.Ytdkfenmhfkggdaa
