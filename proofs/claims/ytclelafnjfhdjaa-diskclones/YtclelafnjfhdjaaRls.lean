/- The document's disk: List. -/
import Derived.Test.YtclelafnjfhdjaaRcr
import Derived.Test.YtclelafnjfhdjaaFac
namespace Go.Proofs.Ytclelafnjfhdjaa
open Go.RowKit
theorem Try.info9r : (Try.prog.info? 9).map (fun i => (i.zero, i.size, i.bytes)) = some (some (.string ⟨#[]⟩), 1, 16) := by kernel_rfl
theorem Try.underStrs : Try.prog.underlying 40 = some (.slice 9) := by kernel_rfl
theorem winc2 (n : Nat) (h : n ≤ 65536) : wrap64 ((n : Int) + 1) = ((n + 1 : Nat) : Int) := by unfold wrap64; omega
set_option maxHeartbeats 2000000 in
set_option maxRecDepth 20000 in
theorem rlist_any (d : Nat) (fl : Value) (rm : Nat) (cl cb : Int) (V : Vw) (w : World) (h : Rk w d fl rm cl cb V) (hs : SV rm V) :
    Calls Try.prog 25 #[.pointer (some ⟨d, 0, none⟩)] w fun e w' => ∃ v, e = .returned v ∧ w'.ownsRow w.heap.size 9 1 v V.length (V.map (fun x => Value.string x.1)) ∧ Below w.heap.size w w' := by
  obtain ⟨i0, hi, hz0, hz1, hz2⟩ := info_parts Try.info9r
  have hc := hs.cnt
  clear hs
  have HK : Hid (∀ wx, Below w.heap.size w wx → Rk wx d fl rm cl cb V) := fun wx hb => h.ch (Ch.of_below (S := fun _ => False) hb) (fun _ _ e => e)
  obtain ⟨al, capl, rfl⟩ := h.len
  clear h
  generalize hN : V.length = N at *
  have HN := hid' hN
  clear hN
  go_enter Try.func25, Try.ntmps25
  go_wp2_with fail
  go_loopg [3, 4] N (fun k o i wr => ∃ j : Nat, j + k = N ∧ i = .int .i64 j ∧ Hid (wr.ownsRow w.heap.size 9 1 o j ((V.take j).map (fun x => Value.string x.1))) ∧ Hid (Below w.heap.size w wr))
  case atStart => exact ⟨0, by omega, rfl, World.ownsRow_nil _ _ _ _, Below.refl _ _⟩
  case round =>
    obtain ⟨j, hk, rfl, HO, HB⟩ := hrel
    have hkw := HK.out wr HB.out
    have c1 := hkw.c1
    by_cases hlt : j < N
    · obtain ⟨k, rfl⟩ : ∃ k, gk = k + 1 := ⟨gk - 1, by omega⟩
      have hltD : decide ((j : Int) < N) = true := by simp; omega
      have hltI : (j : Int) < N := by omega
      rcases hkw.form with ⟨_, e2⟩ | ⟨g, cap, e, hcl, _, _⟩
      · exact absurd hlt (by rw [← HN.out, e2]; simp)
      injection e with e1 _ e3
      subst e1 e3
      rw [HN.out] at hcl
      obtain ⟨l', x, r', eV, eL, q0, _, _⟩ := name_at HN.out hcl hlt
      have HTK : Hid ((V.take (j + 1)).map (fun x => Value.string x.1) = (V.take j).map (fun x => Value.string x.1) ++ [Value.string x.1]) := by
        show _ = _
        have t1 : V.take (j + 1) = l' ++ [x] := by
          rw [eV, show l' ++ x :: r' = (l' ++ [x]) ++ r' from by simp, show j + 1 = (l' ++ [x]).length from by simp [eL]]
          exact List.take_left
        have t0 : V.take j = l' := by rw [eV, ← eL]; exact List.take_left
        rw [t1, t0, List.map_append]
        rfl
      have EW := hid' (winc2 j (by omega))
      have ho := HO.out
      have hbs := HB.out.size
      clear eV eL hcl hkw HO
      generalize (V.take j).map (fun x => Value.string x.1) = ps at *
      generalize x.1 = nm at *
      go_wp2_with (at_builtin; refine wpList_append_own _ rfl _ _ 40 rfl w.heap.size 9 i0 (.string ⟨#[]⟩) 1 16 Try.underStrs hi hz0 hz1 hz2 rfl (by decide) _ _ _ rfl (ho.alloc _) ⟨wr.heap.size, 0, none⟩ 1 1 [.string nm] rfl rfl ?c1 ?c2 ?c3 ?c4 ?c5 ?_)
      case c1 => exact cells_newN _ [.string nm] _ _ rfl
      case c2 => intro u hu; simp only [List.mem_singleton] at hu; subst hu; rfl
      case c3 => unfold maxLen; omega
      case c4 => omega
      case c5 => simp; omega
      intro v' w2 hown2 hgrow2 _
      have HB2 : Hid (Below w.heap.size w w2) := (grown_ch ((Ch.of_below (S := fun _ => False) HB.out).alloc _) (ho.alloc _) (Nat.le_refl _) hgrow2).below (Nat.le_refl _) (fun _ _ e => e)
      have HO2 := hid' hown2
      clear hown2 hgrow2 ho HB c1 q0
      go_wp2_with fail
      go_roundg k
      case measure => omega
      case rel => exact ⟨j + 1, by omega, by first | exact congrArg (Value.int .i64) EW.out | rfl, by show World.ownsRow _ _ _ _ _ _ _; rw [HTK.out]; exact HO2.out, HB2⟩
    · have hltD : decide ((j : Int) < N) = false := by simp; omega
      have hj : V.take j = V := List.take_of_length_le (by rw [HN.out]; omega)
      have hjN : j = N := by omega
      have HO2 : Hid (wr.ownsRow w.heap.size 9 1 u3 N (V.map (fun x => Value.string x.1))) := by have := HO.out; rw [hj, hjN] at this; exact this
      clear HO
      go_wp2_with fail
      go_ret
      exact ⟨_, rfl, HO2.out, HB.out⟩
end Go.Proofs.Ytclelafnjfhdjaa
