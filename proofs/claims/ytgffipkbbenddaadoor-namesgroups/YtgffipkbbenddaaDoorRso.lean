/- The document's sorted. -/
import Derived.Test.YtgffipkbbenddaaDoorGrx
import Derived.Test.YtgffipkbbenddaaDoorGrw
namespace Go.Proofs.YtgffipkbbenddaaDoor
open Go.RowKit Go.Lib
theorem gt_dec (x t : List UInt8) : (!Op.bytesLess x t && !x == t) = decide (t < x) := by
  rw [bytesLess_eq]
  by_cases h : t < x
  · have h1 : ¬ x < t := List.not_lt.2 (List.le_of_lt h)
    have h2 : x ≠ t := fun e => by rw [e] at h; exact List.lt_irrefl _ h
    rw [decide_eq_false h1, decide_eq_true h, beq_false_of_ne h2]
    rfl
  · rw [decide_eq_false h]
    by_cases h1 : x < t
    · rw [decide_eq_true h1]; rfl
    · have e : x = t := List.le_antisymm (List.not_lt.1 h) (List.not_lt.1 h1)
      rw [e]
      simp
set_option maxRecDepth 20000 in
set_option maxHeartbeats 2000000 in
theorem sorted_any (l : List (List UInt8)) (t : List UInt8) (a : Option Addr) (cap : Nat) (w : World) (hv : Txs w a (l.map ba)) (hn : l.length ≤ 8796093022206) :
    Calls Tryd.prog 28 #[.slice a l.length cap, .string (ba t)] w fun e w' => (∃ v, e = .returned v ∧ OwX w' w.heap.size v (ins t l)) ∧ Below w.heap.size w w' := by
  have HV := hid hv
  obtain ⟨N, hN⟩ : ∃ N, N = l.length := ⟨_, rfl⟩
  have HN := hid hN
  rw [← hN] at hn ⊢
  clear hv hN
  obtain ⟨i1, ji, jz0, jz1, jz2⟩ := info_parts Tryd.infoStr
  go_enter Tryd.func28, Tryd.ntmps28
  go_wp2_with fail
  go_loopg [5, 6, 7] N (fun k v lb i wr => ∃ (j : Nat) (o : List (List UInt8)) (f : Bool), j + k = N ∧ lb = .bool f ∧ i = .int .i64 (j : Int) ∧ o.length ≤ j + 1 ∧ Hid (OwX wr w.heap.size v o) ∧ Hid ((f = false ∧ o = l.take j ∧ ∀ x ∈ o, ¬ t < x) ∨ (f = true ∧ o ++ l.drop j = ins t l)) ∧ Hid (Below w.heap.size w wr))
  case atStart => exact ⟨0, [], false, by omega, rfl, rfl, by simp, OwX.nil _ _, Or.inl ⟨rfl, rfl, by simp⟩, Below.refl _ _⟩
  case round =>
    obtain ⟨j, o, f, hj, rfl, rfl, hol, HO, HI, HB⟩ := hrel
    have hbs := HB.out.size
    by_cases hlt : j < N
    · obtain ⟨k', rfl⟩ : ∃ k', gk = k' + 1 := ⟨gk - 1, by omega⟩
      have hjl : j < l.length := by rw [← HN.out]; exact hlt
      have hltI : (j : Int) < N := by omega
      rcases HV.out with e | ⟨b1, o1, rfl, hb1, hc1⟩
      · exact absurd hjl (by rw [List.map_eq_nil_iff] at e; rw [e]; simp)
      have c0 := hc1 j (by rw [List.length_map]; exact hjl)
      rw [List.getD_eq_getElem?_getD, List.getElem?_map, List.getElem?_eq_getElem hjl] at c0
      simp only [Option.map_some, Option.getD_some] at c0
      have HDr := hid (List.drop_eq_getElem_cons hjl)
      have HTk := hid (List.take_succ_eq_append_getElem hjl)
      have HCe : Hid (∀ wx, Below w.heap.size w wx → wx.cell? ⟨b1, o1 + j, none⟩ = some (.string (ba l[j]))) := fun wx hx => (hx.cell (p := ⟨b1, o1 + j, none⟩) hb1).trans c0
      generalize l[j] = x at *
      have d0 := HCe.out _ HB.out
      have hgt := gt_dec x t
      have hgt' : (!Op.bytesLess (ba x).toList (ba t).toList && !(ba x).toList == (ba t).toList) = decide (t < x) := by
        rw [ByteArray.toList_eq, ByteArray.toList_eq]
        exact hgt
      clear hgt hc1 c0
      have HJ := hid hj
      clear hj
      rcases HI.out with ⟨rfl, ho, hall⟩ | ⟨rfl, ho⟩
      · have HOo := hid (And.intro ho hall)
        clear ho hall HI
        by_cases htx : t < x
        · rw [decide_eq_true htx] at hgt'
          have hoj : o.length ≤ j := by rw [HOo.out.1, List.length_take]; omega
          have HSa : Hid (w.heap.size ≤ wr.heap.size) := hbs
          have HBpa := HB
          go_wp2_with (at_builtin; refine wpList_append_lies _ rfl _ _ 29 rfl w.heap.size 9 i1 (.string ⟨#[]⟩) 1 16 Tryd.underlying29 ji jz0 jz1 jz2 rfl (by decide) _ o.length (o.map fun t => Value.string (ba t)) rfl ?c0 ⟨wr.heap.size, 0, none⟩ 1 1 [.string (ba t)] rfl rfl ?c1 ?c2 ?c3 ?c4 ?c5 ?c6 _ rfl ?_)
          case c0 => exact OwX.kept HO.out fun g _ hg => Below.heap_alloc _ _ g hg
          case c1 => exact World.news_of_block (heap_new wr _)
          case c2 => intro u hu; rw [List.mem_singleton.1 hu]; rfl
          case c3 => omega
          case c4 => unfold maxLen; omega
          case c5 => omega
          case c6 => simp; have := HSa.out; omega
          intro ga capa wa howna hgrowa hata hlta
          have HOa : Hid (OwX wa w.heap.size (.slice (some ⟨ga, 0, none⟩) (o.length + 1) capa) (o ++ [t])) := by
            show OwX _ _ _ _
            unfold OwX
            rw [List.map_append, List.length_append]
            exact howna
          have HBa : Hid (Below w.heap.size w wa) := (HBpa.out.alloc (by have := HSa.out; omega) _).grown hgrowa (by simp; have := HSa.out; omega) fun k hk => OwX.own HO.out hk
          clear howna hgrowa hata hlta
          have d1 := HCe.out _ HBa.out
          have HSb : Hid (w.heap.size ≤ wa.heap.size) := HBa.out.size
          have HBpb := HBa
          obtain ⟨p, hp⟩ : ∃ p, p = o ++ [t] := ⟨_, rfl⟩
          have hpl : o.length + 1 = p.length := by rw [hp]; simp
          rw [← hp, hpl] at HOa
          rw [hpl]
          have HPp := hid hp
          have hpb : p.length ≤ j + 1 := by omega
          clear hp hpl
          go_wp2_with (at_builtin; refine wpList_append_lies _ rfl _ _ 29 rfl w.heap.size 9 i1 (.string ⟨#[]⟩) 1 16 Tryd.underlying29 ji jz0 jz1 jz2 rfl (by decide) _ p.length (p.map fun t => Value.string (ba t)) rfl ?c0 ⟨wa.heap.size, 0, none⟩ 1 1 [.string (ba x)] rfl rfl ?c1 ?c2 ?c3 ?c4 ?c5 ?c6 _ rfl ?_)
          case c0 => exact OwX.kept HOa.out fun g _ hg => Below.heap_alloc _ _ g hg
          case c1 => exact World.news_of_block (heap_new wa _)
          case c2 => intro u hu; rw [List.mem_singleton.1 hu]; rfl
          case c3 => omega
          case c4 => unfold maxLen; omega
          case c5 => omega
          case c6 => simp; have := HSb.out; omega
          intro gb capb wb hownb hgrowb hatb hltb
          have HOb : Hid (OwX wb w.heap.size (.slice (some ⟨gb, 0, none⟩) (p.length + 1) capb) (p ++ [x])) := by
            show OwX _ _ _ _
            unfold OwX
            rw [List.map_append, List.length_append]
            exact hownb
          have HBb : Hid (Below w.heap.size w wb) := (HBpb.out.alloc (by have := HSb.out; omega) _).grown hgrowb (by simp; have := HSb.out; omega) fun k hk => OwX.own HOa.out hk
          clear hownb hgrowb hatb hltb
          go_wp2_with fail
          go_roundg k'
          case measure => omega
          case rel =>
            refine ⟨j + 1, p ++ [x], true, by have := HJ.out; omega, rfl, congrArg (Value.int .i64) (by omega), by simp; omega, HOb, Or.inr ⟨rfl, ?_⟩, HBb⟩
            obtain ⟨ho, hall⟩ := HOo.out
            have e : l = o ++ x :: l.drop (j + 1) := by rw [ho, ← HDr.out, List.take_append_drop]
            conv => rhs; rw [e]
            rw [ins_split htx o hall, HPp.out]
            simp
        · rw [decide_eq_false htx] at hgt'
          have hoj : o.length ≤ j := by rw [HOo.out.1, List.length_take]; omega
          have HSa : Hid (w.heap.size ≤ wr.heap.size) := hbs
          have HBpa := HB
          go_wp2_with (at_builtin; refine wpList_append_lies _ rfl _ _ 29 rfl w.heap.size 9 i1 (.string ⟨#[]⟩) 1 16 Tryd.underlying29 ji jz0 jz1 jz2 rfl (by decide) _ o.length (o.map fun t => Value.string (ba t)) rfl ?c0 ⟨wr.heap.size, 0, none⟩ 1 1 [.string (ba x)] rfl rfl ?c1 ?c2 ?c3 ?c4 ?c5 ?c6 _ rfl ?_)
          case c0 => exact OwX.kept HO.out fun g _ hg => Below.heap_alloc _ _ g hg
          case c1 => exact World.news_of_block (heap_new wr _)
          case c2 => intro u hu; rw [List.mem_singleton.1 hu]; rfl
          case c3 => omega
          case c4 => unfold maxLen; omega
          case c5 => omega
          case c6 => simp; have := HSa.out; omega
          intro ga capa wa howna hgrowa hata hlta
          have HOa : Hid (OwX wa w.heap.size (.slice (some ⟨ga, 0, none⟩) (o.length + 1) capa) (o ++ [x])) := by
            show OwX _ _ _ _
            unfold OwX
            rw [List.map_append, List.length_append]
            exact howna
          have HBa : Hid (Below w.heap.size w wa) := (HBpa.out.alloc (by have := HSa.out; omega) _).grown hgrowa (by simp; have := HSa.out; omega) fun k hk => OwX.own HO.out hk
          clear howna hgrowa hata hlta
          go_wp2_with fail
          go_roundg k'
          case measure => omega
          case rel =>
            obtain ⟨ho, hall⟩ := HOo.out
            refine ⟨j + 1, o ++ [x], false, by have := HJ.out; omega, rfl, congrArg (Value.int .i64) (by omega), by simp; omega, HOa, Or.inl ⟨rfl, by rw [HTk.out, ho], fun y hy => ?_⟩, HBa⟩
            rcases List.mem_append.1 hy with hy | hy
            · exact hall y hy
            · rw [List.mem_singleton.1 hy]; exact htx
      · have HOo := hid ho
        clear ho HI
        have HSa : Hid (w.heap.size ≤ wr.heap.size) := hbs
        have HBpa := HB
        go_wp2_with (at_builtin; refine wpList_append_lies _ rfl _ _ 29 rfl w.heap.size 9 i1 (.string ⟨#[]⟩) 1 16 Tryd.underlying29 ji jz0 jz1 jz2 rfl (by decide) _ o.length (o.map fun t => Value.string (ba t)) rfl ?c0 ⟨wr.heap.size, 0, none⟩ 1 1 [.string (ba x)] rfl rfl ?c1 ?c2 ?c3 ?c4 ?c5 ?c6 _ rfl ?_)
        case c0 => exact OwX.kept HO.out fun g _ hg => Below.heap_alloc _ _ g hg
        case c1 => exact World.news_of_block (heap_new wr _)
        case c2 => intro u hu; rw [List.mem_singleton.1 hu]; rfl
        case c3 => omega
        case c4 => unfold maxLen; omega
        case c5 => omega
        case c6 => simp; have := HSa.out; omega
        intro ga capa wa howna hgrowa hata hlta
        have HOa : Hid (OwX wa w.heap.size (.slice (some ⟨ga, 0, none⟩) (o.length + 1) capa) (o ++ [x])) := by
          show OwX _ _ _ _
          unfold OwX
          rw [List.map_append, List.length_append]
          exact howna
        have HBa : Hid (Below w.heap.size w wa) := (HBpa.out.alloc (by have := HSa.out; omega) _).grown hgrowa (by simp; have := HSa.out; omega) fun k hk => OwX.own HO.out hk
        clear howna hgrowa hata hlta
        go_wp2_with fail
        go_roundg k'
        case measure => omega
        case rel =>
          refine ⟨j + 1, o ++ [x], true, by have := HJ.out; omega, rfl, congrArg (Value.int .i64) (by omega), by simp; omega, HOa, Or.inr ⟨rfl, ?_⟩, HBa⟩
          rw [← HOo.out, HDr.out]
          simp
    · obtain rfl : j = N := by omega
      have hnj : ¬ (j : Int) < j := by omega
      rcases HI.out with ⟨rfl, ho, hall⟩ | ⟨rfl, ho⟩
      · have HOo := hid (And.intro ho hall)
        have hoj : o.length ≤ j := by rw [ho, List.length_take]; omega
        clear ho hall HI
        have HSa : Hid (w.heap.size ≤ wr.heap.size) := hbs
        have HBpa := HB
        go_wp2_with (at_builtin; refine wpList_append_lies _ rfl _ _ 29 rfl w.heap.size 9 i1 (.string ⟨#[]⟩) 1 16 Tryd.underlying29 ji jz0 jz1 jz2 rfl (by decide) _ o.length (o.map fun t => Value.string (ba t)) rfl ?c0 ⟨wr.heap.size, 0, none⟩ 1 1 [.string (ba t)] rfl rfl ?c1 ?c2 ?c3 ?c4 ?c5 ?c6 _ rfl ?_)
        case c0 => exact OwX.kept HO.out fun g _ hg => Below.heap_alloc _ _ g hg
        case c2 => rfl
        case c4 => unfold maxLen; omega
        case c5 => omega
        case c6 => have := HSa.out; omega
        intro ga capa wa howna hgrowa hata hlta
        have HOa : Hid (OwX wa w.heap.size (.slice (some ⟨ga, 0, none⟩) (o.length + 1) capa) (o ++ [t])) := by
          show OwX _ _ _ _
          unfold OwX
          rw [List.map_append, List.length_append]
          exact howna
        have HBa : Hid (Below w.heap.size w wa) := (HBpa.out.alloc (by have := HSa.out; omega) _).grown hgrowa (by simp; have := HSa.out; omega) fun k hk => OwX.own HO.out hk
        clear howna hgrowa hata hlta
        go_wp2_with fail
        go_ret
        obtain ⟨ho, hall⟩ := HOo.out
        have e : ins t l = o ++ [t] := by
          have e0 : o = l := by rw [ho]; exact List.take_of_length_le (by rw [← HN.out]; exact Nat.le_refl _)
          rw [e0] at hall ⊢
          exact ins_end l hall
        exact ⟨⟨_, rfl, by rw [e]; exact HOa.out⟩, HBa.out⟩
      · have e : ins t l = o := by
          rw [← ho, List.drop_eq_nil_of_le (by rw [← HN.out]; exact Nat.le_refl _), List.append_nil]
        have HE := hid e
        clear e ho HI
        go_wp2_with fail
        go_ret
        exact ⟨⟨_, rfl, by rw [HE.out]; exact HO.out⟩, HB.out⟩
end Go.Proofs.YtgffipkbbenddaaDoor
