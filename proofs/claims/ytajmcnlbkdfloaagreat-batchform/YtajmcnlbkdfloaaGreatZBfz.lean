/- Texts of the proof, put together: Bfz. -/
import Derived.Test.YtajmcnlbkdfloaaGreatMBF
namespace Go.Proofs.YtajmcnlbkdfloaaGreat
open Go.RowKit
theorem cln_cln (r : Rec) : cln (cln r) = cln r := by
  unfold cln
  simp only [bd_bd, List.map_map]
  congr 1
  apply List.map_congr_left
  intro x _
  simp [bd_bd]
theorem dec_empty : dcd ⟨#[]⟩ 16777216 16777216 = .error 20 := by rfl
theorem form_walk (s : ByteArray) (fr pl : Int) (w : World) (hs : s.size ≤ 9223372036854775807) :
    Calls Tryz.prog 8 #[.string s, .agg #[.int .i64 fr, .int .i64 pl]] w fun e w' => e = .returned (.bool true) ∧ Below w.heap.size w w' := by
  have cd := fun w => decode_any s fr pl w hs
  cases hd : dcd s fr pl with
  | error x =>
    have hx : x ≠ 0 := by
      unfold dcd at hd
      split at hd
      · rename_i h; injection hd with hd; subst hd; exact opn_err h
      · rename_i f b h
        obtain ⟨L, T, _⟩ := taken h
        rw [T.rb] at hd
        cases hd
    refine form_err s fr pl x w hx (hid fun w => ?_)
    have c := cd w
    rw [hd] at c
    exact c.mono fun e w' h => ⟨h.2.1, h.1⟩
  | ok y =>
    obtain ⟨f, L⟩ := y
    have hop : ∃ b, opn s fr pl = .ok (f, b) ∧ rbd b f.first f.cnt = .ok L := by
      unfold dcd at hd
      split at hd
      · cases hd
      · rename_i f' b h
        split at hd
        · cases hd
        · rename_i L' hr
          injection hd with hd
          injection hd with e1 e2
          subst e1 e2
          exact ⟨b, h, hr⟩
    obtain ⟨b, ho, hrb⟩ := hop
    obtain ⟨L2, T, hbod⟩ := taken ho
    have hLL : L2 = L := by have := T.rb; rw [hrb] at this; injection this with h; exact h.symm
    subst hLL
    have hl1 := T.r.l1
    have hl2 := T.r.l2
    have hn := T.n
    have hst := T.r.st
    have fact : ∀ l : List RI, l.map RI.r = L2 → (∀ x ∈ l, I64 x.r.t ∧ Mod x.r) ∧ l.length = f.cnt := fun l hl => by
      rw [← hl] at hrb
      obtain ⟨b1, b2, _⟩ := body_again hrb
      exact ⟨b1, by omega⟩
    have ce : ∀ (l : List RI) a cap w, Rcs w a l → l.map RI.r = L2 → Calls Tryz.prog 10 #[.agg #[.int .i64 f.base, .bool false, .int .i64 f.prod, .int .i32 f.seq, .slice a l.length cap]] w fun e w' => (∃ (E : Nat) (S : ByteArray), e = .returned (.tuple #[.string S, .int .i64 E]) ∧ EncP ⟨f.base, false, f.prod, f.seq, l, a, cap⟩ E S) ∧ Below w.heap.size w w' := fun l a cap w V hl =>
      encode_any ⟨f.base, false, f.prod, f.seq, l, a, cap⟩ w V (fun x hx => ((fact l hl).1 x hx).1) (fun x hx => ((fact l hl).1 x hx).2) (by have := (fact l hl).2; have := T.r.c2; show l.length ≤ _; omega)
    have cdo : ∀ (pk : Bool), decide (f.st = 1) = pk → ∀ w, Calls Tryz.prog 17 #[.string s, .int .i64 fr, .int .i64 pl] w fun e w' => ∃ l a cap, e = .returned (.tuple #[.agg #[.int .i64 f.base, .bool pk, .int .i64 f.prod, .int .i32 f.seq, .slice a l.length cap], .int .i64 (12 + f.len : Nat), .int .i64 0]) ∧ Rcs w' a l ∧ l.map RI.r = L2 ∧ Below w.heap.size w w' := fun pk hpk w => by
      have c := cd w
      rw [hd] at c
      refine c.mono ?_
      rintro e w' ⟨hb, v, l, rfl, hH, hl⟩
      obtain ⟨a, cap, rfl, hV⟩ := hH.slice
      dsimp only
      rw [hpk]
      exact ⟨l, a, cap, rfl, hV, hl, hb⟩
    by_cases hs0 : f.st = 0
    · have hex : s.extract 51 (12 + f.len) = b := by
        unfold bod at hbod
        rw [if_neg (by omega)] at hbod
        split at hbod
        · cases hbod
        · injection hbod
      refine form_plain s fr pl f L2 w (by omega) hn (by omega) (hid (cdo false (decide_eq_false (by omega)))) (hid fun l a cap w V hl => ?_)
      refine (ce l a cap w V hl).mono ?_
      rintro e w' ⟨⟨E, S, rfl, hE⟩, hb⟩
      obtain ⟨rfl, rfl⟩ := form_bytes T hex hs0 l hl a cap E S hE
      exact ⟨rfl, hb⟩
    · have hs1 : f.st = 1 := by omega
      have hpr : -9223372036854775808 ≤ f.prod ∧ f.prod ≤ 9223372036854775807 := by rw [T.fs]; exact wrap64_in _
      have hsq : -2147483648 ≤ f.seq ∧ f.seq ≤ 2147483647 := by rw [T.fs]; show _ ≤ wrap32 _ ∧ wrap32 _ ≤ _; unfold wrap32; omega
      refine form_packed s fr pl f L2 w (by omega) hn (by omega) (hid (cdo true (decide_eq_true hs1))) (hid ce) (hid fun w => ?_) (hid fun l a cap S w hl hE => ?_) (hid fun l l2 a a2 cap cap2 w V1 V2 h1 h2 => ?_)
      · have c := decode_any ⟨#[]⟩ 16777216 16777216 w (by decide)
        rw [dec_empty] at c
        exact c.mono fun e w' h => ⟨h.2.1, h.1⟩
      · have hB : BtOk ⟨f.base, false, f.prod, f.seq, l, a, cap⟩ := ⟨fun x hx => ((fact l hl).1 x hx).1, fun x hx => ((fact l hl).1 x hx).2, by have := (fact l hl).2; have := T.r.c2; show l.length ≤ _; omega, hpr.1, hpr.2, hsq.1, hsq.2⟩
        have hS : ∃ S0, BodyP l 0 S0 ∧ S = frm (fsB ⟨f.base, false, f.prod, f.seq, l, a, cap⟩ S0.size) S0 ∧ S0.size ≤ 16777165 := by
          rcases hE with ⟨h, _⟩ | ⟨_, T', h2, h3⟩
          · exact absurd rfl h
          · obtain ⟨_, S0, h5, h6, h7⟩ := sto_ok h2
            have e : T' = S0 := h6
            subst e
            exact ⟨T', h5, h3, h7⟩
        obtain ⟨S0, q1, q2, q3⟩ := hS
        have hop := opn_frame (b := ⟨f.base, false, f.prod, f.seq, l, a, cap⟩) hB (rfh_of T false l (fact l hl).2 a cap) q1 (show (sto ⟨f.base, false, f.prod, f.seq, l, a, cap⟩ S0).size ≤ 16777165 from q3) ⟨#[]⟩ 16777216 16777216 (by show ((51 + S0.size : Nat) : Int) ≤ wth 16777216 58 16777216; unfold wth; omega) (by unfold wth; omega)
        rw [app_emp] at hop
        have hop2 : opn S 16777216 16777216 = .ok (hdB ⟨f.base, false, f.prod, f.seq, l, a, cap⟩ S0, S0) := by rw [q2]; exact hop
        have hbk := (body_back (fun x hx => ((fact l hl).1 x hx).1) (fun x hx => ((fact l hl).1 x hx).2) q1).2.2.2.2.1
        have hdd : dcd S 16777216 16777216 = .ok (hdB ⟨f.base, false, f.prod, f.seq, l, a, cap⟩ S0, (l.map RI.r).map cln) := by
          unfold dcd
          rw [hop2]
          dsimp only
          rw [show rbd S0 (hdB ⟨f.base, false, f.prod, f.seq, l, a, cap⟩ S0).first (hdB ⟨f.base, false, f.prod, f.seq, l, a, cap⟩ S0).cnt = .ok ((l.map RI.r).map cln) from hbk]
        have c := decode_any S 16777216 16777216 w (by rw [q2, frm_size]; omega)
        rw [hdd] at c
        refine c.mono ?_
        rintro e w' ⟨hb, v, l2, rfl, hH, hl2⟩
        obtain ⟨a2, cap2, rfl, hV⟩ := hH.slice
        exact ⟨l2, a2, cap2, _, rfl, hV, by rw [hl2, hl], hb⟩
      · refine sameB_yes ⟨f.base, false, f.prod, f.seq, l, a, cap⟩ ⟨f.base, false, f.prod, f.seq, l2, a2, cap2⟩ w V1 V2 ⟨rfl, rfl, rfl, rfl, ?_⟩ (by have := (fact l h1).2; have := T.r.c2; show l.length ≤ _; omega) (fun x hx => ((fact l h1).1 x hx).2.n)
        show l.map (fun x => cln x.r) = l2.map (fun x => cln x.r)
        have e1 : l.map (fun x => cln x.r) = (l.map RI.r).map cln := by rw [List.map_map]; rfl
        have e2 : l2.map (fun x => cln x.r) = (l2.map RI.r).map cln := by rw [List.map_map]; rfl
        have e3 : ∀ M : List Rec, (M.map cln).map cln = M.map cln := fun M => by rw [List.map_map]; exact List.map_congr_left (fun x _ => cln_cln x)
        rw [e1, e2, h2, e3, h1]
end Go.Proofs.YtajmcnlbkdfloaaGreat
