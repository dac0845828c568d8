/- The law's 'looks': do both disks look alike? -/
import Derived.Test.YtclelafnjfhdjaaPrk
import Derived.Test.YtclelafnjfhdjaaRls
import Derived.Test.YtclelafnjfhdjaaRrd
import Derived.Test.YtclelafnjfhdjaaRrm
namespace Go.Proofs.Ytclelafnjfhdjaa
open Go.RowKit
theorem own_othA {w w' : World} {B n : Nat} {v : Value} {l : List Value} (h : w.ownsRow B 9 1 v n l) (ho : OthA w w') : w'.ownsRow B 9 1 v n l := by
  refine ⟨h.1, ?_⟩
  rcases h.2 with h2 | ⟨g, cap, cur, e, hb, hg, r⟩
  · exact Or.inl h2
  · exact Or.inr ⟨g, cap, cur, e, hb, ho g _ _ _ hg (by decide) (by decide) (by decide) (by decide) (by decide), r⟩
theorem nm_cell' {w : World} {B n : Nat} {a : Option Addr} {cap : Nat} {l : List Value} (h : w.ownsRow B 9 1 (.slice a n cap) n l) {j : Nat} {u : Value} (hj : l[j]? = some u) : ∃ g, a = some ⟨g, 0, none⟩ ∧ w.cell? ⟨g, j, none⟩ = some u := by
  obtain ⟨a', cap', e, k⟩ := row_form h
  injection e with e1 e2 e3
  obtain ⟨g, e4, e5⟩ := k j u hj
  exact ⟨g, by rw [e1]; exact e4, e5⟩
theorem rdS_all' (x : List UInt8 × Nat) : rdS (some x) 0 x.1.length = ba x.1 := by
  unfold rdS
  have : has5 x.1.length 0 (x.1.length : Nat) = true := by unfold has5; simp
  simp only [this, if_true]
  congr 1
  simp
theorem rdE_all' (x : List UInt8 × Nat) : rdE (some x) 0 x.1.length = 0 := by
  unfold rdE
  have : has5 x.1.length 0 (x.1.length : Nat) = true := by unfold has5; simp
  simp only [this, if_true]
/-- Both disks under way, and a list of names. -/
def PL (w0 : World) (K : Nat → Prop) (d r : Nat) (rm : Nat) (V : Vw) (B : Nat) (aL : Option Addr) (N capL : Nat) (cl cb cl' cb' : Int) (w : World) : Prop :=
  Pr w0 K w d r rm cl cb V cl' cb' V ∧ w.ownsRow B 9 1 (.slice aL N capL) N (V.map (fun x => Value.string x.1))
section
variable {w0 : World} {K : Nat → Prop} {d r : Nat} {rm : Nat} {V : Vw} {B : Nat} {aL : Option Addr} {N capL : Nat} {cl cb cl' cb' : Int} {w w' : World}
theorem PL.kept (h : PL w0 K d r rm V B aL N capL cl cb cl' cb' w) (hb : Below w.heap.size w w') : PL w0 K d r rm V B aL N capL cl cb cl' cb' w' := ⟨h.1.kept hb, own_othA h.2 (Oth.below hb).a⟩
theorem PL.lookD (h : PL w0 K d r rm V B aL N capL cl cb cl' cb' w) {f : FuncId} {args : Array Value} {v : Value} (hc : ∀ fd, Ds w d fd rm cl cb V → Calls Try.prog f args w fun e w' => e = .returned v ∧ ∃ k, w' = w.drewN k) : Calls Try.prog f args w fun e w' => e = .returned v ∧ PL w0 K d r rm V B aL N capL cl cb cl' cb' w' := by
  obtain ⟨fd, fr, h1, h2⟩ := h.1
  refine (hc fd h1).mono ?_
  rintro e w' ⟨he, k, rfl⟩
  exact ⟨he, h.kept (bel_drewN w k)⟩
theorem PL.lookR (h : PL w0 K d r rm V B aL N capL cl cb cl' cb' w) {f : FuncId} {args : Array Value} {v : Value} (hc : ∀ fl, Rk w r fl rm cl' cb' V → Calls Try.prog f args w fun e w' => e = .returned v ∧ ∃ k, w' = w.drewN k) : Calls Try.prog f args w fun e w' => e = .returned v ∧ PL w0 K d r rm V B aL N capL cl cb cl' cb' w' := by
  obtain ⟨fd, fr, h1, ⟨fl, h2, _⟩, _⟩ := h.1
  refine (hc fl h2).mono ?_
  rintro e w' ⟨he, k, rfl⟩
  exact ⟨he, h.kept (bel_drewN w k)⟩
theorem PL.readD (h : PL w0 K d r rm V B aL N capL cl cb cl' cb' w) (nm : ByteArray) (x : List UInt8 × Nat) (hv : vl nm V = some x) (hn : nm.size ≤ maxLen) :
    Calls Try.prog 24 #[.pointer (some ⟨d, 0, none⟩), .string nm, .int .i64 0, .int .i64 x.1.length] w fun e w' => e = .returned (.tuple #[.string (ba x.1), .int .i64 0]) ∧ PL w0 K d r rm V B aL N capL (wrap64 (cl + 1)) (wrap64 (cb + x.1.length)) cl' cb' w' := by
  refine h.1.prog (cl1 := wrap64 (cl + 1)) (cb1 := wrap64 (cb + x.1.length)) (V1 := V) (fun fa hd => ?_) (fun w' k1 k2 => ⟨rfl, k1, own_othA h.2 k2.a⟩)
  have hR := s_read d fa rm cl cb V nm w hd 0 x.1.length hn (by decide)
  unfold rdC rdB at hR
  rw [hv, rdS_all', rdE_all', if_pos rfl, if_pos rfl] at hR
  exact hR
theorem PL.readR (h : PL w0 K d r rm V B aL N capL cl cb cl' cb' w) (nm : ByteArray) (x : List UInt8 × Nat) (hv : vl nm V = some x) (hs : SV rm V) :
    Calls Try.prog 31 #[.pointer (some ⟨r, 0, none⟩), .string nm, .int .i64 0, .int .i64 x.1.length] w fun e w' => e = .returned (.tuple #[.string (ba x.1), .int .i64 0]) ∧ PL w0 K d r rm V B aL N capL cl cb (wrap64 (cl' + 1)) (wrap64 (cb' + x.1.length)) w' := by
  refine h.1.refA (cl1 := wrap64 (cl' + 1)) (cb1 := wrap64 (cb' + x.1.length)) (V1 := V) (fun fl hk => ?_) (fun w' k1 k2 => ⟨rfl, k1, own_othA h.2 k2⟩)
  have hR := rread_any r fl rm cl' cb' V nm 0 x.1.length w hk hs (by decide)
  unfold rdC rdB at hR
  rw [hv, rdS_all', rdE_all', if_pos rfl, if_pos rfl] at hR
  exact hR
end
set_option maxHeartbeats 4000000 in
set_option maxRecDepth 20000 in
theorem looks_any (w0 : World) (K : Nat → Prop) (d r : Nat) (rm : Nat) (cl cb : Int) (V : Vw) (w : World) (hP : Pr w0 K w d r rm cl cb V cl cb V) (hs : SV rm V) :
    Calls Try.prog 10 #[.pointer (some ⟨d, 0, none⟩), .pointer (some ⟨r, 0, none⟩)] w fun e w' => e = .returned (.bool true) ∧ ∃ cl' cb', Pr w0 K w' d r rm cl' cb' V cl' cb' V := by
  have hc := hs.cnt
  have HS := hid hs
  have HP := hid hP
  clear hs hP
  have HLR : Hid (Calls Try.prog 25 #[.pointer (some ⟨r, 0, none⟩)] w fun e w' => ∃ v, e = .returned v ∧ w'.ownsRow w.heap.size 9 1 v V.length (V.map (fun x => Value.string x.1)) ∧ Below w.heap.size w w') := by
    obtain ⟨fd, fr, h1, ⟨fl, h2, _⟩, _⟩ := HP.out
    exact rlist_any r fl rm cl cb V w h2 HS.out
  generalize hN : V.length = N at *
  have HN := hid hN
  clear hN
  go_enter Try.func10, Try.ntmps10
  go_wp2_with (go_at_call 25; refine HLR.out.mono ?_; rintro e w1 ⟨v1, rfl, ho1, hb1⟩; obtain ⟨aL, capL, rfl⟩ := own_form ho1; have HL1 : Hid (PL w0 K d r rm V w.heap.size aL N capL cl cb cl cb w1) := ⟨HP.out.kept hb1, ho1⟩; clear ho1 hb1)
  refine (HL1.out.lookD (fun fd hd => s_room d fd rm cl cb V w1 hd)).mono ?_
  rintro e w2 ⟨rfl, hp2⟩
  have HL2 := hid hp2
  clear hp2
  go_wp2_with fail
  refine (HL2.out.lookR (fun fl hk => rroom_any r fl rm cl cb V w2 hk)).mono ?_
  rintro e w3 ⟨rfl, hp3⟩
  have HL3 := hid hp3
  clear hp3
  go_wp2_with fail
  refine (HL3.out.lookD (fun fd hd => s_used d fd rm cl cb V w3 hd)).mono ?_
  rintro e w4 ⟨rfl, hp4⟩
  have HL4 := hid hp4
  clear hp4
  go_wp2_with fail
  refine (HL4.out.lookR (fun fl hk => rused_any r fl rm cl cb V w4 hk HS.out)).mono ?_
  rintro e w5 ⟨rfl, hp5⟩
  have HL5 := hid hp5
  clear hp5
  generalize vt V = T at *
  go_wp2_with fail
  have HLD : Hid (Calls Try.prog 15 #[.pointer (some ⟨d, 0, none⟩)] w5 fun e w' => ∃ v, e = .returned v ∧ Lsd w' w5.heap.size v (V.map (·.1)) ∧ Below w5.heap.size w5 w') := by
    obtain ⟨fd, fr, h1, _⟩ := HL5.out.1
    exact s_listV d fd rm cl cb V w5 h1 (by rw [HN.out]; exact hc)
  refine HLD.out.mono ?_
  rintro e w6 ⟨v6, rfl, hL6, hb6⟩
  have HL6 := hid (HL5.out.kept hb6)
  have HSAME : Hid (Calls Try.prog 16 #[v6, .slice aL N capL] w6 fun e w' => e = .returned (.bool true) ∧ ∃ k, w' = w6.drewN k) := by
    refine same_any (V.map (·.1)) v6 (.slice aL N capL) _ w.heap.size w6 hL6.1 ?_ (by rw [List.length_map, HN.out]; omega)
    have := HL6.out.2
    rw [List.length_map, List.map_map, HN.out]
    exact this
  clear hL6 hb6 HLD
  go_wp2_with fail
  refine HSAME.out.mono ?_
  rintro e w7 ⟨rfl, k7, rfl⟩
  have HL7 := hid (HL6.out.kept (bel_drewN w6 k7))
  clear HSAME HL1 HL2 HL3 HL4 HL5 HLR HP
  go_wp2_with fail
  generalize w.heap.size = B0 at *
  go_loopg [6] N (fun k i wr => ∃ (j : Nat) (cj bj : Int), j + k = N ∧ i = .int .i64 j ∧ Hid (PL w0 K d r rm V B0 aL N capL cj bj cj bj wr))
  case atStart => exact ⟨0, cl, cb, by omega, rfl, HL7⟩
  case round =>
    clear HL7 HL6
    obtain ⟨j, cj, bj, hk, rfl, HG⟩ := hrel
    by_cases hlt : j < N
    · obtain ⟨k, rfl⟩ : ∃ k, gk = k + 1 := ⟨gk - 1, by omega⟩
      have hltD : decide ((j : Int) < N) = true := by simp; omega
      have hltI : (j : Int) < N := by omega
      have EW := hid (winc2 j (by omega))
      obtain ⟨l', x, r', eV, eL⟩ : ∃ l' x r', V = l' ++ x :: r' ∧ l'.length = j := by
        refine ⟨V.take j, V[j]'(by rw [HN.out]; exact hlt), V.drop (j + 1), ?_, by rw [List.length_take, HN.out]; omega⟩
        conv => lhs; rw [← List.take_append_drop j V]
        rw [List.drop_eq_getElem_cons (by rw [HN.out]; exact hlt)]
      have hnx : (V.map (fun x => Value.string x.1))[j]? = some (.string x.1) := by rw [eV, List.map_append, List.getElem?_append_right (by simp; omega)]; simp [eL]
      obtain ⟨gl, rfl, qn⟩ := nm_cell' HG.out.2 hnx
      have hx255 := (HS.out.lng x (by rw [eV]; simp)).1
      have hv : vl x.1 V = some x.2 := by
        have := HS.out.srt
        rw [eV] at this ⊢
        have k := List.pairwise_append.1 this
        exact vl_mid (x := x.2) (r := r') (fun y hy => k.2.2 y hy x (by simp))
      have hn' : x.1.size ≤ maxLen := by unfold maxLen; omega
      have NM : Hid (∀ (c1 b1 c2 b2 : Int) wx, PL w0 K d r rm V B0 (some ⟨gl, 0, none⟩) N capL c1 b1 c2 b2 wx → wx.cell? ⟨gl, j, none⟩ = some (.string x.1)) := fun _ _ _ _ wx hx => by
        obtain ⟨g2, e, q⟩ := nm_cell' hx.2 hnx
        injection e with e
        injection e with e
        subst e
        exact q
      have SzD : Hid (∀ (wx : World) fd (c b : Int), Ds wx d fd rm c b V → Calls Try.prog 28 #[.pointer (some ⟨d, 0, none⟩), .string x.1] wx fun e w' => e = .returned (.tuple #[.int .i64 x.2.1.length, .int .i64 0]) ∧ ∃ k, w' = wx.drewN k) := fun wx fd c b h1 => by
        have := s_size d fd rm c b V x.1 wx h1 hn'; rw [hv] at this; exact this
      have SyD : Hid (∀ (wx : World) fd (c b : Int), Ds wx d fd rm c b V → Calls Try.prog 19 #[.pointer (some ⟨d, 0, none⟩), .string x.1] wx fun e w' => e = .returned (.tuple #[.int .i64 x.2.2, .int .i64 0]) ∧ ∃ k, w' = wx.drewN k) := fun wx fd c b h1 => by
        have := s_synced d fd rm c b V x.1 wx h1 hn'; rw [hv] at this; exact this
      have SzR : Hid (∀ (wx : World) fl (c b : Int), Rk wx r fl rm c b V → Calls Try.prog 29 #[.pointer (some ⟨r, 0, none⟩), .string x.1] wx fun e w' => e = .returned (.tuple #[.int .i64 x.2.1.length, .int .i64 0]) ∧ ∃ k, w' = wx.drewN k) := fun wx fl c b h1 => by
        have := rsize_any r fl rm c b V x.1 wx h1 HS.out; rw [hv] at this; exact this
      have SyR : Hid (∀ (wx : World) fl (c b : Int), Rk wx r fl rm c b V → Calls Try.prog 30 #[.pointer (some ⟨r, 0, none⟩), .string x.1] wx fun e w' => e = .returned (.tuple #[.int .i64 x.2.2, .int .i64 0]) ∧ ∃ k, w' = wx.drewN k) := fun wx fl c b h1 => by
        have := rsynced_any r fl rm c b V x.1 wx h1 HS.out; rw [hv] at this; exact this
      have HV := hid (And.intro hv hn')
      have te := tq_eq (ba x.2.1)
      clear eV eL hnx hv hx255 hn'
      go_wp2_with fail
      refine (HG.out.lookD (fun fd hd => SzD.out _ fd _ _ hd)).mono ?_
      rintro e w1 ⟨rfl, hp1⟩
      have HG1 := hid hp1
      have n1 := NM.out _ _ _ _ _ hp1
      clear hp1 qn
      go_wp2_with fail
      refine (HG1.out.lookR (fun fl hk => SzR.out _ fl _ _ hk)).mono ?_
      rintro e w2 ⟨rfl, hp2⟩
      have HG2 := hid hp2
      have n2 := NM.out _ _ _ _ _ hp2
      clear hp2 n1
      go_wp2_with fail
      refine (HG2.out.lookD (fun fd hd => SyD.out _ fd _ _ hd)).mono ?_
      rintro e w3 ⟨rfl, hp3⟩
      have HG3 := hid hp3
      have n3 := NM.out _ _ _ _ _ hp3
      clear hp3 n2
      go_wp2_with fail
      refine (HG3.out.lookR (fun fl hk => SyR.out _ fl _ _ hk)).mono ?_
      rintro e w4 ⟨rfl, hp4⟩
      have HG4 := hid hp4
      have n4 := NM.out _ _ _ _ _ hp4
      clear hp4 n3
      go_wp2_with fail
      refine (HG4.out.readD x.1 x.2 HV.out.1 HV.out.2).mono ?_
      rintro e w5 ⟨rfl, hp5⟩
      have HG5 := hid hp5
      have n5 := NM.out _ _ _ _ _ hp5
      clear hp5 n4
      go_wp2_with fail
      refine (HG5.out.readR x.1 x.2 HV.out.1 HS.out).mono ?_
      rintro e w6 ⟨rfl, hp6⟩
      have HG6 := hid hp6
      clear hp6 n5 NM SzD SzR SyD SyR HG HG1 HG2 HG3 HG4 HG5
      go_wp2_with fail
      go_roundg k
      case measure => omega
      case rel => exact ⟨j + 1, _, _, by omega, by first | exact congrArg (Value.int .i64) EW.out | rfl, HG6⟩
    · have hltD : decide ((j : Int) < N) = false := by simp; omega
      go_wp2_with fail
      refine (HG.out.lookD (fun fd hd => s_reads d fd rm cj bj V wr hd)).mono ?_
      rintro e w1 ⟨rfl, hp1⟩
      have HG1 := hid hp1
      clear hp1
      go_wp2_with fail
      refine (HG1.out.lookR (fun fl hk => rreads_any r fl rm cj bj V w1 hk)).mono ?_
      rintro e w2 ⟨rfl, hp2⟩
      have HG2 := hid hp2
      clear hp2
      go_wp2_with fail
      go_ret
      exact ⟨rfl, cj, bj, HG2.out.1⟩
end Go.Proofs.Ytclelafnjfhdjaa
