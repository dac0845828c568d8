/- Texts of the proof, put together: Scu, Shd, Shs, Sca, Swp, Swk. -/
import Derived.Test.YtgcgnkafhpjdiaaGreatMSc
import Derived.Deep.LoopGhost
import Derived.Deep.RegionHeld3
import Derived.BigRegion
namespace Go.Proofs.YtgcgnkafhpjdiaaGreat
open Go.RowKit
/-- The place behind a found frame. -/
def fen (x : Fs × Nat) : Nat := x.2 + (12 + x.1.len)
/-- The place behind the first n. -/
def enA (d : Nat) (l : List (Fs × Nat)) : Nat → Nat
  | 0 => d
  | n + 1 => fen (l.getD n dfd)
theorem lks_cut {s : ByteArray} {frame plain : Int} {c k : Nat} {b : Int} {f : Fs} (hc : c ≤ s.size) (_hk : k ≤ c) (h : lks (s.extract 0 c) frame plain k b = .ok f) : lks s frame plain k b = .ok f ∧ k + (12 + f.len) ≤ c := by
  obtain ⟨bb, ho, hb⟩ := lks_ok h
  have hz : (s.extract 0 c).size = c := by rw [ByteArray.size_extract]; omega
  rw [hz, ByteArray.extract_extract] at ho
  have hr := opn_right ho
  rw [ByteArray.size_extract] at hr
  have h1 : k + (12 + f.len) ≤ c := by omega
  have ho2 : opn (s.extract k s.size) frame plain = .ok (f, bb) := opn_loc ho (by rw [ByteArray.size_extract]; omega) (by rw [ByteArray.extract_extract, ByteArray.extract_extract]; congr 1 <;> omega)
  refine ⟨?_, h1⟩
  unfold lks
  rw [ho2]
  dsimp only
  rw [if_pos hb]
theorem lks_back {s : ByteArray} {frame plain : Int} {c k : Nat} {b : Int} {f : Fs} (hc : c ≤ s.size) (_hk : k ≤ c) (h : lks s frame plain k b = .ok f) (h1 : k + (12 + f.len) ≤ c) : lks (s.extract 0 c) frame plain k b = .ok f := by
  obtain ⟨bb, ho, hb⟩ := lks_ok h
  have hz : (s.extract 0 c).size = c := by rw [ByteArray.size_extract]; omega
  have ho2 : opn ((s.extract 0 c).extract k (s.extract 0 c).size) frame plain = .ok (f, bb) := opn_loc ho (by rw [ByteArray.size_extract, hz]; omega) (by rw [hz, ByteArray.extract_extract, ByteArray.extract_extract, ByteArray.extract_extract]; congr 1 <;> omega)
  unfold lks
  rw [ho2]
  dsimp only
  rw [if_pos hb]
/-- What is cut, from a place on. -/
theorem trc_cut {s : ByteArray} {frame plain : Int} {c : Nat} (hc : c ≤ s.size) : ∀ (m m' k : Nat) (b : Int) (n : Nat), k ≤ c → c - k < m → s.size - k < m' →
    n ≤ (frs (trc (lks s frame plain) s.size m' k b)).length → (∀ i, i < n → fen ((frs (trc (lks s frame plain) s.size m' k b)).getD i dfd) ≤ c) → (n < (frs (trc (lks s frame plain) s.size m' k b)).length → c < fen ((frs (trc (lks s frame plain) s.size m' k b)).getD n dfd)) →
    frs (trc (lks (s.extract 0 c) frame plain) c m k b) = (frs (trc (lks s frame plain) s.size m' k b)).take n ∧ enG k (trc (lks (s.extract 0 c) frame plain) c m k b) = enA k (frs (trc (lks s frame plain) s.size m' k b)) n ∧ (wyG 0 (trc (lks (s.extract 0 c) frame plain) c m k b) = 0 ↔ enA k (frs (trc (lks s frame plain) s.size m' k b)) n = c)
  | 0, m', k, b, n, hk, h1, h2, h3, h4, h5 => by omega
  | m + 1, 0, k, b, n, hk, h1, h2, h3, h4, h5 => by omega
  | m + 1, m' + 1, k, b, n, hk, h1, h2, h3, h4, h5 => by
    by_cases hlt : k < c
    · have hlt' : k < s.size := by omega
      cases ht : lks (s.extract 0 c) frame plain k b with
      | ok f =>
        obtain ⟨hs, hf⟩ := lks_cut hc hk ht
        rw [trc_fr hlt ht]
        rw [trc_fr hlt' hs] at h3 h4 h5 ⊢
        dsimp only [frs] at h3 h4 h5 ⊢
        cases n with
        | zero =>
          have := h5 (by rw [List.length_cons]; omega)
          rw [List.getD_cons_zero] at this
          unfold fen at this
          dsimp only at this
          omega
        | succ n =>
          rw [List.length_cons] at h3 h5
          have ih := trc_cut (frame := frame) (plain := plain) hc m m' (k + (12 + f.len)) (f.base + f.cnt) n hf (by omega) (by omega) (by omega)
            (fun i hi => by have := h4 (i + 1) (by omega); rwa [List.getD_cons_succ] at this)
            (fun hn => by have := h5 (by omega); rwa [List.getD_cons_succ] at this)
          obtain ⟨i1, i2, i3⟩ := ih
          have e : enA k ((f, k) :: frs (trc (lks s frame plain) s.size m' (k + (12 + f.len)) (f.base + f.cnt))) (n + 1) = enA (k + (12 + f.len)) (frs (trc (lks s frame plain) s.size m' (k + (12 + f.len)) (f.base + f.cnt))) n := by
            cases n with
            | zero => rfl
            | succ n => show fen _ = fen _; rw [List.getD_cons_succ]
          refine ⟨by rw [i1, List.take_succ_cons], ?_, ?_⟩
          · rw [e]; exact i2
          · rw [e]; exact i3
      | error x =>
        have hx := lks_pos ht
        rw [trc_no hlt ht]
        have hn : n = 0 := by
          cases hs : lks s frame plain k b with
          | error y =>
            rw [trc_no hlt' hs] at h3
            have h3' : n ≤ 0 := h3
            omega
          | ok f =>
            rw [trc_fr hlt' hs] at h4
            cases n with
            | zero => rfl
            | succ n =>
              have h6 := h4 0 (by omega)
              dsimp only [frs] at h6
              rw [List.getD_cons_zero] at h6
              have := lks_back hc hk hs h6
              rw [ht] at this
              cases this
        subst hn
        refine ⟨by rw [List.take_zero]; rfl, rfl, ⟨fun h => absurd h hx, fun h => ?_⟩⟩
        have h' : k = c := h
        omega
    · have hkc : k = c := by omega
      subst hkc
      rw [trc_end hlt]
      have hn : n = 0 := by
        cases n with
        | zero => rfl
        | succ n =>
          have h6 := h4 0 (by omega)
          by_cases hs : k < s.size
          · cases hl : lks s frame plain k b with
            | error y =>
              rw [trc_no hs hl] at h3
              have h3' : n + 1 ≤ 0 := h3
              omega
            | ok f =>
              rw [trc_fr hs hl] at h6
              dsimp only [frs] at h6
              rw [List.getD_cons_zero] at h6
              unfold fen at h6
              dsimp only at h6
              omega
          · rw [trc_end hs] at h3
            have h3' : n + 1 ≤ 0 := h3
            omega
      subst hn
      exact ⟨by rw [List.take_zero]; rfl, rfl, ⟨fun _ => rfl, fun _ => rfl⟩⟩
theorem tr_cut {s : ByteArray} {base frame plain : Int} {c n : Nat} (hc : c ≤ s.size) (h3 : n ≤ (frs (tr s base frame plain)).length) (h4 : ∀ i, i < n → fen ((frs (tr s base frame plain)).getD i dfd) ≤ c) (h5 : n < (frs (tr s base frame plain)).length → c < fen ((frs (tr s base frame plain)).getD n dfd)) :
    frs (tr (s.extract 0 c) base frame plain) = (frs (tr s base frame plain)).take n ∧ enG 0 (tr (s.extract 0 c) base frame plain) = enA 0 (frs (tr s base frame plain)) n ∧ (wyG 0 (tr (s.extract 0 c) base frame plain) = 0 ↔ enA 0 (frs (tr s base frame plain)) n = c) := by
  have hz : (s.extract 0 c).size = c := by rw [ByteArray.size_extract]; omega
  have e : tr (s.extract 0 c) base frame plain = trc (lks (s.extract 0 c) frame plain) c (c + 1) 0 base := by unfold tr; rw [hz]
  rw [e]
  exact trc_cut hc (c + 1) (s.size + 1) 0 base n (Nat.zero_le _) (by omega) (by omega) h3 h4 h5
/-- How long a run is. -/
theorem trc_le {lk : Nat → Int → Except Nat Fs} {N : Nat} (hl : ∀ k b f, lk k b = .ok f → Right f ∧ k + (12 + f.len) ≤ N) : ∀ (m k : Nat) (b : Int), k ≤ N → (trc lk N m k b).length * 58 ≤ N - k + 58
  | 0, k, b, hk => by show 0 * 58 ≤ _; omega
  | m + 1, k, b, hk => by
    by_cases hlt : k < N
    · cases h : lk k b with
      | error e => rw [trc_no hlt h]; show 1 * 58 ≤ _; omega
      | ok f =>
        rw [trc_fr hlt h, List.length_cons]
        obtain ⟨h1, h2⟩ := hl k b f h
        have h3 := h1.l1
        have ih := trc_le hl m (k + (12 + f.len)) (f.base + f.cnt) h2
        omega
    · rw [trc_end hlt]
      show 0 * 58 ≤ _
      omega
theorem tr_le (s : ByteArray) (base frame plain : Int) : (tr s base frame plain).length * 58 ≤ s.size + 58 := by
  have := trc_le (lk := lks s frame plain) (N := s.size) (fun k b f h => by
    obtain ⟨bb, ho, _⟩ := lks_ok h
    have hr := opn_right ho
    rw [ByteArray.size_extract] at hr
    exact ⟨hr.1, by have := hr.1.l1; omega⟩) (s.size + 1) 0 base (Nat.zero_le _)
  unfold tr
  omega
/-- Every found frame lies in the bytes. -/
theorem trc_in {lk : Nat → Int → Except Nat Fs} {N : Nat} (hl : ∀ k b f, lk k b = .ok f → Right f ∧ k + (12 + f.len) ≤ N) : ∀ (m k : Nat) (b : Int), ∀ x ∈ frs (trc lk N m k b), Right x.1 ∧ fen x ≤ N
  | 0, k, b, x, hx => by cases hx
  | m + 1, k, b, x, hx => by
    by_cases hlt : k < N
    · cases h : lk k b with
      | error e => rw [trc_no hlt h] at hx; cases hx
      | ok f =>
        rw [trc_fr hlt h] at hx
        dsimp only [frs] at hx
        rcases List.mem_cons.1 hx with rfl | hx
        · exact hl k b f h
        · exact trc_in hl m _ _ x hx
    · rw [trc_end hlt] at hx
      cases hx
theorem tr_in {s : ByteArray} {base frame plain : Int} {x : Fs × Nat} (hx : x ∈ frs (tr s base frame plain)) : Right x.1 ∧ fen x ≤ s.size :=
  trc_in (lk := lks s frame plain) (N := s.size) (fun k b f h => by
    obtain ⟨bb, ho, _⟩ := lks_ok h
    have hr := opn_right ho
    rw [ByteArray.size_extract] at hr
    exact ⟨hr.1, by have := hr.1.l1; omega⟩) _ _ _ x hx
theorem fdD_mem {l : List (Fs × Nat)} {j : Nat} (h : j < l.length) : l.getD j dfd ∈ l := by
  rw [List.getD_eq_getElem?_getD, List.getElem?_eq_getElem h, Option.getD_some]
  exact List.getElem_mem h
end Go.Proofs.YtgcgnkafhpjdiaaGreat
namespace Go.Proofs.YtgcgnkafhpjdiaaGreat
open Go.RowKit
/-- The offset behind a found frame. -/
def bh (x : Fs × Nat) : Int := x.1.base + x.1.cnt
/-- The boxes that the search's closure sees. -/
structure Hx (w : World) (lb ob : Nat) (a : Option Addr) (cap : Nat) (l : List (Fs × Nat)) (o : Int) : Prop where
  lc : w.heap[lb]? = some (.cells #[.slice a l.length cap] 29 (0, 0))
  oc : w.heap[ob]? = some (.cells #[.int .i64 o] 2 (0, 0))
  v : Fds w a l
theorem Hx.call {w w' : World} {lb ob : Nat} {a : Option Addr} {cap : Nat} {l : List (Fs × Nat)} {o : Int} (h : Hx w lb ob a cap l o) (k : Below w.heap.size w w') : Hx w' lb ob a cap l o := ⟨keep h.lc k, keep h.oc k, h.v.below k⟩
set_option maxRecDepth 20000 in
set_option maxHeartbeats 2000000 in
theorem holds1_any (lb ob : Nat) (a : Option Addr) (cap : Nat) (l : List (Fs × Nat)) (o : Int) (j : Nat) (w : World) (h : Hx w lb ob a cap l o) (hj : j < l.length) (hr : ∀ x ∈ l, Right x.1) :
    Calls Tryz.prog 41 #[.int .i64 j, .pointer (some ⟨lb, 0, none⟩), .pointer (some ⟨ob, 0, none⟩)] w fun e w' => e = .returned (.bool (decide (o < bh (l.getD j dfd)))) ∧ Below w.heap.size w w' := by
  have hR := hr _ (fdD_mem hj)
  rcases h.v with e | ⟨b, off, rfl, hb, hc⟩
  · rw [e] at hj; cases hj
  obtain ⟨q0, q1, q2, q3, q4, q5, q6, q7, q8⟩ := hc j hj
  have c0 : w.cell? ⟨lb, 0, none⟩ = some (.slice (some ⟨b, off, none⟩) l.length cap) := (cell_of h.lc).trans rfl
  have c1 : w.cell? ⟨ob, 0, none⟩ = some (.int .i64 o) := (cell_of h.oc).trans rfl
  unfold bh
  generalize l.getD j dfd = r at *
  obtain ⟨f, at'⟩ := r
  dsimp only at *
  have hj2 : (j : Int) < l.length := by omega
  generalize l.length = n at *
  have CH := fun y => behind_any f y hR
  unfold hdV at CH
  obtain ⟨N, hN⟩ : ∃ N : Int, ((12 + f.len : Nat) : Int) = N := ⟨_, rfl⟩
  rw [hN] at CH q1
  have CB := hid CH
  have hlb := lt_of_heap h.lc
  have hob := lt_of_heap h.oc
  clear hc h CH q8 hN
  have hk : ∀ y, Below w.heap.size w y → (y.cell? ⟨lb, 0, none⟩ = some (.slice (some ⟨b, off, none⟩) n cap) ∧ y.cell? ⟨ob, 0, none⟩ = some (.int .i64 o) ∧ y.cell? ⟨b, off + j * 9, none⟩ = some (.int .i64 f.base) ∧ y.cell? ⟨b, off + j * 9 + 1, none⟩ = some (.int .i64 N) ∧ y.cell? ⟨b, off + j * 9 + 2, none⟩ = some (.bool (decide (f.st = 1))) ∧ y.cell? ⟨b, off + j * 9 + 3, none⟩ = some (.int .i64 f.cnt) ∧ y.cell? ⟨b, off + j * 9 + 4, none⟩ = some (.int .i64 f.first) ∧ y.cell? ⟨b, off + j * 9 + 5, none⟩ = some (.int .i64 f.grt) ∧ y.cell? ⟨b, off + j * 9 + 6, none⟩ = some (.int .i64 f.prod) ∧ y.cell? ⟨b, off + j * 9 + 7, none⟩ = some (.int .i32 f.seq)) := fun y hy =>
    ⟨(hy.cell (p := ⟨lb, 0, none⟩) hlb).trans c0, (hy.cell (p := ⟨ob, 0, none⟩) hob).trans c1, (hy.cell (p := ⟨b, off + j * 9, none⟩) hb).trans q0, (hy.cell (p := ⟨b, off + j * 9 + 1, none⟩) hb).trans q1, (hy.cell (p := ⟨b, off + j * 9 + 2, none⟩) hb).trans q2, (hy.cell (p := ⟨b, off + j * 9 + 3, none⟩) hb).trans q3, (hy.cell (p := ⟨b, off + j * 9 + 4, none⟩) hb).trans q4, (hy.cell (p := ⟨b, off + j * 9 + 5, none⟩) hb).trans q5, (hy.cell (p := ⟨b, off + j * 9 + 6, none⟩) hb).trans q6, (hy.cell (p := ⟨b, off + j * 9 + 7, none⟩) hb).trans q7⟩
  have HK := hid hk
  have hj0 : (0 : Int) ≤ (j : Int) := by omega
  clear hk c0 c1 q0 q1 q2 q3 q4 q5 q6 q7
  have N0 : Below w.heap.size w w := Below.refl _ _
  have N0d : Below w.heap.size w w.drew := ⟨rfl, rfl, rfl, Nat.le_refl _, fun _ _ => rfl⟩
  go_enter Tryz.func41, Tryz.ntmps41
  go_wp2_with fail
  go_region_held3 (fun y => y.cell? ⟨lb, 0, none⟩ = some (.slice (some ⟨b, off, none⟩) n cap) ∧ y.cell? ⟨ob, 0, none⟩ = some (.int .i64 o) ∧ y.cell? ⟨b, off + j * 9, none⟩ = some (.int .i64 f.base) ∧ y.cell? ⟨b, off + j * 9 + 1, none⟩ = some (.int .i64 N) ∧ y.cell? ⟨b, off + j * 9 + 2, none⟩ = some (.bool (decide (f.st = 1))) ∧ y.cell? ⟨b, off + j * 9 + 3, none⟩ = some (.int .i64 f.cnt) ∧ y.cell? ⟨b, off + j * 9 + 4, none⟩ = some (.int .i64 f.first) ∧ y.cell? ⟨b, off + j * 9 + 5, none⟩ = some (.int .i64 f.grt) ∧ y.cell? ⟨b, off + j * 9 + 6, none⟩ = some (.int .i64 f.prod) ∧ y.cell? ⟨b, off + j * 9 + 7, none⟩ = some (.int .i32 f.seq)) (first | with_reducible exact HK.out _ N0 | with_reducible exact HK.out _ N0d | with_reducible exact HK.out _ N1) ((go_at_call 42; with_reducible refine (CB.out _).mono ?_; rintro e w1 ⟨rfl, b1⟩; have N1 : Below w.heap.size w w1 := (by first | exact N0d.trans (b1.mono N0d.size) | exact N0.trans b1); clear b1))
  all_goals go_wp2_with fail
  all_goals go_ret
  all_goals exact ⟨rfl, N1⟩
end Go.Proofs.YtgcgnkafhpjdiaaGreat
namespace Go.Proofs.YtgcgnkafhpjdiaaGreat
open Go.RowKit
/-- The frames' offsets rise. -/
def Mon (l : List (Fs × Nat)) : Prop := ∀ i j, i ≤ j → j < l.length → bh (l.getD i dfd) ≤ bh (l.getD j dfd)
set_option maxRecDepth 20000 in
set_option maxHeartbeats 2000000 in
theorem hsearch_any (lb ob : Nat) (a : Option Addr) (cap : Nat) (l : List (Fs × Nat)) (o : Int) (w : World) (h : Hx w lb ob a cap l o) (hr : ∀ x ∈ l, Right x.1) (hM : Mon l) (hn : l.length ≤ 4611686018427387903) :
    Calls Tryz.prog 40 #[.int .i64 l.length, .func (.func 41) #[] #[.pointer (some ⟨lb, 0, none⟩), .pointer (some ⟨ob, 0, none⟩)]] w fun r w' => ∃ n : Nat, r = .returned (.int .i64 n) ∧ n ≤ l.length ∧ (∀ j, j < n → bh (l.getD j dfd) ≤ o) ∧ (∀ j, n ≤ j → j < l.length → o < bh (l.getD j dfd)) ∧ Below w.heap.size w w' := by
  have HW : Hid (∀ wx (j : Nat), Below w.heap.size w wx → j < l.length → Calls Tryz.prog 41 #[.int .i64 j, .pointer (some ⟨lb, 0, none⟩), .pointer (some ⟨ob, 0, none⟩)] wx fun r w' => r = .returned (.bool (decide (o < bh (l.getD j dfd)))) ∧ Below w.heap.size w w') := fun wx j hx hj => (holds1_any lb ob a cap l o j wx (h.call hx) hj hr).mono fun e w' hh => ⟨hh.1, hx.trans (hh.2.mono hx.size)⟩
  have HO : Hid (Mon l) := hM
  obtain ⟨N, hN⟩ : ∃ N, N = l.length := ⟨_, rfl⟩
  have HN := hid hN
  rw [← hN] at hn HW ⊢
  clear h hM hN hr
  go_enter Tryz.func40, Tryz.ntmps40
  go_wp2_with fail
  go_loopg [5, 6] N (fun k vl vh wr => ∃ lo hi : Nat, lo + k = hi ∧ hi ≤ N ∧ vl = .int .i64 lo ∧ vh = .int .i64 hi ∧ Hid (∀ j, j < lo → bh (l.getD j dfd) ≤ o) ∧ Hid (∀ j, hi ≤ j → j < N → o < bh (l.getD j dfd)) ∧ Hid (Below w.heap.size w wr))
  case atStart => exact ⟨0, N, by omega, Nat.le_refl _, rfl, rfl, fun j hj => absurd hj (by omega), fun j hj hj' => absurd hj (by omega), Below.refl _ _⟩
  case round =>
    obtain ⟨lo, hi, hk, hhi, rfl, rfl, HL, HH, HCh⟩ := hrel
    by_cases hlt : lo < hi
    · have hltI : (lo : Int) < hi := by omega
      obtain ⟨m, hm⟩ : ∃ m : Nat, m = (lo + hi) / 2 := ⟨_, rfl⟩
      have hmI : ((lo : Int) + (hi : Int)) / 2 = (m : Int) := by omega
      have hmN : m < N := by omega
      have hm1 : lo ≤ m := by omega
      have hm2 : m < hi := by omega
      have HW1 := hid (HW.out wr m HCh.out hmN)
      have HK : Hid ((∀ j, j < m → bh (l.getD j dfd) ≤ bh (l.getD m dfd)) ∧ (∀ j, m ≤ j → j < N → bh (l.getD m dfd) ≤ bh (l.getD j dfd))) := ⟨fun j hj => HO.out j m (by omega) (by rw [← HN.out]; exact hmN), fun j h1 h2 => HO.out m j h1 (by rw [← HN.out]; exact h2)⟩
      clear HW HO hm
      by_cases hle : o < bh (l.getD m dfd)
      · have hd : decide (o < bh (l.getD m dfd)) = true := decide_eq_true hle
        rw [hd] at HW1
        have HLE := hid hle
        clear hd hle
        go_wp2_with (go_at_call 41; refine HW1.out.mono ?_; rintro e w2 ⟨rfl, hb2⟩; have HB2 := hid hb2; clear hb2)
        go_roundg (m - lo)
        case measure => omega
        case rel => exact ⟨lo, m, by omega, by omega, rfl, rfl, HL.out, fun j h1 h2 => Int.lt_of_lt_of_le HLE.out (HK.out.2 j h1 h2), HB2.out⟩
      · have hd : decide (o < bh (l.getD m dfd)) = false := decide_eq_false hle
        rw [hd] at HW1
        have HLE : Hid (bh (l.getD m dfd) ≤ o) := by show _ ≤ _; omega
        clear hd hle
        go_wp2_with (go_at_call 41; refine HW1.out.mono ?_; rintro e w2 ⟨rfl, hb2⟩; have HB2 := hid hb2; clear hb2)
        go_roundg (hi - (m + 1))
        case measure => omega
        case rel =>
          refine ⟨m + 1, hi, by omega, hhi, by go_num, rfl, fun j hj => ?_, HH.out, HB2.out⟩
          rcases Nat.lt_or_ge j m with h1 | h1
          · exact Int.le_trans (HK.out.1 j h1) HLE.out
          · have e : j = m := by omega
            subst e
            exact HLE.out
    · have hltI : ¬ (lo : Int) < hi := by omega
      have hlo : lo = hi := by omega
      subst hlo
      clear HW HO
      go_wp2_with fail
      go_ret
      exact ⟨lo, rfl, hhi, HL.out, HH.out, HCh.out⟩
/-- The number of the frame that has an offset, where n is the first that ends behind it. -/
def hld (l : List (Fs × Nat)) (o : Int) (n : Nat) : Bool := decide (n < l.length ∧ (l.getD n dfd).1.base ≤ o)
set_option maxRecDepth 20000 in
set_option maxHeartbeats 2000000 in
theorem holds_any (a : Option Addr) (cap : Nat) (l : List (Fs × Nat)) (o : Int) (w : World) (V : Fds w a l) (hr : ∀ x ∈ l, Right x.1) (hM : Mon l) (hn : l.length ≤ 4611686018427387903) :
    Calls Tryz.prog 22 #[.slice a l.length cap, .int .i64 o] w fun r w' => ∃ n : Nat, r = .returned (.tuple #[.int .i64 (if hld l o n = true then n else 0 : Nat), .bool (hld l o n)]) ∧ n ≤ l.length ∧ (∀ j, j < n → bh (l.getD j dfd) ≤ o) ∧ (∀ j, n ≤ j → j < l.length → o < bh (l.getD j dfd)) ∧ Below w.heap.size w w' := by
  have hmf : ∀ (fn : Fn) (first cap : Array Value) (w : World), (Instr.makeFunc fn first cap).run Tryz.prog w = .ok (.func fn first cap) w := fun _ _ _ _ => rfl
  obtain ⟨wa, hwa⟩ : ∃ wa, (w.alloc (.cells #[.slice a l.length cap] 29)).alloc (.cells #[.int .i64 o] 2) = wa := ⟨_, rfl⟩
  have HSZ : Hid (wa.heap.size = w.heap.size + 1 + 1) := by rw [← hwa]; show _ = _; simp
  have HB0 : Hid (Below w.heap.size w wa) := by rw [← hwa]; exact ((Below.refl w.heap.size w).alloc (Nat.le_refl _) _).alloc (by simp) _
  have HX : Hid (Hx wa w.heap.size (w.heap.size + 1) a cap l o) := by
    refine hid ⟨?_, ?_, V.below HB0.out⟩
    · rw [← hwa]; exact heap_alloc_at (heap_new _ _)
    · have := heap_new (w.alloc (.cells #[.slice a l.length cap] 29)) (.cells #[.int .i64 o] 2 (0, 0))
      rw [← hwa]
      simpa using this
  have HS := hid (hsearch_any w.heap.size (w.heap.size + 1) a cap l o wa HX.out hr hM hn)
  have c0 : wa.cell? ⟨w.heap.size, 0, none⟩ = some (.slice a l.length cap) := (cell_of HX.out.lc).trans rfl
  clear hr hM V
  go_enter Tryz.func22, Tryz.ntmps22
  go_wp2_with (go_at_call 40; refine HS.out.mono ?_; rintro e w1 ⟨n, rfl, hnl, h1, h2, b1⟩)
  have HX1 := HX.out.call b1
  have d0 : w1.cell? ⟨w.heap.size, 0, none⟩ = some (.slice a l.length cap) := (cell_of HX1.lc).trans rfl
  have d1 : w1.cell? ⟨w.heap.size + 1, 0, none⟩ = some (.int .i64 o) := (cell_of HX1.oc).trans rfl
  have HE := hid (And.intro hnl (And.intro h1 (And.intro h2 (HB0.out.trans (b1.mono HB0.out.size)))))
  have HV := hid HX1.v
  clear h1 h2 b1 HX1 c0 HS HX HB0 HSZ
  by_cases hnn : n = l.length
  · have e0 : hld l o n = false := decide_eq_false (by omega)
    have HE0 := hid e0
    subst hnn
    have hne : ((l.length : Int) = (l.length : Int)) = True := by simp
    go_wp2_with fail
    go_quiet (fail)
    go_wp2_with fail
    have hbw : Below w.heap.size w (w1.drewN nq) := HE.out.2.2.2.trans ((bel_drewN w1 nq).mono HE.out.2.2.2.size)
    go_ret2
    exact ⟨l.length, by rw [HE0.out]; rfl, HE.out.1, HE.out.2.1, HE.out.2.2.1, hbw⟩
  · have hnlt : n < l.length := by omega
    rcases HV.out with e | ⟨b, off, rfl, hb, hc⟩
    · rw [e] at hnlt; cases hnlt
    have q0 := (hc n hnlt).1
    have hneI : ¬ (n : Int) = l.length := by omega
    have hnI : (n : Int) < l.length := by omega
    have hbe : ((n : Int) == (l.length : Int)) = false := by simp; omega
    have hn0 : (0 : Int) ≤ (n : Int) := by omega
    obtain ⟨B0, hB0⟩ : ∃ B0, (l.getD n dfd).1.base = B0 := ⟨_, rfl⟩
    have HB0 := hid hB0
    rw [hB0] at q0
    clear hc hB0 hnn
    by_cases hle : o < B0
    · have HE0 : Hid (hld l o n = false) := decide_eq_false (by rw [HB0.out]; omega)
      go_wp2_with fail
      go_quiet (fail)
      go_wp2_with fail
      have hbw : Below w.heap.size w (w1.drewN nq) := HE.out.2.2.2.trans ((bel_drewN w1 nq).mono HE.out.2.2.2.size)
      go_ret2
      exact ⟨n, by rw [HE0.out]; rfl, HE.out.1, HE.out.2.1, HE.out.2.2.1, hbw⟩
    · have hd0 : decide (o < B0) = false := decide_eq_false hle
      have HE0 : Hid (hld l o n = true) := decide_eq_true (by rw [HB0.out]; exact ⟨hnlt, by omega⟩)
      go_wp2_with fail
      go_quiet (fail)
      go_wp2_with fail
      have hbw : Below w.heap.size w (w1.drewN nq) := HE.out.2.2.2.trans ((bel_drewN w1 nq).mono HE.out.2.2.2.size)
      go_ret2
      exact ⟨n, by rw [HE0.out]; rfl, HE.out.1, HE.out.2.1, HE.out.2.2.1, hbw⟩
end Go.Proofs.YtgcgnkafhpjdiaaGreat
namespace Go.Proofs.YtgcgnkafhpjdiaaGreat
open Go.RowKit
/-- Framed batches that join. -/
def FrC : Int → List (Bt × ByteArray) → Int → Prop
  | b0, [], b1 => b1 = b0
  | b0, p :: ps, b1 => p.1.base = b0 ∧ BtOk p.1 ∧ StoP p.1 0 p.2 ∧ FrC (b0 + p.1.l.length) ps b1
theorem FrC.snoc : ∀ {b0 : Int} {ps : List (Bt × ByteArray)} {b1 : Int} {p : Bt × ByteArray}, FrC b0 ps b1 → p.1.base = b1 → BtOk p.1 → StoP p.1 0 p.2 → FrC b0 (ps ++ [p]) (b1 + p.1.l.length)
  | b0, [], b1, p, h, h1, h2, h3 => by
    have h' : b1 = b0 := h
    subst h'
    exact ⟨h1, h2, h3, rfl⟩
  | b0, q :: ps, b1, p, h, h1, h2, h3 => ⟨h.1, h.2.1, h.2.2.1, FrC.snoc h.2.2.2 h1 h2 h3⟩
theorem FrR.frc {b0 : Int} {bs : List Bt} {ps : List (Bt × ByteArray)} {b1 : Int} (h : FrR b0 bs ps b1) (hb : ∀ b ∈ bs, BtOk b) : FrC b0 ps b1 := by
  induction h with
  | nil => exact rfl
  | no h1 h2 h3 ih => exact ih (fun b hb' => hb b (List.mem_append_left _ hb'))
  | yes h1 h2 ih => exact FrC.snoc (ih (fun b hb' => hb b (List.mem_append_left _ hb'))) rfl (rbb_ok (hb _ (List.mem_append_right _ (List.mem_singleton_self _))) _) h2
theorem FrR.inv {b0 : Int} {bs : List Bt} {b : Bt} {ps : List (Bt × ByteArray)} {b1 : Int} (h : FrR b0 (bs ++ [b]) ps b1) : (∃ E, FrR b0 bs ps b1 ∧ E ≠ 0 ∧ StoP (rbb b b1) E ⟨#[]⟩) ∨ (∃ ps' b1' T, FrR b0 bs ps' b1' ∧ StoP (rbb b b1') 0 T ∧ ps = ps' ++ [(rbb b b1', T)] ∧ b1 = b1' + b.l.length) := by
  generalize hx : bs ++ [b] = x at h
  cases h with
  | nil => simp at hx
  | no h1 h2 h3 =>
    obtain ⟨e1, e2⟩ := List.append_inj' hx rfl
    injection e2 with e2
    subst e1 e2
    exact Or.inl ⟨_, h1, h2, h3⟩
  | yes h1 h2 =>
    obtain ⟨e1, e2⟩ := List.append_inj' hx rfl
    injection e2 with e2
    subst e1 e2
    exact Or.inr ⟨_, _, _, h1, h2, rfl, rfl⟩
theorem FrR.nil_inv {b0 : Int} {ps : List (Bt × ByteArray)} {b1 : Int} (h : FrR b0 [] ps b1) : ps = [] ∧ b1 = b0 := by
  generalize hx : ([] : List Bt) = x at h
  cases h with
  | nil => exact ⟨rfl, rfl⟩
  | no h1 h2 h3 => simp at hx
  | yes h1 h2 => simp at hx
def hdP (p : Bt × ByteArray) : Fs := hdB p.1 p.2
theorem hdP_len (p : Bt × ByteArray) : 12 + (hdP p).len = (frB p).size := by rw [frB_size]; show 12 + (39 + p.2.size) = _; omega
theorem wthM : wth 16777216 58 16777216 = 16777216 := by decide
theorem wthP : wth 16777216 7 16777216 = 16777216 := by decide
theorem opn_sto {b : Bt} {T : ByteArray} (hb : BtOk b) (h : StoP b 0 T) (more : ByteArray) : ∃ S, opn (frm (fsB b T.size) T ++ more) 16777216 16777216 = .ok (hdB b T, S) := by
  obtain ⟨h1, S, h2, h3, h4⟩ := sto_ok h
  obtain ⟨_, c2, _⟩ := body_back hb.t hb.m h2
  subst h3
  exact ⟨S, opn_frame hb h1 h2 h4 more _ _ (by rw [wthM]; omega) (by rw [wthP]; omega)⟩
/-- The frames of a run of written frames. -/
def fys : Nat → List (Bt × ByteArray) → List Yd
  | _, [] => []
  | k, p :: ps => .fr (hdP p) k :: fys (k + (frB p).size) ps
theorem ext_behind (A B : ByteArray) : (A ++ B).extract A.size (A ++ B).size = B := by
  apply bl_inj
  rw [bl_suf, bl_app, List.drop_left' (bl_len _)]
theorem trc_cat {more : ByteArray} : ∀ (ps : List (Bt × ByteArray)) (A s : ByteArray) (b0 b1 : Int) (m : Nat), FrC b0 ps b1 → s = A ++ (cat ps ++ more) → trc (lks s 16777216 16777216) s.size (m + ps.length) A.size b0 = fys A.size ps ++ trc (lks s 16777216 16777216) s.size m (A.size + (cat ps).size) b1
  | [], A, s, b0, b1, m, h, hs => by
    have h' : b1 = b0 := h
    subst h'
    rfl
  | p :: ps, A, s, b0, b1, m, h, hs => by
    obtain ⟨h1, h2, h3, h4⟩ := h
    have hs2 : s = A ++ (frB p ++ (cat ps ++ more)) := by rw [hs]; show A ++ ((frB p ++ cat ps) ++ more) = _; rw [ByteArray.append_assoc]
    have hlt : A.size < s.size := by rw [hs2, ByteArray.size_append, ByteArray.size_append, frB_size]; omega
    obtain ⟨S, ho⟩ := opn_sto h2 h3 (cat ps ++ more)
    have hl : lks s 16777216 16777216 A.size b0 = .ok (hdP p) := by
      unfold lks
      have e : s.extract A.size s.size = frB p ++ (cat ps ++ more) := by rw [hs2]; exact ext_behind _ _
      rw [e]
      unfold frB
      rw [ho]
      dsimp only
      rw [if_pos (show (hdB p.1 p.2).base = b0 from h1)]
      rfl
    rw [List.length_cons, ← Nat.add_assoc, trc_fr hlt hl, hdP_len]
    have ih := trc_cat (more := more) ps (A ++ frB p) s (b0 + p.1.l.length) b1 m h4 (by rw [hs2, ByteArray.append_assoc])
    have eb : (hdP p).base + (hdP p).cnt = b0 + p.1.l.length := by rw [← h1]; rfl
    rw [eb]
    rw [ByteArray.size_append] at ih
    rw [ih]
    show _ = (.fr (hdP p) A.size :: fys (A.size + (frB p).size) ps) ++ trc _ _ _ (A.size + (frB p ++ cat ps).size) _
    rw [ByteArray.size_append, List.cons_append, Nat.add_assoc]
theorem emp_app (s : ByteArray) : (⟨#[]⟩ : ByteArray) ++ s = s := ByteArray.empty_append
theorem cat_ge : ∀ ps : List (Bt × ByteArray), ps.length ≤ (cat ps).size
  | [] => Nat.zero_le _
  | p :: ps => by
    have := cat_ge ps
    show ps.length + 1 ≤ (frB p ++ cat ps).size
    rw [ByteArray.size_append, frB_size]
    omega
theorem tr_cat {ps : List (Bt × ByteArray)} {b0 b1 : Int} (h : FrC b0 ps b1) (more : ByteArray) : ∃ m, (cat ps ++ more).size - (cat ps).size < m ∧ tr (cat ps ++ more) b0 16777216 16777216 = fys 0 ps ++ trc (lks (cat ps ++ more) 16777216 16777216) (cat ps ++ more).size m (cat ps).size b1 := by
  have hg := cat_ge ps
  refine ⟨(cat ps ++ more).size + 1 - ps.length, by rw [ByteArray.size_append]; omega, ?_⟩
  have := trc_cat (more := more) ps ⟨#[]⟩ (cat ps ++ more) b0 b1 ((cat ps ++ more).size + 1 - ps.length) h (emp_app _).symm
  rw [show (⟨#[]⟩ : ByteArray).size = 0 from rfl, Nat.zero_add] at this
  rw [← this]
  unfold tr
  congr 1
  rw [ByteArray.size_append]
  omega
theorem tr_all {ps : List (Bt × ByteArray)} {b0 b1 : Int} (h : FrC b0 ps b1) : tr (cat ps) b0 16777216 16777216 = fys 0 ps := by
  obtain ⟨m, _, h2⟩ := tr_cat h ⟨#[]⟩
  rw [app_emp] at h2
  rw [h2, trc_end (Nat.lt_irrefl _), List.append_nil]
theorem fys_frs : ∀ (ps : List (Bt × ByteArray)) (k : Nat), (frs (fys k ps)).length = ps.length
  | [], _ => rfl
  | p :: ps, k => by show (frs (fys _ ps)).length + 1 = ps.length + 1; rw [fys_frs ps]
theorem fys_len : ∀ (ps : List (Bt × ByteArray)) (k : Nat), (fys k ps).length = ps.length
  | [], _ => rfl
  | p :: ps, k => by show (fys _ ps).length + 1 = ps.length + 1; rw [fys_len ps]
theorem fys_en : ∀ (ps : List (Bt × ByteArray)) (k : Nat), enG k (fys k ps) = k + (cat ps).size
  | [], k => rfl
  | p :: ps, k => by
    show enG (k + (12 + (hdP p).len)) (fys (k + (frB p).size) ps) = k + (frB p ++ cat ps).size
    rw [hdP_len, fys_en ps, ByteArray.size_append]
    omega
theorem fys_wy : ∀ (ps : List (Bt × ByteArray)) (k : Nat), wyG 0 (fys k ps) = 0
  | [], _ => rfl
  | _ :: ps, _ => fys_wy ps _
end Go.Proofs.YtgcgnkafhpjdiaaGreat
namespace Go.Proofs.YtgcgnkafhpjdiaaGreat
open Go.RowKit
theorem onb_ok (n : Nat) (hn : n ≤ 65536) (a : Option Addr) (cap : Nat) : BtOk (onb n a cap) := by
  refine ⟨?_, ?_, by show (onl n).length ≤ _; rw [onl_len]; omega, by show _ ≤ (-1 : Int); omega, by show (-1 : Int) ≤ _; omega, by show _ ≤ (-1 : Int); omega, by show (-1 : Int) ≤ _; omega⟩
  · intro x hx
    obtain ⟨i, hi, rfl⟩ := List.mem_map.1 hx
    rw [List.mem_range] at hi
    exact ⟨by show _ ≤ (i : Int); omega, by show (i : Int) ≤ _; omega⟩
  · intro x hx
    obtain ⟨i, _, rfl⟩ := List.mem_map.1 hx
    exact ⟨by show (⟨#[]⟩ : ByteArray).size ≤ _; decide, by show (⟨#[]⟩ : ByteArray).size ≤ _; decide, fun y hy => (by cases hy), by show 0 ≤ _; decide, by show 100 + (ol false ⟨#[]⟩).length + (ol false ⟨#[]⟩).length + (hl []).length ≤ _; decide⟩
theorem enc1 {base : Int} (h0 : 0 ≤ base) (h1 : base ≤ 100) {a : Option Addr} {cap E : Nat} (h : StoP (rbb (onb 1 a cap) base) E ⟨#[]⟩) : E = 0 := by
  rcases Nat.eq_zero_or_pos E with h2 | h2
  · exact h2
  have hr : rfh (rbb (onb 1 a cap) base) = 0 := by
    unfold rfh
    rw [if_neg (by show ¬ (onl 1).length = 0; decide), if_neg (by show ¬ 65536 < (onl 1).length; decide), if_neg, if_neg]
    · show ¬ ¬ base ≤ 4611686018427387904 - ((onl 1).length : Int)
      rw [onl_len]
      omega
    · rintro (h | h)
      · exact h ⟨h0, by show base < _; omega⟩
      · exact absurd h (by show ¬ isPr (-1) (-1) = false; decide)
  have hz : ∀ i, i < (rbb (onb 1 a cap) base).l.length → sze ((rbb (onb 1 a cap) base).l.getD i dri).r ((rbb (onb 1 a cap) base).l.getD 0 dri).r.t i = 0 := by
    intro i hi
    have hi' : i < 1 := hi
    have : i = 0 := by omega
    subst this
    show sze (orec 0).r 0 0 = 0
    decide
  exact (enc_ok (Or.inl ⟨by omega, h, rfl⟩) hr hz (by show (bdy 0 0 ((onl 1).map RI.r)).length ≤ 16777216; decide) (by show (bs (bdy 0 0 ((onl 1).map RI.r))).size ≤ 16777165; decide)).1
theorem enc2 {base : Int} (h0 : 0 ≤ base) (h1 : base ≤ 100) {a : Option Addr} {cap E : Nat} (h : StoP (rbb (onb 2 a cap) base) E ⟨#[]⟩) : E = 0 := by
  rcases Nat.eq_zero_or_pos E with h2 | h2
  · exact h2
  have hr : rfh (rbb (onb 2 a cap) base) = 0 := by
    unfold rfh
    rw [if_neg (by show ¬ (onl 2).length = 0; decide), if_neg (by show ¬ 65536 < (onl 2).length; decide), if_neg, if_neg]
    · show ¬ ¬ base ≤ 4611686018427387904 - ((onl 2).length : Int)
      rw [onl_len]
      omega
    · rintro (h | h)
      · exact h ⟨h0, by show base < _; omega⟩
      · exact absurd h (by show ¬ isPr (-1) (-1) = false; decide)
  have hz : ∀ i, i < (rbb (onb 2 a cap) base).l.length → sze ((rbb (onb 2 a cap) base).l.getD i dri).r ((rbb (onb 2 a cap) base).l.getD 0 dri).r.t i = 0 := by
    intro i hi
    have hi' : i < 2 := hi
    rcases Nat.lt_or_ge i 1 with h4 | h4
    · have : i = 0 := by omega
      subst this
      show sze (orec 0).r 0 0 = 0
      decide
    · have : i = 1 := by omega
      subst this
      show sze (orec 1).r 0 1 = 0
      decide
  exact (enc_ok (Or.inl ⟨by omega, h, rfl⟩) hr hz (by show (bdy 0 0 ((onl 2).map RI.r)).length ≤ 16777216; decide) (by show (bs (bdy 0 0 ((onl 2).map RI.r))).size ≤ 16777165; decide)).1
/-- The example's two frames. -/
structure Ex (ps : List (Bt × ByteArray)) (p q : Bt × ByteArray) : Prop where
  e : ps = [p, q]
  c : FrC 5 [p, q] 8
  pb : (hdP p).base = 5
  qb : (hdP q).base = 7
  pc : (hdP p).cnt = 2
  qc : (hdP q).cnt = 1
theorem ex_of {a2 a1 : Option Addr} {c2 c1 : Nat} {ps : List (Bt × ByteArray)} {b1 : Int} (h : FrR 5 [onb 2 a2 c2, onb 1 a1 c1] ps b1) : ∃ p q, Ex ps p q := by
  have hc := h.frc (by
    intro b hb
    rcases List.mem_cons.1 hb with rfl | hb
    · exact onb_ok 2 (by decide) _ _
    · rw [List.mem_singleton.1 hb]; exact onb_ok 1 (by decide) _ _)
  rcases (show FrR 5 ([onb 2 a2 c2] ++ [onb 1 a1 c1]) ps b1 from h).inv with ⟨E, h1, h2, h3⟩ | ⟨ps', b1', T, h1, h3, rfl, rfl⟩
  · exfalso
    rcases (show FrR 5 ([] ++ [onb 2 a2 c2]) ps b1 from h1).inv with ⟨E', k1, k2, k3⟩ | ⟨ps2, b2, T2, k1, k3, rfl, rfl⟩
    · obtain ⟨_, rfl⟩ := k1.nil_inv
      exact k2 (enc2 (by decide) (by decide) k3)
    · obtain ⟨_, rfl⟩ := k1.nil_inv
      exact h2 (enc1 (by show (0 : Int) ≤ 5 + ((onl 2).length : Int); decide) (by show (5 : Int) + ((onl 2).length : Int) ≤ 100; decide) h3)
  · rcases (show FrR 5 ([] ++ [onb 2 a2 c2]) ps' b1' from h1).inv with ⟨E', k1, k2, k3⟩ | ⟨ps2, b2, T2, k1, k3, rfl, rfl⟩
    · exfalso
      obtain ⟨_, rfl⟩ := k1.nil_inv
      exact k2 (enc2 (by decide) (by decide) k3)
    · obtain ⟨rfl, rfl⟩ := k1.nil_inv
      exact ⟨_, _, rfl, hc, rfl, rfl, rfl, rfl⟩
theorem Ex.right {ps : List (Bt × ByteArray)} {p q : Bt × ByteArray} (h : Ex ps p q) : Right (hdP p) ∧ Right (hdP q) :=
  ⟨(frm_right h.c.2.1 h.c.2.2.1).1, (frm_right h.c.2.2.2.2.1 h.c.2.2.2.2.2.1).1⟩
theorem Ex.size {ps : List (Bt × ByteArray)} {p q : Bt × ByteArray} (h : Ex ps p q) : (cat ps).size = (frB p).size + (frB q).size ∧ 58 ≤ (frB p).size ∧ 58 ≤ (frB q).size ∧ (frB p).size ≤ 16777216 ∧ (frB q).size ≤ 16777216 := by
  obtain ⟨h1, h2⟩ := h.right
  have e1 := hdP_len p
  have e2 := hdP_len q
  have l1 := h1.l1
  have l2 := h2.l1
  have m1 := h1.l2
  have m2 := h2.l2
  refine ⟨?_, by omega, by omega, by omega, by omega⟩
  rw [h.e]
  show (frB p ++ (frB q ++ ⟨#[]⟩)).size = _
  rw [app_emp, ByteArray.size_append]
theorem Ex.run {ps : List (Bt × ByteArray)} {p q : Bt × ByteArray} (h : Ex ps p q) : tr (cat ps) 5 16777216 16777216 = [.fr (hdP p) 0, .fr (hdP q) (frB p).size] := by
  rw [h.e, tr_all h.c]
  show [Yd.fr (hdP p) 0, Yd.fr (hdP q) (0 + (frB p).size)] = _
  rw [Nat.zero_add]
theorem Ex.look {ps : List (Bt × ByteArray)} {p q : Bt × ByteArray} (h : Ex ps p q) : ∃ S, opn (cat ps) 16777216 16777216 = .ok (hdP p, S) := by
  have := opn_sto h.c.2.1 h.c.2.2.1 (cat [q])
  rw [h.e]
  exact this
theorem Ex.order {ps : List (Bt × ByteArray)} {p q : Bt × ByteArray} (h : Ex ps p q) : tr (cat ps) 0 16777216 16777216 = [.no 30] := by
  obtain ⟨S, ho⟩ := h.look
  have hz := h.size
  unfold tr
  refine trc_no (by omega) ?_
  unfold lks
  rw [show (cat ps).extract 0 (cat ps).size = cat ps from ByteArray.extract_zero_size, ho]
  dsimp only
  rw [if_neg (by rw [h.pb]; decide)]
theorem ext_two {A B : ByteArray} {n : Nat} (hn : n = A.size + B.size) (hB : 1 ≤ B.size) : ((A ++ B).extract 0 (n - 1)).extract A.size (n - 1) = B.extract 0 (B.size - 1) := by
  rw [ByteArray.extract_extract]
  apply bl_inj
  rw [bl_ext, bl_ext, bl_app, Nat.zero_add, Nat.zero_add, List.drop_left' (bl_len _), List.drop_zero]
  have en : min (n - 1) (n - 1) - A.size = B.size - 1 - 0 := by omega
  rw [en]
theorem Ex.cutx {ps : List (Bt × ByteArray)} {p q : Bt × ByteArray} (h : Ex ps p q) : ((cat ps).extract 0 ((cat ps).size - 1)).extract (frB p).size ((cat ps).size - 1) = (frB q).extract 0 ((frB q).size - 1) := by
  have hz := h.size
  have hcat : cat ps = frB p ++ frB q := by
    rw [h.e]
    show frB p ++ (frB q ++ ⟨#[]⟩) = _
    rw [app_emp]
  have hz1 := hz.1
  generalize (cat ps).size = n at *
  rw [hcat]
  exact ext_two hz1 (by omega)
set_option maxHeartbeats 1000000 in
theorem Ex.cut {ps : List (Bt × ByteArray)} {p q : Bt × ByteArray} (h : Ex ps p q) : tr ((cat ps).extract 0 ((cat ps).size - 1)) 5 16777216 16777216 = [.fr (hdP p) 0, .no 20] := by
  have hz := h.size
  obtain ⟨S, ho⟩ := h.look
  have hl : lks (cat ps) 16777216 16777216 0 5 = .ok (hdP p) := by
    unfold lks
    rw [show (cat ps).extract 0 (cat ps).size = cat ps from ByteArray.extract_zero_size, ho]
    dsimp only
    rw [if_pos h.pb]
  have hsz : ((cat ps).extract 0 ((cat ps).size - 1)).size = (cat ps).size - 1 := by rw [ByteArray.size_extract]; omega
  have h1 := lks_back (c := (cat ps).size - 1) (by omega) (Nat.zero_le _) hl (by rw [hdP_len]; omega)
  have e := h.cutx
  have h2 : lks ((cat ps).extract 0 ((cat ps).size - 1)) 16777216 16777216 (frB p).size 7 = .error 20 := by
    unfold lks
    rw [hsz, e]
    have hq := h.c.2.2.2
    have z := frB_size q
    have z2 := (sto_zero hq.2.2.1).2 rfl
    have := opn_cut hq.2.1 hq.2.2.1 ((frB q).size - 1) (by omega) (by omega) 16777216 16777216 (by rw [wthM]; omega)
    unfold frB at this ⊢
    rw [this]
  unfold tr
  rw [hsz]
  obtain ⟨m, hm⟩ : ∃ m, (cat ps).size - 1 + 1 = m + 2 := ⟨(cat ps).size - 2, by omega⟩
  rw [hm, trc_fr (by omega) h1, hdP_len, h.pb, h.pc, Nat.zero_add]
  have e7 : (5 : Int) + ((2 : Nat) : Int) = 7 := by decide
  rw [e7, trc_no (by omega) h2]
theorem Ex.mon {ps : List (Bt × ByteArray)} {p q : Bt × ByteArray} (h : Ex ps p q) : Mon [(hdP p, 0), (hdP q, (frB p).size)] := by
  intro i j h1 h2
  have h2' : j < 2 := h2
  have e0 : bh (hdP p, 0) = 7 := by show (hdP p).base + (hdP p).cnt = 7; rw [h.pb, h.pc]; decide
  have e1 : bh (hdP q, (frB p).size) = 8 := by show (hdP q).base + (hdP q).cnt = 8; rw [h.qb, h.qc]; decide
  rcases Nat.lt_or_ge j 1 with h3 | h3
  · have hj : j = 0 := by omega
    have hi : i = 0 := by omega
    subst hj hi
    exact Int.le_refl _
  · have hj : j = 1 := by omega
    subst hj
    rcases Nat.lt_or_ge i 1 with h4 | h4
    · have hi : i = 0 := by omega
      subst hi
      show bh (hdP p, 0) ≤ bh (hdP q, (frB p).size)
      rw [e0, e1]
      decide
    · have hi : i = 1 := by omega
      subst hi
      exact Int.le_refl _
theorem Ex.hold {ps : List (Bt × ByteArray)} {p q : Bt × ByteArray} (h : Ex ps p q) {n : Nat} (h1 : ∀ j, j < n → bh ([(hdP p, 0), (hdP q, (frB p).size)].getD j dfd) ≤ 6) : n = 0 ∧ hld [(hdP p, 0), (hdP q, (frB p).size)] 6 n = true := by
  have hn : n = 0 := by
    rcases Nat.eq_zero_or_pos n with h2 | h2
    · exact h2
    have := h1 0 h2
    have e0 : bh (hdP p, 0) = 7 := by show (hdP p).base + (hdP p).cnt = 7; rw [h.pb, h.pc]; decide
    have this' : bh (hdP p, 0) ≤ 6 := this
    rw [e0] at this'
    exact absurd this' (by decide)
  subst hn
  refine ⟨rfl, decide_eq_true ⟨by show 0 < 2; omega, ?_⟩⟩
  show (hdP p).base ≤ 6
  rw [h.pb]
  decide
end Go.Proofs.YtgcgnkafhpjdiaaGreat
namespace Go.Proofs.YtgcgnkafhpjdiaaGreat
open Go.RowKit
theorem own_some {w : World} {B : Nat} {v : Value} {n size : Nat} {e : TypeId} {l : List Value} (h : w.ownsRow B e size v n l) (hn : n ≠ 0) : ∃ g cap, v = .slice (some ⟨g, 0, none⟩) n cap ∧ (∀ i u, l[i]? = some u → w.cell? ⟨g, i, none⟩ = some u) ∧ B ≤ g ∧ g < w.heap.size := by
  have hr := h
  rcases h.2 with ⟨_, h2⟩ | ⟨g, cap, cur, rfl, h3, h4, h5⟩
  · exact absurd h2 hn
  · refine ⟨g, cap, rfl, fun i u hu => ?_, h3, lt_of_heap h4⟩
    have e : (⟨g, 0, none⟩ : Addr).add i = ⟨g, 0 + i, none⟩ := Go.WideShapes.add_plain _ _ _
    have := World.ownsRow.cells hr rfl i u hu
    rw [e, Nat.zero_add] at this
    exact this
theorem Ex.all1 {ps : List (Bt × ByteArray)} {p q : Bt × ByteArray} (h : Ex ps p q) (w : World) : Calls Tryz.prog 11 #[.string (cat ps), .int .i64 5, .int .i64 16777216, .int .i64 16777216] w fun e w' => ∃ g cap, e = .returned (.tuple #[.slice (some ⟨g, 0, none⟩) 2 cap, .int .i64 (cat ps).size, .int .i64 0]) ∧ w'.cell? ⟨g, 9, none⟩ = some (.int .i64 7) ∧ w'.cell? ⟨g, 17, none⟩ = some (.int .i64 (frB p).size) ∧ Fds w' (some ⟨g, 0, none⟩) [(hdP p, 0), (hdP q, (frB p).size)] ∧ g < w'.heap.size ∧ Below w.heap.size w w' := by
  have hz := h.size
  refine (all_any (cat ps) 5 16777216 16777216 (by omega) (by rw [h.run]; show 2 * 72 ≤ _; decide) w).mono ?_
  rintro e w' ⟨v, rfl, hO, hb⟩
  rw [h.run] at hO ⊢
  have hO' : OwF w' w.heap.size v [(hdP p, 0), (hdP q, (frB p).size)] := hO
  obtain ⟨a, cap, rfl, V, _⟩ := hO'.fds
  obtain ⟨g, cap', e, hc, _, hg⟩ := own_some hO (by show 2 ≠ 0; omega)
  injection e with e1 e2 e3
  subst e1 e3
  refine ⟨g, cap, ?_, ?_, ?_, V, hg, hb⟩
  · have en : enG 0 [.fr (hdP p) 0, .fr (hdP q) (frB p).size] = (cat ps).size := by
      show (frB p).size + (12 + (hdP q).len) = _
      rw [hdP_len, hz.1]
    rw [en]
    rfl
  · have := hc 9 (.int .i64 (hdP q).base) rfl
    rw [h.qb] at this
    exact this
  · exact hc 17 _ rfl
theorem Ex.all2 {ps : List (Bt × ByteArray)} {p q : Bt × ByteArray} (h : Ex ps p q) (w : World) : Calls Tryz.prog 11 #[.string (cat ps), .int .i64 0, .int .i64 16777216, .int .i64 16777216] w fun e w' => ∃ v, e = .returned (.tuple #[v, .int .i64 0, .int .i64 30]) ∧ Below w.heap.size w w' := by
  have hz := h.size
  refine (all_any (cat ps) 0 16777216 16777216 (by omega) (by rw [h.order]; decide) w).mono ?_
  rintro e w' ⟨v, rfl, hO, hb⟩
  rw [h.order]
  exact ⟨v, rfl, hb⟩
theorem Ex.all3 {ps : List (Bt × ByteArray)} {p q : Bt × ByteArray} (h : Ex ps p q) (w : World) : Calls Tryz.prog 11 #[.string ((cat ps).extract 0 ((cat ps).size - 1)), .int .i64 5, .int .i64 16777216, .int .i64 16777216] w fun e w' => ∃ a cap, e = .returned (.tuple #[.slice a 1 cap, .int .i64 (frB p).size, .int .i64 20]) ∧ Below w.heap.size w w' := by
  have hz := h.size
  refine (all_any ((cat ps).extract 0 ((cat ps).size - 1)) 5 16777216 16777216 (by rw [ByteArray.size_extract]; omega) (by rw [h.cut]; show 2 * 72 ≤ _; decide) w).mono ?_
  rintro e w' ⟨v, rfl, hO, hb⟩
  rw [h.cut] at hO ⊢
  have hO' : OwF w' w.heap.size v [(hdP p, 0)] := hO
  obtain ⟨a, cap, rfl, V, _⟩ := hO'.fds
  refine ⟨a, cap, ?_, hb⟩
  have en : enG 0 [.fr (hdP p) 0, .no 20] = (frB p).size := by
    show 0 + (12 + (hdP p).len) = _
    rw [hdP_len]
    omega
  rw [en]
  rfl
theorem Ex.hold6 {ps : List (Bt × ByteArray)} {p q : Bt × ByteArray} (h : Ex ps p q) (a : Option Addr) (cap : Nat) (w : World) (V : Fds w a [(hdP p, 0), (hdP q, (frB p).size)]) : Calls Tryz.prog 22 #[.slice a 2 cap, .int .i64 6] w fun e w' => e = .returned (.tuple #[.int .i64 0, .bool true]) ∧ Below w.heap.size w w' := by
  refine (holds_any a cap [(hdP p, 0), (hdP q, (frB p).size)] 6 w V (by
    intro x hx
    rcases List.mem_cons.1 hx with rfl | hx
    · exact h.right.1
    · rw [List.mem_singleton.1 hx]; exact h.right.2) h.mon (by show 2 ≤ _; omega)).mono ?_
  rintro e w' ⟨n, rfl, h1, h2, h3, hb⟩
  obtain ⟨rfl, h4⟩ := h.hold h2
  rw [h4]
  exact ⟨rfl, hb⟩
set_option maxHeartbeats 4000000 in
set_option maxRecDepth 20000 in
theorem awake_any (w : World) : Calls Tryz.prog 9 #[] w fun e w' => e = .returned (.bool true) ∧ Below w.heap.size w w' := by
  have CO2 : Hid (∀ w, Calls Tryz.prog 27 #[.int .i64 2] w fun e w' => ∃ a cap, e = .returned (.agg #[.int .i64 0, .bool false, .int .i64 (-1), .int .i32 (-1), .slice a 2 cap]) ∧ Rcs w' a (onl 2) ∧ Below w.heap.size w w') := fun w => one_any 2 (by omega) w
  have CO1 : Hid (∀ w, Calls Tryz.prog 27 #[.int .i64 1] w fun e w' => ∃ a cap, e = .returned (.agg #[.int .i64 0, .bool false, .int .i64 (-1), .int .i32 (-1), .slice a 1 cap]) ∧ Rcs w' a (onl 1) ∧ Below w.heap.size w w') := fun w => one_any 1 (by omega) w
  go_enter Tryz.func9, Tryz.ntmps9
  go_wp2_with fail
  refine (CO2.out _).mono ?_
  rintro e w1 ⟨a2, c2, rfl, V2, b1⟩
  go_wp2_with fail
  refine (CO1.out _).mono ?_
  rintro e w2 ⟨a1, c1, rfl, V1, b2⟩
  have B2 := hid (b1.trans (b2.mono b1.size))
  have V2' := V2.below b2
  clear b1 V2 b2 CO1 CO2
  go_wp2_with fail
  have hbl : Bts (w2.alloc (.cells #[.int .i64 0, .bool false, .int .i64 (-1), .int .i32 (-1), .slice a2 2 c2, .int .i64 0, .bool false, .int .i64 (-1), .int .i32 (-1), .slice a1 1 c1] 72)) (some ⟨w2.heap.size, 0, none⟩) [onb 2 a2 c2, onb 1 a1 c1] := by
    have hB : Below w2.heap.size w2 (w2.alloc (.cells #[.int .i64 0, .bool false, .int .i64 (-1), .int .i32 (-1), .slice a2 2 c2, .int .i64 0, .bool false, .int .i64 (-1), .int .i32 (-1), .slice a1 1 c1] 72)) := (Below.refl _ _).alloc (Nat.le_refl _) _
    have hn := heap_new w2 (.cells #[.int .i64 0, .bool false, .int .i64 (-1), .int .i32 (-1), .slice a2 2 c2, .int .i64 0, .bool false, .int .i64 (-1), .int .i32 (-1), .slice a1 1 c1] 72)
    refine ⟨?_, Or.inr ⟨w2.heap.size, 0, rfl, lt_of_heap hn, ?_⟩⟩
    · intro b hb
      rcases List.mem_cons.1 hb with rfl | hb
      · exact V2'.below hB
      · rw [List.mem_singleton.1 hb]; exact V1.below hB
    · intro j hj
      have hj' : j < 2 := hj
      rcases Nat.lt_or_ge j 1 with h4 | h4
      · have : j = 0 := by omega
        subst this
        exact ⟨(cell_of hn).trans rfl, (cell_of hn).trans rfl, (cell_of hn).trans rfl, (cell_of hn).trans rfl, (cell_of hn).trans rfl⟩
      · have : j = 1 := by omega
        subst this
        exact ⟨(cell_of hn).trans rfl, (cell_of hn).trans rfl, (cell_of hn).trans rfl, (cell_of hn).trans rfl, (cell_of hn).trans rfl⟩
  have B3 := hid (B2.out.alloc B2.out.size (.cells #[.int .i64 0, .bool false, .int .i64 (-1), .int .i32 (-1), .slice a2 2 c2, .int .i64 0, .bool false, .int .i64 (-1), .int .i32 (-1), .slice a1 1 c1] 72))
  have CF := hid (frames_any 5 (some ⟨w2.heap.size, 0, none⟩) 2 [onb 2 a2 c2, onb 1 a1 c1] _ hbl (by show 2 ≤ _; omega) (by
    intro b hb
    rcases List.mem_cons.1 hb with rfl | hb
    · exact onb_ok 2 (by decide) _ _
    · rw [List.mem_singleton.1 hb]; exact onb_ok 1 (by decide) _ _))
  clear hbl V1 V2' B2
  generalize w2.alloc (.cells #[.int .i64 0, .bool false, .int .i64 (-1), .int .i32 (-1), .slice a2 2 c2, .int .i64 0, .bool false, .int .i64 (-1), .int .i32 (-1), .slice a1 1 c1] 72) = W3 at *
  refine CF.out.mono ?_
  rintro e w4 ⟨ps, b1, v, rfl, hF, hO, b4⟩
  obtain ⟨p, q, hE⟩ := ex_of hF
  have hpl : ps.length = 2 := by rw [hE.e]; rfl
  obtain ⟨g, cap, rfl, hc, _, hg⟩ := own_some hO (by omega)
  rw [hpl] at *
  have q0 : w4.cell? ⟨g, 0, none⟩ = some (.string (frB p)) := hc 0 _ (by rw [hE.e]; rfl)
  have B4 := hid (B3.out.trans (b4.mono B3.out.size))
  have A1 := hid (fun w => hE.all1 w)
  have A2 := hid (fun w => hE.all2 w)
  have A3 := hid (fun w => hE.all3 w)
  have A4 := hid (fun a cap w V => hE.hold6 a cap w V)
  have hz := hE.size
  clear hF hO b4 B3 CF hc hpl hE
  generalize cat ps = S at *
  generalize frB p = P at *
  generalize [(hdP p, 0), (hdP q, P.size)] = L at *
  obtain ⟨h1, h2, h3, h4, h5⟩ := hz
  obtain ⟨K, hK⟩ : ∃ K : Nat, S.size - 1 = K := ⟨_, rfl⟩
  rw [hK] at A3
  have hKI : (S.size : Int) - 1 = (K : Int) := by omega
  have hKs : (S.size : Int) ≤ 33554432 := by omega
  have hK1 : (K : Int) ≤ S.size := by omega
  clear h1 h2 h3 h4 h5 hK
  go_wp2_with fail
  refine (A1.out _).mono ?_
  rintro e w5 ⟨g5, c5, rfl, k9, k17, V5, hg5, b5⟩
  have q5 : w5.cell? ⟨g, 0, none⟩ = some (.string P) := (b5.cell (p := ⟨g, 0, none⟩) hg).trans q0
  have B5 := hid (B4.out.trans (b5.mono B4.out.size))
  have HV5 := hid V5
  have hg' := Nat.lt_of_lt_of_le hg b5.size
  clear V5 b5 q0 B4
  go_wp2_with fail
  go_quiet (fail)
  go_wp2_with fail
  refine (A2.out _).mono ?_
  rintro e w6 ⟨v6, rfl, b6'⟩
  have b6 : Below w5.heap.size w5 w6 := (bel_drewN w5 nq).trans b6'
  have q6 : w6.cell? ⟨g, 0, none⟩ = some (.string P) := (b6.cell (p := ⟨g, 0, none⟩) hg').trans q5
  have B6 := hid (B5.out.trans (b6.mono B5.out.size))
  have HV6 := hid (HV5.out.below b6)
  have hg6 := Nat.lt_of_lt_of_le hg' b6.size
  clear b6' b6 q5 B5 HV5 k9 k17
  go_wp2_with fail
  refine (A3.out _).mono ?_
  rintro e w7 ⟨a7, c7, rfl, b7⟩
  have q7 : w7.cell? ⟨g, 0, none⟩ = some (.string P) := (b7.cell (p := ⟨g, 0, none⟩) hg6).trans q6
  have B7 := hid (B6.out.trans (b7.mono B6.out.size))
  have HV7 := hid (HV6.out.below b7)
  have hg7 := Nat.lt_of_lt_of_le hg6 b7.size
  clear b7 q6 B6 HV6
  go_wp2_with fail
  refine (A4.out _ _ _ HV7.out).mono ?_
  rintro e w8 ⟨rfl, b8⟩
  have q8 : w8.cell? ⟨g, 0, none⟩ = some (.string P) := (b8.cell (p := ⟨g, 0, none⟩) hg7).trans q7
  have B8 := hid (B7.out.trans (b8.mono B7.out.size))
  clear b8 q7 B7 HV7
  go_wp2_with fail
  go_ret
  exact ⟨rfl, B8.out⟩
end Go.Proofs.YtgcgnkafhpjdiaaGreat
