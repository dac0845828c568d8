/- 'done' upon a nil disk. -/
import Derived.Test.YtclelafnjfhdjaaNil
namespace Go.Proofs.Ytclelafnjfhdjaa
open Go.RowKit
def dnN0 (o : Op5) : Nat := if o.k = 1 then crN o.nm else 4
set_option maxHeartbeats 2000000 in
set_option maxRecDepth 20000 in
theorem done_nil (o : Op5) (w : World) : Calls Try.prog 14 #[.iface 24 (.pointer none), opV o] w fun e w' => e = .returned (.tuple #[.string ⟨#[]⟩, .int .i64 0, .int .i64 (dnN0 o)]) ∧ Below w.heap.size w w' := by
  obtain ⟨k, nm, a, b, s⟩ := o
  simp only [opV, dnN0]
  have HW := hid (bel_alloc w (.cells #[.int .i64 k, .string nm, .int .i64 a, .int .i64 b, .string s] 31))
  by_cases h1 : k = 1
  · subst h1
    have HC := hid (fun w' => create_nil nm w')
    have hm := mth_Create none
    simp (config := {decide := true}) only [if_true]
    go_enter Try.func14, Try.ntmps14
    go_wp2_with (go_at_call 22; refine (HC.out _).mono ?_; rintro e w1 ⟨rfl, rfl⟩)
    go_ret3
    exact ⟨rfl, HW.out⟩
  by_cases h2 : k = 2
  · subst h2
    have HC := hid (fun w' => append_nil nm s w')
    have hm := mth_Append none
    simp (config := {decide := true}) only [if_false]
    go_enter Try.func14, Try.ntmps14
    go_wp2_with (go_at_call 23; refine (HC.out _).mono ?_; rintro e w1 ⟨rfl, rfl⟩)
    go_ret3
    exact ⟨rfl, HW.out⟩
  by_cases h3 : k = 3
  · subst h3
    have HC := hid (fun w' => cut_nil nm a w')
    have hm := mth_Cut none
    simp (config := {decide := true}) only [if_false]
    go_enter Try.func14, Try.ntmps14
    go_wp2_with (go_at_call 35; refine (HC.out _).mono ?_; rintro e w1 ⟨rfl, rfl⟩)
    go_ret3
    exact ⟨rfl, HW.out⟩
  by_cases h4 : k = 4
  · subst h4
    have HC := hid (fun w' => sync_nil nm w')
    have hm := mth_Sync none
    simp (config := {decide := true}) only [if_false]
    go_enter Try.func14, Try.ntmps14
    go_wp2_with (go_at_call 37; refine (HC.out _).mono ?_; rintro e w1 ⟨rfl, rfl⟩)
    go_ret3
    exact ⟨rfl, HW.out⟩
  by_cases h5 : k = 5
  · subst h5
    have HC := hid (fun w' => remove_nil nm w')
    have hm := mth_Remove none
    simp (config := {decide := true}) only [if_false]
    go_enter Try.func14, Try.ntmps14
    go_wp2_with (go_at_call 39; refine (HC.out _).mono ?_; rintro e w1 ⟨rfl, rfl⟩)
    go_ret3
    exact ⟨rfl, HW.out⟩
  by_cases h7 : k = 7
  · subst h7
    have HC := hid (fun w' => read_nil nm a b w')
    have hm := mth_Read none
    simp (config := {decide := true}) only [if_false]
    go_enter Try.func14, Try.ntmps14
    go_wp2_with (go_at_call 24; refine (HC.out _).mono ?_; rintro e w1 ⟨rfl, rfl⟩)
    go_ret3
    exact ⟨rfl, HW.out⟩
  have HC := hid (fun w' => size_nil nm w')
  have hm := mth_Size none
  simp only [h1, if_false]
  go_enter Try.func14, Try.ntmps14
  go_wp2_with (go_at_call 28; refine (HC.out _).mono ?_; rintro e w1 ⟨rfl, rfl⟩)
  go_ret3
  exact ⟨rfl, HW.out⟩
end Go.Proofs.Ytclelafnjfhdjaa
