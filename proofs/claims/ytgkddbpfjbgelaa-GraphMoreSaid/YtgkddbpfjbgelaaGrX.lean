/-
  The law GraphParts.
-/
import Derived.Test.YtgkddbpfjbgelaaGrW
namespace Go.Proofs.Ytgkddbpfjbgelaa
set_option maxRecDepth 100000
set_option linter.unusedVariables false
open Go.RowKit Go.Sort Go.Maps

theorem outR_small (N : List Nam) (E : List (Nam × Nam)) (i : Nat) : ∀ p ∈ outR N E i, p.length ≤ N.length := by
  intro p hp
  unfold outR at hp
  obtain ⟨j, -, rfl⟩ := List.mem_map.1 hp
  exact partR_len N E _
theorem abc8_small (n : Nat) : ∀ s ∈ abc8 n, s.length ≤ 100000 := by
  intro s hs
  unfold abc8 at hs
  obtain ⟨i, -, rfl⟩ := List.mem_map.1 hs
  simp [let8]
theorem edges8_small (n : Nat) (ns : List Int) : ∀ e ∈ edges8 n ns, e.1.length ≤ 100000 ∧ e.2.length ≤ 100000 := by
  intro e he
  unfold edges8 at he
  obtain ⟨x, -, rfl⟩ := List.mem_map.1 he
  simp [edge8, let8]
theorem edges8_len (n : Nat) (ns : List Int) : (edges8 n ns).length ≤ 40 := by
  unfold edges8
  rw [List.length_map]
  exact List.length_take_le 40 ns

set_option maxHeartbeats 8000000 in
theorem gparts_walk (n : Int) (a : Option Addr) (len cap : Nat) (ns : List Int) (w : World) (h : IntsArg w a len ns) : Calls Try.prog 3 #[.int .i64 n, .slice a len cap] w fun e w' => e = .returned (.bool true) ∧ Only [] w w' := by
  have H := Lib.hid h
  clear h
  go_enter Try.func3, Try.ntmps3
  go_wp2_with fail
  refine (known8_any w).mono ?_
  rintro e w1 ⟨rfl, hO1⟩
  have HO1 := Lib.hid hO1
  clear hO1
  go_wp2_with fail
  refine (within8_to w1 n 9 (by omega) (by omega)).mono ?_
  rintro e w2 ⟨rfl, rfl⟩
  have hm : inM n (9 : Int).toNat ≤ 9 := Nat.le_of_lt (inM_lt n (9 : Int).toNat (by decide))
  generalize inM n (9 : Int).toNat = m at *
  have H1 : Hid (IntsArg w1 a len ns) := Lib.hid ⟨⟨H.out.1.1, fun h0 => by
    obtain ⟨b, o, e, hb, hc⟩ := H.out.1.2 h0
    exact ⟨b, o, e, Nat.lt_of_lt_of_le hb HO1.out.size, fun i x hx => (HO1.out.cell (p := ⟨b, o + i, none⟩) hb (by simp)).trans (hc i x hx)⟩⟩, H.out.2⟩
  go_wp2_with fail
  refine (edges8_any w1 a len cap m ns H1.out hm).mono ?_
  rintro e w2 ⟨v, u, rfl, hv, hu, hO2⟩
  have Hv := Lib.hid hv.nams
  have Hu := Lib.hid hu.edges
  have HO2 := Lib.hid (HO1.out.plus hO2)
  have hvs := hv.slice
  obtain ⟨av, cv, rfl⟩ := hvs
  obtain ⟨au, cu, rfl⟩ := owns_slice hu
  clear hv hu hO2
  go_wp2_with fail
  have hal : (abc8 m).length ≤ 9 := by rw [abc8_len]; exact hm
  have hel := edges8_len m ns
  refine (parts8_any w2 _ _ (abc8 m) (edges8 m ns) Hv.out Hu.out (abc8_nodup m (by omega)) (by omega) (abc8_small m) (by omega) (edges8_small m ns)).mono ?_
  rintro e w3 ⟨v3, rfl, hr3, hO3⟩
  rw [partsM_outR _ _ (abc8_rise m (by omega))] at hr3
  have Hr3 := Lib.hid hr3.namss
  have HO3 := Lib.hid hO3
  clear hr3 hO3
  go_wp2_with fail
  refine (rparts_any w3 _ _ (abc8 m) (edges8 m ns) (Hv.out.more HO3.out) (Hu.out.more HO3.out) (abc8_rise m (by omega)) (by omega) (by omega)).mono ?_
  rintro e w4 ⟨v4, rfl, hr4, hO4⟩
  have Hr4 := Lib.hid hr4.namss
  have Hr34 := Lib.hid (Hr3.out.more hO4)
  have HO4 := Lib.hid ((HO2.out.plus HO3.out).plus hO4)
  clear hr4 hO4
  have hol := outR_len (abc8 m) (allE (abc8 m) (edges8 m ns)) (abc8 m).length
  have hos := outR_small (abc8 m) (allE (abc8 m) (edges8 m ns)) (abc8 m).length
  have Hos := Lib.hid hos
  clear hos
  go_wp2_with fail
  refine (all8_any w4 v3 v4 _ _ Hr34.out Hr4.out (by omega) (by omega) (fun p hp => by have := Hos.out p hp; omega) (fun p hp => by have := Hos.out p hp; omega)).mono ?_
  rintro e w5 ⟨rfl, hO5⟩
  have HO5 := Lib.hid (HO4.out.plus hO5)
  clear hO5
  go_wp2_with fail
  go_ret
  exact ⟨by simp, HO5.out⟩

end Go.Proofs.Ytgkddbpfjbgelaa
