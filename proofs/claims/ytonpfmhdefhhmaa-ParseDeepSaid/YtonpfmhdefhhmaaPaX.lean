/-
  The walk of the law ParseDeep.
-/
import Derived.Test.YtonpfmhdefhhmaaPaR
namespace Go.Proofs.Ytonpfmhdefhhmaa
set_option maxRecDepth 100000
set_option linter.unusedVariables false
open Go.RowKit Go.Sort

theorem deepAt_keep (ks : List Nat) (k : Nat) (h : 20 ≤ ks.length) : deepAt (ks ++ [k]) 19 = deepAt ks 19 := by
  unfold deepAt
  rw [List.take_append_of_le_length (by omega)]
  simp only [List.getD_eq_getElem?_getD, List.getElem?_append_left (show 19 < ks.length by omega)]
theorem deepAt_now (ks : List Nat) (k : Nat) (h : ks.length = 19) : deepAt (ks ++ [k]) 19 = (deepS ks).length + (if k = 1 then 5 else 3) := by
  unfold deepAt
  rw [← h, List.take_left]
  simp
theorem deepW_len (ks : List Nat) : (deepW ks).length = 12 + (deepS ks).length := by unfold deepW; rw [List.length_append]; rfl
theorem deepW_snoc (ks : List Nat) (k : Nat) : deepW (ks ++ [k]) = deepW ks ++ deepT.getD k [] ++ [123, 32] := by
  unfold deepW
  rw [deepS_snoc, deepP]
  simp only [List.append_assoc]

set_option maxHeartbeats 16000000 in
theorem pdeep_walk (n : Int) (a : Option Addr) (len cap : Nat) (ns : List Int) (w : World) (h : IntsArg w a len ns) :
    Calls Try.prog 5 #[.int .i64 n, .slice a len cap] w fun e w' => e = .returned (.bool true) ∧ Only [] w w' := by
  have hl := h.2
  unfold maxLen at hl
  have H := Lib.hid h.1
  obtain rfl := h.1.1
  clear h
  go_enter Try.func5, Try.ntmps5
  go_wp2_with fail
  refine (known6_any _).mono ?_
  rintro e w0 ⟨rfl, hO0⟩
  have HO0 := Lib.hid hO0
  clear hO0
  go_wp2_with fail
  refine (within6_to _ n 26 (by omega) (by omega)).mono ?_
  rintro e w' ⟨rfl, rfl⟩
  rw [show (26 : Int).toNat = 26 from rfl]
  have hN := inM_lt n 26 (by omega)
  generalize inM n 26 = N at *
  go_wp2_with fail
  go_loopw [5, 6, 7] (fun sv av iv wr => ∃ (ks : List Nat) (p i : Nat), (∀ k ∈ ks, k < 3) ∧ ks.length ≤ N ∧ i = ks.length + 1 ∧ iv = .int .i64 i ∧ sv = .string ⟨(deepW ks).toArray⟩ ∧ av = .int .i64 p ∧ p = (if 20 ≤ ks.length then 12 + deepAt ks 19 else 0) ∧ Only [] w wr) (fun _ _ iv _ => N + 1 - (intOf iv).toNat)
  case atStart => exact ⟨[], 0, 1, by simp, Nat.zero_le _, rfl, rfl, rfl, rfl, rfl, HO0.out⟩
  case round =>
    obtain ⟨ks, p, i, hks, hkl, rfl, rfl, rfl, rfl, hp, hO⟩ := hrel
    have HO := Lib.hid hO
    have Hks := Lib.hid hks
    have Hp := Lib.hid hp
    clear hO hks hp
    by_cases hlt : ks.length < N
    · have hlti : ((ks.length + 1 : Nat) : Int) ≤ (N : Int) := by omega
      have hlen := deepS_len ks
      have hwl := deepW_len ks
      generalize hi : ks.length + 1 = i at *
      go_upto_region 10 with fail
      go_cut [26] (fun s26 wx => s26 = .bool (decide (i < ns.length)) ∧ wr = wx)
      case first =>
        by_cases hn : i < ns.length
        · have hni : (i : Int) < (ns.length : Int) := by omega
          have hde : decide (i < ns.length) = true := by simp [hn]
          go_wp2_with fail
          go_meet
          exact ⟨by rw [hde], rfl⟩
        · have hni : ¬ (i : Int) < (ns.length : Int) := by omega
          have hde : decide (i < ns.length) = false := by simp [hn]
          go_wp2_with fail
          go_meet
          exact ⟨by rw [hde], rfl⟩
      case rest =>
      obtain ⟨rfl, rfl⟩ := hcut
      go_upto_if 26 with fail
      go_cut [8] (fun s8 wx => ∃ z : Int, s8 = .int .i64 z ∧ wr = wx)
      case first =>
        by_cases hn : i < ns.length
        · have hni : (i : Int) < (ns.length : Int) := by omega
          have hde : decide (i < ns.length) = true := by simp [hn]
          rw [hde]
          obtain ⟨b, o, rfl, hb, hc⟩ := (H.out.more HO.out).2 (by omega)
          have c0 := hc i _ (List.getElem?_eq_getElem hn)
          generalize ns[i] = z at *
          go_wp2_with fail
          go_meet
          exact ⟨_, rfl, rfl⟩
        · have hde : decide (i < ns.length) = false := by simp [hn]
          rw [hde]
          go_wp2_with fail
          go_meet
          exact ⟨_, rfl, rfl⟩
      case rest =>
        obtain ⟨z, rfl, rfl⟩ := hcut
        have hiz := inM_lti z 3 (by omega)
        have hik := inM_lt z 3 (by omega)
        have hO1 := (Only.refl [] wr).alloc (.cells #[.string ⟨#[105, 102, 32]⟩, .string ⟨#[108, 111, 111, 112, 32]⟩, .string ⟨#[105, 102, 32, 123, 32, 125, 32, 101, 108, 115, 101, 32]⟩] 9)
        have hq := IsBlk.made wr (.cells #[.string ⟨#[105, 102, 32]⟩, .string ⟨#[108, 111, 111, 112, 32]⟩, .string ⟨#[105, 102, 32, 123, 32, 125, 32, 101, 108, 115, 101, 32]⟩] 9)
        have hcT : (wr.alloc (.cells #[.string ⟨#[105, 102, 32]⟩, .string ⟨#[108, 111, 111, 112, 32]⟩, .string ⟨#[105, 102, 32, 123, 32, 125, 32, 101, 108, 115, 101, 32]⟩] 9)).cell? ⟨wr.heap.size, inM z 3, none⟩ = some (.string ⟨(deepT.getD (inM z 3) []).toArray⟩) := table_cell deepT hq (inM z 3) (inM_lt z 3 (by omega))
        have HO1 := Lib.hid (HO.out.plus hO1)
        have Hsn := Lib.hid (deepW_snoc ks (inM z 3))
        have htl : (deepT.getD (inM z 3) []).length ≤ 12 := by
          have : ∀ i : Fin 3, (deepT.getD i.1 []).length ≤ 12 := by decide
          exact this ⟨_, hik⟩
        have Hw9 : Hid (inM z 3 = 2 → (deepT.getD (inM z 3) []).length = 12) := Lib.hid (fun e => by rw [e]; rfl)
        have Hw5 : Hid (inM z 3 = 1 → (deepT.getD (inM z 3) []).length = 5) := Lib.hid (fun e => by rw [e]; rfl)
        have Hw3 : Hid (inM z 3 = 0 → (deepT.getD (inM z 3) []).length = 3) := Lib.hid (fun e => by rw [e]; rfl)
        have Hnow := Lib.hid (deepAt_now ks (inM z 3))
        have Hkeep := Lib.hid (deepAt_keep ks (inM z 3))
        clear hO1 hq
        have htl2 : ((deepW ks).length : Int) + ((deepT.getD (inM z 3) []).length : Int) ≤ 9223372036854775807 := by omega
        generalize deepT.getD (inM z 3) [] = tw at *
        generalize hdw : deepW ks = tx at *
        have Hdw := Lib.hid hdw
        clear hdw
        go_wp2_with fail
        refine (within6_to _ z 3 (by omega) (by omega)).mono ?_
        rintro e w' ⟨rfl, rfl⟩
        rw [show (3 : Int).toNat = 3 from rfl]
        generalize hkz : inM z 3 = kk at *
        go_upto_region 13 with fail
        rw [append_list]
        have hl1 : (tx ++ tw).length = tx.length + tw.length := List.length_append
        generalize htt : tx ++ tw = t1 at *
        have Htt := Lib.hid htt
        clear htt
        clear hcT
        generalize wr.alloc (.cells #[.string ⟨#[105, 102, 32]⟩, .string ⟨#[108, 111, 111, 112, 32]⟩, .string ⟨#[105, 102, 32, 123, 32, 125, 32, 101, 108, 115, 101, 32]⟩] 9) = w1 at *
        have ht2 : (t1.length : Int) + 2 ≤ 9223372036854775807 := by omega
        go_cut [39] (fun s39 wx => s39 = .bool (decide (i = 20)) ∧ w1 = wx)
        case first =>
          by_cases h20 : i = 20
          · have h20i : ((i : Int) == 20) = true := by simp; omega
            go_wp2_with fail
            go_meet
            exact ⟨by simp [h20], rfl⟩
          · have h20i : ((i : Int) == 20) = false := by simp; omega
            go_wp2_with fail
            go_meet
            exact ⟨by simp [h20], rfl⟩
        case rest =>
        obtain ⟨rfl, rfl⟩ := hcut
        go_upto_if 39 with fail
        go_cut [6] (fun s6 wx => ∃ y : Int, s6 = .int .i64 y ∧ y = ((if 20 ≤ (ks ++ [kk]).length then 12 + deepAt (ks ++ [kk]) 19 else 0 : Nat) : Int) ∧ w1 = wx)
        case first =>
          have hll : (ks ++ [kk]).length = i := by rw [List.length_append, ← hi]; rfl
          by_cases h20 : i = 20
          · have h19 : ks.length = 19 := by omega
            have hde : decide (i = 20) = true := by simp [h20]
            have H19 := Lib.hid h19
            have H20 : Hid (20 ≤ i) := Lib.hid (by omega)
            have Hl : Hid (t1.length = 12 + (deepS ks).length + tw.length) := Lib.hid (by omega)
            clear h19 hl1 hwl
            rw [hde]
            clear hde h20
            go_wp2_with fail
            refine (within6_to _ z 3 (by omega) (by omega)).mono ?_
            rintro e w' ⟨rfl, rfl⟩
            rw [show (3 : Int).toNat = 3 from rfl, hkz]
            by_cases hk2 : kk = 2
            · have hk2i : ((kk : Int) == 2) = true := by simp [hk2]
              go_wp2_with fail
              go_meet
              refine ⟨_, rfl, ?_, rfl⟩
              have h20 := H20.out
              have hl1 := Hl.out
              rw [hll, if_pos h20, Hnow.out H19.out, if_neg (by omega)]
              have hwz := Hw9.out hk2
              omega
            · have hk2i : ((kk : Int) == 2) = false := by simp; omega
              go_wp2_with fail
              go_meet
              refine ⟨_, rfl, ?_, rfl⟩
              have h20 := H20.out
              have hl1 := Hl.out
              rw [hll, if_pos h20, Hnow.out H19.out]
              by_cases hk1 : kk = 1
              · have hwz := Hw5.out hk1
                rw [if_pos hk1]
                omega
              · have hwz := Hw3.out (by omega)
                rw [if_neg hk1]
                omega
          · have hde : decide (i = 20) = false := by simp [h20]
            rw [hde]
            go_wp2_with fail
            go_meet
            refine ⟨_, rfl, ?_, rfl⟩
            rw [Hp.out, hll]
            by_cases h21 : 20 ≤ ks.length
            · rw [if_pos h21, if_pos (by omega), Hkeep.out h21]
            · rw [if_neg h21, if_neg (by omega)]
        case rest =>
          obtain ⟨y, rfl, hp', rfl⟩ := hcut
          obtain ⟨p', hpp⟩ : ∃ p' : Nat, p' = (if 20 ≤ (ks ++ [kk]).length then 12 + deepAt (ks ++ [kk]) 19 else 0) := ⟨_, rfl⟩
          rw [← hpp] at hp'
          subst hp'
          have Hp' := Lib.hid hpp
          clear hpp Hp
          go_wp2
          go_roundw
          case rel =>
            refine ⟨ks ++ [kk], p', i + 1, fun k hk => ?_, ?_, by rw [List.length_append, ← hi]; rfl, by go_num, ?_, rfl, Hp'.out, HO1.out⟩
            · rcases List.mem_append.1 hk with hk | hk
              · exact Hks.out k hk
              · simp at hk; omega
            · rw [List.length_append, List.length_cons, List.length_nil]; omega
            · rw [Hsn.out]
              exact congrArg Value.string (append_list t1 [123, 32])
          case measure => simp [intOf]; omega
    · have hlti : ¬ ((ks.length + 1 : Nat) : Int) ≤ (N : Int) := by omega
      have hNk : ks.length = N := by omega
      subst hNk
      have hlen := deepS_len ks
      have hwl := deepW_len ks
      generalize hi : ks.length + 1 = i at *
      go_wp2_with fail
      go_loopw [5, 9] (fun sv iv wy => ∃ m : Nat, m ≤ ks.length + 1 ∧ iv = .int .i64 m ∧ sv = .string ⟨(deepW ks ++ shutS m).toArray⟩ ∧ Only [] w wy) (fun _ iv _ => ks.length + 1 - (intOf iv).toNat)
      case atStart => exact ⟨0, Nat.zero_le _, rfl, by rw [shutS, List.append_nil], HO.out⟩
      case round =>
        obtain ⟨m, hm, rfl, rfl, hO⟩ := hrel
        have hsl := shutS_len m
        have HOy := Lib.hid hO
        clear hO
        by_cases hmn : m ≤ ks.length
        · have hmi : (m : Int) ≤ (ks.length : Int) := by omega
          have Hsn := Lib.hid (shutS_succ m)
          have hl1 : (deepW ks ++ shutS m).length = (deepW ks).length + (shutS m).length := List.length_append
          have Hss : Hid (deepW ks ++ shutS (m + 1) = (deepW ks ++ shutS m) ++ [125, 32]) := Lib.hid (by rw [Hsn.out, List.append_assoc])
          generalize deepW ks ++ shutS m = t1 at *
          have ht2 : (t1.length : Int) + 2 ≤ 9223372036854775807 := by omega
          go_wp2
          go_roundw
          case rel =>
            refine ⟨m + 1, by omega, by go_num, ?_, HOy.out⟩
            rw [Hss.out]
            exact congrArg Value.string (append_list t1 [125, 32])
          case measure => simp [intOf]; omega
        · have hmi : ¬ (m : Int) ≤ (ks.length : Int) := by omega
          have hme : m = ks.length + 1 := by omega
          subst hme
          obtain ⟨hpa, hpb⟩ := deep_parse ks Hks.out (by omega)
          have Hpa := Lib.hid hpa
          have Hpb := Lib.hid hpb
          have hl1 : (deepW ks ++ shutS (ks.length + 1)).length = (deepW ks).length + (shutS (ks.length + 1)).length := List.length_append
          clear hpa hpb
          have htl : (deepW ks ++ shutS (ks.length + 1)).length ≤ 100000 := by omega
          clear hl1 hwl
          generalize deepW ks ++ shutS (ks.length + 1) = tx at *
          go_wp2_with fail
          refine (pparse_any _ tx htl).mono ?_
          rintro e w2 ⟨vv, vl, vf, rfl, hP, hO2⟩
          have HO2 := Lib.hid (HOy.out.plus hO2)
          clear hO2
          by_cases h20 : ks.length < 20
          · have h20i : ¬ (20 : Int) ≤ (ks.length : Int) := by omega
            obtain ⟨P, hPe, hPl⟩ := Hpa.out h20
            rw [hPe] at hP ⊢
            obtain ⟨⟨av, cv, rfl, hcv, -⟩, ⟨al, cl, rfl, hcl, -⟩, ⟨af, cf, rfl, hcf, -⟩⟩ := hP
            have hOa := (Only.refl [] w2).alloc (.cells #[.slice av P.vars.length cv, .slice al P.locks.length cl, .slice af P.funcs.length cf] 30)
            have hb := IsBlk.made w2 (.cells #[.slice av P.vars.length cv, .slice al P.locks.length cl, .slice af P.funcs.length cf] 30)
            have HO3 := Lib.hid (HO2.out.plus hOa)
            have c2 := hb.cell 2
            clear hOa hb
            rw [hPl] at *
            go_wp2_with fail
            go_ret
            exact ⟨rfl, HO3.out⟩
          · have h20i : (20 : Int) ≤ (ks.length : Int) := by omega
            have hPe := Hpb.out (by omega)
            have hpp := Hp.out
            rw [if_pos (by omega)] at hpp
            rw [hPe] at hP ⊢
            obtain ⟨⟨av, cv, rfl, hcv, -⟩, ⟨al, cl, rfl, hcl, -⟩, ⟨af, cf, rfl, hcf, -⟩⟩ := hP
            rw [← hpp]
            have hOa := (Only.refl [] w2).alloc (.cells #[.slice av 0 cv, .slice al 0 cl, .slice af 0 cf] 30)
            have hb := IsBlk.made w2 (.cells #[.slice av 0 cv, .slice al 0 cl, .slice af 0 cf] 30)
            have HO3 := Lib.hid (HO2.out.plus hOa)
            have c2 := hb.cell 2
            clear hOa hb
            simp only [List.length_nil] at *
            go_wp2_with fail
            go_ret
            exact ⟨rfl, HO3.out⟩

end Go.Proofs.Ytonpfmhdefhhmaa
