/-
  The law's Edges.
-/
import Derived.Test.YtgkddbpfjbgelaaGrO
namespace Go.Proofs.Ytgkddbpfjbgelaa
set_option maxRecDepth 100000
set_option linter.unusedVariables false
open Go.RowKit Go.Sort Go.Maps

def byte8 (k : Nat) : UInt8 := UInt8.ofNat (97 + k)
def let8 (k : Nat) : Nam := [byte8 k]
def abc8 (n : Nat) : List Nam := (List.range n).map let8
theorem abc8_succ (n : Nat) : abc8 (n + 1) = abc8 n ++ [let8 n] := by simp [abc8, List.range_succ]
theorem abc8_len (n : Nat) : (abc8 n).length = n := by simp [abc8]
def edge8 (n : Nat) (x : Int) : Nam × Nam := (let8 (inM x (n + 2)), let8 (inM (IntKind.i64.wrap (x.tdiv 16)) (n + 2)))
def edges8 (n : Nat) (ns : List Int) : List (Nam × Nam) := (ns.take 40).map (edge8 n)

theorem conv8_str (w : World) (g : Nat) (u : UInt8) (x : Int) (hx : x = (u.toNat : Int)) (hr : IsBlk w g (.cells #[.int .u8 x] 5)) : (convert 61 9 (.slice (some ⟨g, 0, none⟩) 1 1)).run Try.prog w = .ok (.string ⟨#[u]⟩) w := by
  have := run_convert_bytes_arg (P := Try.prog) w 61 5 Try.underlying61 Try.underlying5 g 0 1 1 [x] rfl (fun i hi => by
    obtain rfl : i = 0 := by omega
    exact hr.cell 0) 9 Try.underlying9
  rw [this]
  subst hx
  simp [strOfNums]
theorem byte8_nat (k : Nat) (h : k ≤ 20) : (byte8 k).toNat = 97 + k := by unfold byte8; simp; omega
theorem let8_u (k : Nat) (h : k ≤ 20) : (97 + (k : Int)) = ((byte8 k).toNat : Int) := by
  have := byte8_nat k h
  rw [this]; omega
theorem wrap8_u (k : Nat) (h : k ≤ 20) : IntKind.u8.wrap (97 + (k : Int)) = 97 + (k : Int) := by
  rw [IntKind.wrap_u8]
  omega

/-- Edges of one's own. -/
def OwnE (w : World) (base : Nat) (v : Value) (E : List (Nam × Nam)) : Prop := w.ownsRow base 35 2 v E.length (E.flatMap fun e => [encStr e.1, encStr e.2])
theorem ecells_len (E : List (Nam × Nam)) : (E.flatMap fun e => [encStr e.1, encStr e.2]).length = E.length * 2 := by
  induction E with
  | nil => rfl
  | cons x r ih => simp only [List.flatMap_cons, List.length_append, List.length_cons, List.length_nil] at *; omega
theorem ecells_get : ∀ (E : List (Nam × Nam)) (i : Nat) (e : Nam × Nam), E[i]? = some e → (E.flatMap fun e => [encStr e.1, encStr e.2])[i * 2]? = some (encStr e.1) ∧ (E.flatMap fun e => [encStr e.1, encStr e.2])[i * 2 + 1]? = some (encStr e.2)
  | [], i, e, h => by simp at h
  | x :: r, 0, e, h => by simp at h; subst h; simp
  | x :: r, i + 1, e, h => by
    have ih := ecells_get r i e (by simpa using h)
    have e1 : (i + 1) * 2 = i * 2 + 2 := by omega
    have e2 : i * 2 + 2 + 1 = i * 2 + 1 + 2 := by omega
    rw [e1, e2]
    simpa using ih
theorem OwnE.edges {w : World} {base : Nat} {v : Value} {E : List (Nam × Nam)} (h : OwnE w base v E) : EdgesAt w v E := by
  have hh := h
  obtain ⟨a, c, rfl⟩ := owns_slice h
  refine ⟨a, c, rfl, fun i e hi => ?_⟩
  have hlt := (List.getElem?_eq_some_iff.1 hi).1
  rcases h.2 with ⟨e1, e2⟩ | ⟨g, cap, cur, e1, hb, hg, hc, -⟩
  · omega
  · injection e1 with e1 e2 e3
    subst e1
    obtain ⟨h1, h2⟩ := ecells_get E i e hi
    have k1 := World.ownsRow.cells hh (g := g) rfl _ _ h1
    have k2 := World.ownsRow.cells hh (g := g) rfl _ _ h2
    rw [Addr.add_mid, Nat.zero_add] at k1 k2
    exact ⟨g, rfl, IsBlk.lt hg, k1, k2⟩
theorem infoE8 : (Try.prog.info? 35).map (fun i => (i.zero, i.size, i.bytes)) = some (some (.agg #[.string ⟨#[]⟩, .string ⟨#[]⟩]), 2, 32) := by kernel_rfl
theorem wpList_append_e {w : World} {ops : Array Oper} {rest : List Oper} {o : Oper} {a : Act} {Q : Exit → Act → World → Prop} (hgd : o.guard = none) (s x : Operand)
    (ho : o.op = .call { callee := .builtin .append, args := #[s, x], argTypes := #[25, 25] })
    (base : Nat) (v : Value) (E : List (Nam × Nam)) (hs : a.eval s = v) (hown : OwnE w base v E) (q c : Nat) (e : Nam × Nam) (hx : a.eval x = .slice (some ⟨q, 0, none⟩) 1 c) (hc0 : w.cell? ⟨q, 0, none⟩ = some (encStr e.1)) (hc1 : w.cell? ⟨q, 1, none⟩ = some (encStr e.2)) (hl : E.length ≤ 1000000) (hbase : base ≤ w.heap.size)
    (h : ∀ v' w', OwnE w' base v' (E ++ [e]) → Only (ownL v) w w' → wpList Try.prog ops Q rest (a.put o.dst v') w') : wpList Try.prog ops Q (o :: rest) a w := by
  obtain ⟨i0, hi, hz0, hz1, hz2⟩ := info_parts infoE8
  refine wpList_append_own_at w hgd s x _ ho base _ i0 _ 2 32 Try.underlying25 hi hz0 hz1 hz2 rfl (by decide) v E.length _ hs hown ⟨q, 0, none⟩ 1 c [encStr e.1, encStr e.2] hx rfl (fun j u hu => ?_) (fun u hu => ?_) (by unfold maxLen; omega) (by omega) hbase (fun v' w' k2 k3 k4 k5 => h v' w' ?_ (grown_only k3))
  · rw [Addr.add_mid]
    match j, hu with
    | 0, hu => simp at hu; rw [← hu]; exact hc0
    | 1, hu => simp at hu; rw [← hu]; exact hc1
    | n + 2, hu => simp at hu
  · simp at hu
    rcases hu with rfl | rfl <;> rfl
  · unfold OwnE
    rw [List.length_append, List.flatMap_append]
    exact k2

def EdgesTo (w : World) (n : Nat) (ns : List Int) (r : Ending) (w' : World) : Prop := ∃ v u, r = .returned (.tuple #[v, u]) ∧ OwnN w' w.heap.size v (abc8 n) ∧ OwnE w' w.heap.size u (edges8 n ns) ∧ Only [] w w'

set_option maxHeartbeats 16000000 in
theorem edges8_any (w : World) (a : Option Addr) (len cap n : Nat) (ns : List Int) (h : IntsArg w a len ns) (hn : n ≤ 9) : Calls Try.prog 10 #[.int .i64 n, .slice a len cap] w (EdgesTo w n ns) := by
  have H := Lib.hid h
  obtain ⟨⟨hlen, -⟩, hmax⟩ := h
  subst hlen
  unfold maxLen at hmax
  go_enter Try.func10, Try.ntmps10
  go_wp2_with fail
  go_loopw [6, 7] (fun sv iv wr => ∃ j : Nat, iv = .int .i64 j ∧ j ≤ n ∧ OwnN wr w.heap.size sv (abc8 j) ∧ Only [] w wr) (fun _ iv _ => n - (intOf iv).toNat)
  case atStart => exact ⟨0, rfl, Nat.zero_le _, World.ownsRow_nil _ _ _ _, Only.refl _ _⟩
  case round =>
    obtain ⟨j, rfl, hj, how, hO⟩ := hrel
    have How := Lib.hid how
    have HO := Lib.hid hO
    clear how hO
    have hws := HO.out.size
    by_cases hlt : j < n
    · have hji : (j : Int) < (n : Int) := by omega
      have hu := let8_u j (by omega)
      have hwr := wrap8_u j (by omega)
      have hconv : ∀ W : World, (convert 61 9 (.slice (some ⟨W.heap.size, 0, none⟩) 1 1)).run Try.prog (W.alloc (.cells #[.int .u8 (97 + (j : Int))] 5)) = .ok (.string ⟨#[byte8 j]⟩) (W.alloc (.cells #[.int .u8 (97 + (j : Int))] 5)) := fun W => conv8_str _ _ _ _ hu (IsBlk.made W _)
      have hO1 : Only [] wr (wr.alloc (.cells #[.int .u8 (97 + (j : Int))] 5)) := (Only.refl _ _).alloc _
      have hal : (abc8 j).length ≤ 1000000 := by rw [abc8_len]; omega
      clear hu
      have hc2 : ((wr.alloc (.cells #[.int .u8 (97 + (j : Int))] 5)).alloc (.cells #[.string ⟨#[byte8 j]⟩] 9)).cell? ⟨wr.heap.size + 1, 0, none⟩ = some (.string ⟨#[byte8 j]⟩) := by
        simp
      go_wp2_with
       (at_builtin
        refine wpList_append_18 rfl _ _ 24 9 rfl Try.underlying24 (.string ⟨#[]⟩) 16 infoT8 rfl (by decide) w.heap.size u6 (abc8 j).length ((abc8 j).map encStr) rfl (owns_off (owns_off How.out hO1 (by simp)) (((Only.refl [] _)).alloc _) (by simp)) (wr.heap.size + 1) 1 (.string ⟨#[byte8 j]⟩) rfl hc2 rfl hal (by simp; omega) ?_
        intro v' w4 k1 k2 k3)
      go_roundw
      case rel => exact ⟨j + 1, by go_num, hlt, by rw [abc8_succ]; unfold OwnN; rw [List.length_append, List.map_append]; exact k1, ((HO.out.plus hO1).alloc _).then k2 [] (by simp) (fun i hi => .inr (World.ownsRow.lt How.out i (mem_ownL.1 hi)).1)⟩
      case measure => simp [intOf]; omega
    · obtain rfl : j = n := by omega
      have hji : ¬ (j : Int) < (j : Int) := by omega
      go_wp2_with fail
      generalize he6 : u6 = vN at *
      have HOn := Lib.hid HO.out
      have hjn : j ≤ 9 := hn
      clear HO hlt hji
      generalize wr = w2 at *
      go_loopw [8, 9] (fun sv iv wq => ∃ k : Nat, iv = .int .i64 k ∧ k ≤ ns.length ∧ k ≤ 40 ∧ OwnE wq w2.heap.size sv ((ns.take k).map (edge8 j)) ∧ Only [] w2 wq) (fun _ iv _ => 40 - (intOf iv).toNat)
      case atStart => exact ⟨0, rfl, Nat.zero_le _, by omega, World.ownsRow_nil _ _ _ _, Only.refl _ _⟩
      case round =>
        obtain ⟨k, rfl, hk, hk40, how, hO⟩ := hrel
        have Hoe := Lib.hid how
        have HO := Lib.hid hO
        clear how hO
        by_cases hlt : k < ns.length
        · have hki : (k : Int) < (ns.length : Int) := by omega
          by_cases h40 : k < 40
          · have hki4 : (k : Int) < 40 := by omega
            obtain ⟨b, o, rfl, hb, hc⟩ := (H.out.1).2 (by omega)
            obtain ⟨x, hx⟩ : ∃ x, ns[k]? = some x := ⟨ns[k], by simp [hlt]⟩
            have hcx := hc k x hx
            have hwq := HOn.out.plus HO.out
            have hdr : Only [] wr wr.drew := (Only.refl [] wr).drew
            have Hcl : Hid (∀ W, Only [] wr W → W.cell? ⟨b, o + k, none⟩ = some (.int .i64 x)) := Lib.hid (fun W hW => ((hwq.plus hW).cell (p := ⟨b, o + k, none⟩) hb (by simp)).trans hcx)
            have Htk : Hid ((ns.take (k + 1)).map (edge8 j) = (ns.take k).map (edge8 j) ++ [edge8 j x]) := Lib.hid (by rw [List.take_add_one, hx, List.map_append]; rfl)
            have hk0 : (0 : Int) ≤ (k : Int) := by omega
            have hmk : ((ns.take k).map (edge8 j)).length ≤ 1000000 := by simp; omega
            obtain ⟨y, hy⟩ : ∃ y, y = IntKind.i64.wrap (x.tdiv 16) := ⟨_, rfl⟩
            obtain ⟨k1, hk1⟩ : ∃ k1, k1 = inM x (j + 2) := ⟨_, rfl⟩
            obtain ⟨k2, hk2⟩ : ∃ k2, k2 = inM y (j + 2) := ⟨_, rfl⟩
            have hl1 : k1 ≤ 12 := by have := inM_lt x (j + 2) (by omega); omega
            have hl2 : k2 ≤ 12 := by have := inM_lt y (j + 2) (by omega); omega
            have hw1 := wrap8_u k1 (by omega)
            have hw2 := wrap8_u k2 (by omega)
            have hy' := hy.symm
            have hwj : IntKind.i64.wrap ((j : Int) + 2) = (j : Int) + 2 := by rw [IntKind.wrap_i64]; omega
            have hwk1 : IntKind.i64.wrap (97 + (k1 : Int)) = 97 + (k1 : Int) := by rw [IntKind.wrap_i64]; omega
            have hwk2 : IntKind.i64.wrap (97 + (k2 : Int)) = 97 + (k2 : Int) := by rw [IntKind.wrap_i64]; omega
            have HK1 : Hid (inM x ((j : Int) + 2).toNat = k1) := Lib.hid (by rw [hk1, show ((j : Int) + 2).toNat = j + 2 by omega])
            have HK2 : Hid (inM y ((j : Int) + 2).toNat = k2) := Lib.hid (by rw [hk2, show ((j : Int) + 2).toNat = j + 2 by omega])
            have Hu1 : Hid ((97 + (k1 : Int)) = ((byte8 k1).toNat : Int)) := Lib.hid (let8_u k1 (by omega))
            have Hu2 : Hid ((97 + (k2 : Int)) = ((byte8 k2).toNat : Int)) := Lib.hid (let8_u k2 (by omega))
            have Hed : Hid (edge8 j x = ([byte8 k1], [byte8 k2])) := Lib.hid (by rw [hk1, hk2, hy]; rfl)
            clear hk1 hk2 hy
            clear hc hx hcx
            go_upto_region 10 with fail
            refine wp_region_stabL (P := Try.prog) 26 (by kernel_rfl) (by kernel_rfl) (Only []) (Only.refl _ _) (fun _ _ _ h k => h.then k [] (by simp) (by simp))
              [SP.is (u8),
               SP.is (.slice (some ⟨b, o, none⟩) ns.length cap),
               SP.is (.int .i64 k),
               SP.is (.pointer (some ⟨b, o + k, none⟩)),
               SP.is (.int .i64 x),
               SP.is (.int .i64 j),
               SP.is (.int .i64 ((j : Int) + 2)),
               SP.is (.int .i64 (k1 : Nat)),
               SP.is (.int .i64 (97 + (k1 : Int))),
               SP.is (.int .u8 (97 + (k1 : Int))),
               ⟨fun v W => ∃ q, v = .slice (some ⟨q, 0, none⟩) 1 1 ∧ IsBlk W q (.cells #[.int .u8 (97 + (k1 : Int))] 5), fun _ _ _ ⟨q, e, h⟩ hO => ⟨q, e, h.only hO (by simp)⟩⟩,
               SP.is (.string ⟨#[byte8 k1]⟩),
               SP.is (.slice (some ⟨b, o, none⟩) ns.length cap),
               SP.is (.int .i64 k),
               SP.is (.pointer (some ⟨b, o + k, none⟩)),
               SP.is (.int .i64 x),
               SP.is (.int .i64 y),
               SP.is (.int .i64 j),
               SP.is (.int .i64 ((j : Int) + 2)),
               SP.is (.int .i64 (k2 : Nat)),
               SP.is (.int .i64 (97 + (k2 : Int))),
               SP.is (.int .u8 (97 + (k2 : Int))),
               ⟨fun v W => ∃ q, v = .slice (some ⟨q, 0, none⟩) 1 1 ∧ IsBlk W q (.cells #[.int .u8 (97 + (k2 : Int))] 5), fun _ _ _ ⟨q, e, h⟩ hO => ⟨q, e, h.only hO (by simp)⟩⟩,
               SP.is (.string ⟨#[byte8 k2]⟩),
               SP.is (.agg #[.string ⟨#[byte8 k1]⟩, .string ⟨#[byte8 k2]⟩]),
               ⟨fun v W => ∃ q, v = .slice (some ⟨q, 0, none⟩) 1 1 ∧ IsBlk W q (.cells #[.string ⟨#[byte8 k1]⟩, .string ⟨#[byte8 k2]⟩] 35), fun _ _ _ ⟨q, e, h⟩ hO => ⟨q, e, h.only hO (by simp)⟩⟩] ?_ ?_
            · simp only [List.take_succ_cons, List.take_zero]
              refine StepsOK.cons ?_ (StepsOK.cons ?_ (StepsOK.cons ?_ (StepsOK.cons ?_ (StepsOK.cons ?_ (StepsOK.cons ?_ (StepsOK.cons ?_ (StepsOK.cons ?_ (StepsOK.cons ?_ (StepsOK.cons ?_ (StepsOK.cons ?_ (StepsOK.cons ?_ (StepsOK.cons ?_ (StepsOK.cons ?_ (StepsOK.cons ?_ (StepsOK.cons ?_ (StepsOK.cons ?_ (StepsOK.cons ?_ (StepsOK.cons ?_ (StepsOK.cons ?_ (StepsOK.cons ?_ (StepsOK.cons ?_ (StepsOK.cons ?_ (StepsOK.cons ?_ (StepsOK.cons ?_ (StepsOK.cons ?_ StepsOK.nil)))))))))))))))))))))))))
              · intro a W L N hR hold hφ hcl hkp hd K hK
                have e8 := hold 8 (by kernel_rfl)
                clear hold hφ hcl hkp hd
                rw [if_pos (by rfl)]
                go_simp
                exact hK _ _ (Only.refl _ _) rfl
              · intro a W L N hR hold hφ hcl hkp hd K hK
                have e1 := hold 1 (by kernel_rfl)
                clear hold hφ hcl hkp hd
                rw [if_pos (by rfl)]
                go_simp
                exact hK _ _ (Only.refl _ _) rfl
              · intro a W L N hR hold hφ hcl hkp hd K hK
                have e9 := hold 9 (by kernel_rfl)
                clear hold hφ hcl hkp hd
                rw [if_pos (by rfl)]
                go_simp
                exact hK _ _ (Only.refl _ _) rfl
              · intro a W L N hR hold hφ hcl hkp hd K hK
                have e34 := got hφ (hd 1 (by kernel_rfl)) rfl rfl rfl
                have e35 := got hφ (hd 2 (by kernel_rfl)) rfl rfl rfl
                clear hold hφ hcl hkp hd
                rw [if_pos (by rfl)]
                go_simp
                exact hK _ _ (Only.refl _ _) rfl
              · intro a W L N hR hold hφ hcl hkp hd K hK
                have e36 := got hφ (hd 3 (by kernel_rfl)) rfl rfl rfl
                have hcl0 := Hcl.out W (Only.plus hdr hR)
                have hbW := Nat.lt_of_lt_of_le hb (Only.plus hwq (Only.plus hdr hR)).size
                clear hold hφ hcl hkp hd
                rw [if_pos (by rfl)]
                go_simp
                exact hK _ _ (Only.refl _ _) rfl
              · intro a W L N hR hold hφ hcl hkp hd K hK
                have e0 := hold 0 (by kernel_rfl)
                clear hold hφ hcl hkp hd
                rw [if_pos (by rfl)]
                go_simp
                exact hK _ _ (Only.refl _ _) rfl
              · intro a W L N hR hold hφ hcl hkp hd K hK
                have e38 := got hφ (hd 5 (by kernel_rfl)) rfl rfl rfl
                clear hold hφ hcl hkp hd
                rw [if_pos (by rfl)]
                go_simp
                exact hK _ _ (Only.refl _ _) rfl
              · intro a W L N hR hold hφ hcl hkp hd K hK
                have e37 := got hφ (hd 4 (by kernel_rfl)) rfl rfl rfl
                have e39 := got hφ (hd 6 (by kernel_rfl)) rfl rfl rfl
                clear hold hφ hcl hkp hd
                rw [if_pos (by rfl)]
                go_simp
                refine (within8_to W x ((j : Int) + 2) (by omega) (by omega)).mono ?_
                rintro e w' ⟨rfl, rfl⟩
                rw [HK1.out]
                exact hK _ _ (Only.refl _ _) rfl
              · intro a W L N hR hold hφ hcl hkp hd K hK
                have e40 := got hφ (hd 7 (by kernel_rfl)) rfl rfl rfl
                clear hold hφ hcl hkp hd
                rw [if_pos (by rfl)]
                go_simp
                exact hK _ _ (Only.refl _ _) rfl
              · intro a W L N hR hold hφ hcl hkp hd K hK
                have e41 := got hφ (hd 8 (by kernel_rfl)) rfl rfl rfl
                clear hold hφ hcl hkp hd
                rw [if_pos (by rfl)]
                go_simp
                exact hK _ _ (Only.refl _ _) rfl
              · intro a W L N hR hold hφ hcl hkp hd K hK
                have e42 := got hφ (hd 9 (by kernel_rfl)) rfl rfl rfl
                clear hold hφ hcl hkp hd
                rw [if_pos (by rfl)]
                go_simp
                exact hK _ _ ((Only.refl _ _).alloc _) ⟨_, rfl, IsBlk.made W _⟩
              · intro a W L N hR hold hφ hcl hkp hd K hK
                obtain ⟨uq, e43, q0, p0, b0⟩ := gotP hφ (hd 10 (by kernel_rfl)) rfl rfl rfl
                have p0 : uq = .slice (some ⟨q0, 0, none⟩) 1 1 := p0
                subst p0
                have hcv := conv8_str W q0 (byte8 k1) _ (Hu1.out) b0
                clear hold hφ hcl hkp hd
                rw [if_pos (by rfl)]
                go_simp
                exact hK _ _ (Only.refl _ _) rfl
              · intro a W L N hR hold hφ hcl hkp hd K hK
                have e1 := hold 1 (by kernel_rfl)
                clear hold hφ hcl hkp hd
                rw [if_pos (by rfl)]
                go_simp
                exact hK _ _ (Only.refl _ _) rfl
              · intro a W L N hR hold hφ hcl hkp hd K hK
                have e9 := hold 9 (by kernel_rfl)
                clear hold hφ hcl hkp hd
                rw [if_pos (by rfl)]
                go_simp
                exact hK _ _ (Only.refl _ _) rfl
              · intro a W L N hR hold hφ hcl hkp hd K hK
                have e45 := got hφ (hd 12 (by kernel_rfl)) rfl rfl rfl
                have e46 := got hφ (hd 13 (by kernel_rfl)) rfl rfl rfl
                clear hold hφ hcl hkp hd
                rw [if_pos (by rfl)]
                go_simp
                exact hK _ _ (Only.refl _ _) rfl
              · intro a W L N hR hold hφ hcl hkp hd K hK
                have e47 := got hφ (hd 14 (by kernel_rfl)) rfl rfl rfl
                have hcl0 := Hcl.out W (Only.plus hdr hR)
                have hbW := Nat.lt_of_lt_of_le hb (Only.plus hwq (Only.plus hdr hR)).size
                clear hold hφ hcl hkp hd
                rw [if_pos (by rfl)]
                go_simp
                exact hK _ _ (Only.refl _ _) rfl
              · intro a W L N hR hold hφ hcl hkp hd K hK
                have e48 := got hφ (hd 15 (by kernel_rfl)) rfl rfl rfl
                clear hold hφ hcl hkp hd
                rw [if_pos (by rfl)]
                go_simp
                exact hK _ _ (Only.refl _ _) rfl
              · intro a W L N hR hold hφ hcl hkp hd K hK
                have e0 := hold 0 (by kernel_rfl)
                clear hold hφ hcl hkp hd
                rw [if_pos (by rfl)]
                go_simp
                exact hK _ _ (Only.refl _ _) rfl
              · intro a W L N hR hold hφ hcl hkp hd K hK
                have e50 := got hφ (hd 17 (by kernel_rfl)) rfl rfl rfl
                clear hold hφ hcl hkp hd
                rw [if_pos (by rfl)]
                go_simp
                exact hK _ _ (Only.refl _ _) rfl
              · intro a W L N hR hold hφ hcl hkp hd K hK
                have e49 := got hφ (hd 16 (by kernel_rfl)) rfl rfl rfl
                have e51 := got hφ (hd 18 (by kernel_rfl)) rfl rfl rfl
                clear hold hφ hcl hkp hd
                rw [if_pos (by rfl)]
                go_simp
                refine (within8_to W y ((j : Int) + 2) (by omega) (by omega)).mono ?_
                rintro e w' ⟨rfl, rfl⟩
                rw [HK2.out]
                exact hK _ _ (Only.refl _ _) rfl
              · intro a W L N hR hold hφ hcl hkp hd K hK
                have e52 := got hφ (hd 19 (by kernel_rfl)) rfl rfl rfl
                clear hold hφ hcl hkp hd
                rw [if_pos (by rfl)]
                go_simp
                exact hK _ _ (Only.refl _ _) rfl
              · intro a W L N hR hold hφ hcl hkp hd K hK
                have e53 := got hφ (hd 20 (by kernel_rfl)) rfl rfl rfl
                clear hold hφ hcl hkp hd
                rw [if_pos (by rfl)]
                go_simp
                exact hK _ _ (Only.refl _ _) rfl
              · intro a W L N hR hold hφ hcl hkp hd K hK
                have e54 := got hφ (hd 21 (by kernel_rfl)) rfl rfl rfl
                clear hold hφ hcl hkp hd
                rw [if_pos (by rfl)]
                go_simp
                exact hK _ _ ((Only.refl _ _).alloc _) ⟨_, rfl, IsBlk.made W _⟩
              · intro a W L N hR hold hφ hcl hkp hd K hK
                obtain ⟨uq, e55, q0, p0, b0⟩ := gotP hφ (hd 22 (by kernel_rfl)) rfl rfl rfl
                have p0 : uq = .slice (some ⟨q0, 0, none⟩) 1 1 := p0
                subst p0
                have hcv := conv8_str W q0 (byte8 k2) _ (Hu2.out) b0
                clear hold hφ hcl hkp hd
                rw [if_pos (by rfl)]
                go_simp
                exact hK _ _ (Only.refl _ _) rfl
              · intro a W L N hR hold hφ hcl hkp hd K hK
                have e44 := got hφ (hd 11 (by kernel_rfl)) rfl rfl rfl
                have e56 := got hφ (hd 23 (by kernel_rfl)) rfl rfl rfl
                clear hold hφ hcl hkp hd
                rw [if_pos (by rfl)]
                go_simp
                exact hK _ _ (Only.refl _ _) rfl
              · intro a W L N hR hold hφ hcl hkp hd K hK
                have e57 := got hφ (hd 24 (by kernel_rfl)) rfl rfl rfl
                clear hold hφ hcl hkp hd
                rw [if_pos (by rfl)]
                go_simp
                exact hK _ _ ((Only.refl _ _).alloc _) ⟨_, rfl, IsBlk.made W _⟩
            · intro us W hO' hus
              obtain ⟨q58, p58, b58⟩ := hus 25 _ 58 (by omega) rfl rfl
              have q33 : us 0 = u8 := hus 0 _ 33 (by omega) rfl rfl
              clear hus
              simp only [List.take_succ_cons, List.take_zero, List.drop_succ_cons, List.drop_zero, fillAct, Act.put, List.setIfInBounds_toArray, List.set_cons_zero, List.set_cons_succ, Nat.reduceAdd, p58, q33]
              clear p58 q33
              have hOW := Only.plus hdr hO'
              have HOW := Lib.hid hOW
              have hsW : w2.heap.size ≤ W.heap.size := (HO.out.plus hOW).size
              have d0 := b58.cell 0
              have d1 := b58.cell 1
              clear hO' hOW
              go_wp2_with
               (at_builtin
                refine wpList_append_e rfl _ _ rfl w2.heap.size u8 ((ns.take k).map (edge8 j)) rfl (owns_off Hoe.out HOW.out (by simp)) q58 1 (edge8 j x) rfl (by rw [Hed.out]; exact d0) (by rw [Hed.out]; exact d1) hmk hsW ?_
                intro v' w5 k5 kO)
              go_roundw
              case rel => exact ⟨k + 1, by go_num, by omega, by omega, by rw [Htk.out]; exact k5, (HO.out.plus HOW.out).then kO [] (by simp) (fun i hi => .inr (World.ownsRow.lt Hoe.out i (mem_ownL.1 hi)).1)⟩
              case measure => simp [intOf]; omega
          · have hki4 : ¬ (k : Int) < 40 := by omega
            obtain rfl : k = 40 := by omega
            go_wp2
            go_ret2
            refine ⟨vN, u8, rfl, How.out.off HO.out (by simp), ?_, HOn.out.plus HO.out⟩
            have := Hoe.out
            exact owns_base this hws
        · have hki : ¬ (k : Int) < (ns.length : Int) := by omega
          obtain rfl : k = ns.length := by omega
          go_wp2
          go_ret2
          refine ⟨vN, u8, rfl, How.out.off HO.out (by simp), ?_, HOn.out.plus HO.out⟩
          have := Hoe.out
          rw [show ns.take ns.length = ns.take 40 by rw [List.take_length, List.take_of_length_le hk40]] at this
          exact owns_base this hws

end Go.Proofs.Ytgkddbpfjbgelaa
