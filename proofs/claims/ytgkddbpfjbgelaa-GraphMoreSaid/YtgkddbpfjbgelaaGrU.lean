/-
  The document's With, where the name comes behind all that there are.
-/
import Derived.Test.YtgkddbpfjbgelaaGrT
import Derived.Deep.RegionHeld3
namespace Go.Proofs.Ytgkddbpfjbgelaa
set_option maxRecDepth 100000
set_option linter.unusedVariables false
open Go.RowKit Go.Sort Go.Maps

theorem run_append_void8 {P : Program} (w : World) (t ty e : TypeId) (i : TypeInfo) (ht : P.underlying t = some (.slice e)) (hi : P.info? e = some i) (a : Option Addr) (n c : Nat) (h : n ≤ c) :
    (Builtin.append_ #[t, t] ty #[.slice a n c, .slice none 0 0]).run P w = .ok (.slice a n c) w := by
  cases a with
  | none => simp [Builtin.append_, run_underlying ht, sizeOf, typeInfo, hi, Builtin.lenOf, Builtin.firstCells, Result.andThen, h]
  | some a => simp [Builtin.append_, run_underlying ht, sizeOf, typeInfo, hi, Builtin.lenOf, Builtin.firstCells, Result.andThen, h, storeCells]
theorem wp_append_n8 {w : World} {o : Oper} {a : Act} {K : Act → World → Prop} {Q : Exit → Act → World → Prop} (s x : Operand)
    (ho : o.op = .call { callee := .builtin .append, args := #[s, x], argTypes := #[24, 24] })
    (base : Nat) (v : Value) (L : List Nam) (hs : a.eval s = v) (hown : OwnN w base v L) (ad : Option Addr) (m c : Nat) (M : List Nam) (hx : a.eval x = .slice ad m c) (hm : M.length = m)
    (hc : (ad = none ∧ m = 0 ∧ c = 0) ∨ ∃ A, ad = some A ∧ ∀ (j : Nat) (u : Value), (M.map encStr)[j]? = some u → w.cell? (A.add j) = some u)
    (hl : L.length ≤ 1000000) (hml : M.length ≤ 1000000) (hbase : base ≤ w.heap.size)
    (h : ∀ v' w', OwnN w' base v' (L ++ M) → Only (ownL v) w w' → (v'.ownBlock = v.ownBlock ∨ v'.ownBlock = some w.heap.size) → K (a.put o.dst v') w') : o.wp Try.prog a w K Q := by
  obtain ⟨i0, hi, hz0, hz1, hz2⟩ := info_parts infoT8
  rcases hc with ⟨rfl, rfl, rfl⟩ | ⟨A, rfl, hcell⟩
  · obtain rfl : M = [] := List.eq_nil_of_length_eq_zero hm
    rw [List.append_nil] at h
    have hown' := hown
    obtain ⟨av, cv, rfl⟩ := owns_slice hown
    have hcv : L.length ≤ cv := by
      rcases hown.2 with ⟨e1, e2⟩ | ⟨g, cap, cur, e1, -, -, hc, -⟩
      · omega
      · injection e1 with _ _ e3; omega
    have hr := run_append_void8 (P := Try.prog) w 24 o.type 9 i0 Try.underlying24 hi av L.length cv hcv
    unfold Oper.wp execOp
    simp only [ho, resolve, invoke, builtin, Sem.run_bind, Sem.run_pure, Result.andThen_ok, List.map_toArray, List.map_cons, List.map_nil, hs, hx, hr]
    exact h _ w hown' (Only.refl _ _) (.inl rfl)
  · obtain ⟨v', w', hr', k2, k3, k4, k5⟩ := run_append_own_at (P := Try.prog) w base 24 o.type 9 i0 _ 1 16 Try.underlying24 hi hz0 hz1 hz2 rfl (by decide) v L.length _ hown A m c (M.map encStr) (by simp [hm]) hcell (fun u hu => by
        obtain ⟨y, -, rfl⟩ := List.mem_map.1 hu
        rfl) (by unfold maxLen; omega) (by omega) hbase
    unfold Oper.wp execOp
    simp only [ho, resolve, invoke, builtin, Sem.run_bind, Sem.run_pure, Result.andThen_ok, List.map_toArray, List.map_cons, List.map_nil, hs, hx, hr']
    refine h v' w' ?_ (grown_only k3) k5
    unfold OwnN
    rw [List.length_append, List.map_append, hm]
    exact k2

theorem bytesLess_lt : ∀ {a b : Nam}, a < b → Op.bytesLess a b = true
  | [], [], h => absurd h (List.lt_irrefl _)
  | [], _ :: _, _ => rfl
  | _ :: _, [], h => by cases h
  | a :: x, b :: y, h => by
    rw [List.cons_lt_cons_iff] at h
    rcases h with h | ⟨rfl, h⟩
    · simp [Op.bytesLess, h]
    · simp [Op.bytesLess, bytesLess_lt h]
theorem one_cells {w : World} {g : Nat} {s : Nam} {t : TypeId} (h : IsBlk w g (.cells #[.string ⟨s.toArray⟩] t)) : ∀ (j : Nat) (u : Value), ([s].map encStr)[j]? = some u → w.cell? ((⟨g, 0, none⟩ : Addr).add j) = some u := by
  intro j u hu
  match j, hu with
  | 0, hu =>
    simp at hu
    rw [← hu, Addr.add_mid]
    exact h.cell 0
  | j + 1, hu => simp at hu
/-- An empty row that is not nil. -/
theorem ownN_void {w : World} {g base : Nat} (hb : base ≤ g) (h : IsBlk w g (.cells #[] 9)) : OwnN w base (.slice (some ⟨g, 0, none⟩) 0 0) [] :=
  ⟨rfl, .inr ⟨g, 0, #[], rfl, hb, h, Nat.le_refl _, by unfold maxLen; omega, rfl, rfl⟩⟩

def WithTo (w : World) (l : List Nam) (s : Nam) (r : Ending) (w' : World) : Prop := ∃ v, r = .returned v ∧ OwnN w' w.heap.size v (l ++ [s]) ∧ Only [] w w'

set_option maxHeartbeats 16000000 in
theorem with8_more (w : World) (g c : Nat) (l : List Nam) (s : Nam) (hg : g < w.heap.size) (hcl : ∀ (i : Nat) (t : Nam), l[i]? = some t → w.cell? ⟨g, i, none⟩ = some (encStr t)) (h0 : 0 < l.length) (hc : l.length ≤ c) (hlt : ∀ t ∈ l, t < s) (hln : l.length ≤ 100000) : Calls Try.prog 20 #[.slice (some ⟨g, 0, none⟩) l.length c, encStr s] w (WithTo w l s) := by
  have hin := in8_any w (.slice (some ⟨g, 0, none⟩) l.length c) l s ⟨_, c, rfl, fun _ => ⟨g, rfl, hg, hcl⟩⟩ (by omega)
  rw [decide_eq_false (fun h => List.lt_irrefl _ (hlt s h))] at hin
  have Hin := Lib.hid hin
  have Hlt := Lib.hid hlt
  have Hcl := Lib.hid hcl
  clear hin hlt hcl
  unfold encStr at Hin Hcl
  unfold encStr
  go_enter Try.func20, Try.ntmps20
  go_wp2_with fail
  refine (Hin.out).mono ?_
  rintro e w3 ⟨rfl, rfl⟩
  go_wp2_with fail
  go_loopw [5] (fun iv wr => ∃ k : Nat, iv = .int .i64 k ∧ k ≤ l.length ∧ w = wr) (fun iv _ => l.length - (intOf iv).toNat)
  case atStart => exact ⟨0, rfl, Nat.zero_le _, rfl⟩
  case round =>
    obtain ⟨k, rfl, hk, rfl⟩ := hrel
    by_cases hkl : k < l.length
    · have hki : (k : Int) < (l.length : Int) := by omega
      have hk0 : (0 : Int) ≤ (k : Int) := by omega
      obtain ⟨x, hx⟩ : ∃ x, l[k]? = some x := ⟨l[k], by simp [hkl]⟩
      have d1 := Hcl.out k x hx
      have hbl : Op.bytesLess x s = true := by
        have := Hlt.out x (List.mem_of_getElem? hx)
        exact bytesLess_lt this
      clear hx
      go_wp2_with fail
      go_roundw
      case rel => exact ⟨k + 1, by go_num, by omega, trivial⟩
      case measure => simp [intOf]; omega
    · have hki : ¬ (k : Int) < (l.length : Int) := by omega
      obtain rfl : k = l.length := by omega
      go_wp2_with fail
      go_upto_region 6 with fail
      have hOA : Only [] w (w.alloc (.cells #[] 9)).drew := ((Only.refl [] w).alloc _).drew
      have hOB : Only [] w ((w.alloc (.cells #[] 9)).alloc (.cells #[.string ⟨s.toArray⟩] 9)).drew := (((Only.refl [] w).alloc _).alloc _).drew
      have hOC : Only [] w ((w.alloc (.cells #[.string ⟨s.toArray⟩] 9)).alloc (.cells #[] 9)).drew := (((Only.refl [] w).alloc _).alloc _).drew
      have HOA := Lib.hid hOA
      have HOB := Lib.hid hOB
      have HOC := Lib.hid hOC
      have HEA : Hid (IsBlk (w.alloc (.cells #[] 9)).drew w.heap.size (.cells #[] 9)) := Lib.hid ((IsBlk.made w _).drew)
      have HEB : Hid (IsBlk ((w.alloc (.cells #[] 9)).alloc (.cells #[.string ⟨s.toArray⟩] 9)).drew w.heap.size (.cells #[] 9)) := Lib.hid (((IsBlk.made w _).alloc _).drew)
      have HSB : Hid (IsBlk ((w.alloc (.cells #[] 9)).alloc (.cells #[.string ⟨s.toArray⟩] 9)).drew (w.heap.size + 1) (.cells #[.string ⟨s.toArray⟩] 9)) := Lib.hid (by
        have := (IsBlk.made (w.alloc (.cells #[] 9)) (.cells #[.string ⟨s.toArray⟩] 9)).drew
        rw [World.size_alloc] at this
        exact this)
      have HEC : Hid (IsBlk ((w.alloc (.cells #[.string ⟨s.toArray⟩] 9)).alloc (.cells #[] 9)).drew (w.heap.size + 1) (.cells #[] 9)) := Lib.hid (by
        have := (IsBlk.made (w.alloc (.cells #[.string ⟨s.toArray⟩] 9)) (.cells #[] 9)).drew
        rw [World.size_alloc] at this
        exact this)
      have HSC : Hid (IsBlk ((w.alloc (.cells #[.string ⟨s.toArray⟩] 9)).alloc (.cells #[] 9)).drew w.heap.size (.cells #[.string ⟨s.toArray⟩] 9)) := Lib.hid (((IsBlk.made w _).alloc _).drew)
      clear hOA hOB hOC
      go_region_held3 (fun _ => True) (trivial)
        (first
          | (rw [if_pos (by rfl)]
             refine wp_append_n8 _ _ rfl w.heap.size v6 (l ++ [s]) rfl h6 _ 0 (c - l.length) [] rfl rfl (.inr ⟨if c = l.length then ⟨g, 0, none⟩ else ⟨g, l.length, none⟩, by split <;> rfl, fun j u hu => by simp at hu⟩) (by simp; omega) (by simp) hw6.size ?_
             intro v7 w7 h7 hO7 hT7
             have hw7 : Only [] w w7 := hw6.then hO7 [] (by simp) (fun i hi => .inr (World.ownsRow.lt h6 i (mem_ownL.1 hi)).1))
          | (rw [if_pos (by rfl)]
             refine wp_append_n8 _ _ rfl w.heap.size v5 l rfl h5 (some ⟨_, 0, none⟩) 1 1 [s] rfl rfl (.inr ⟨_, rfl, one_cells hS5⟩) (by omega) (by simp) hw5.size ?_
             intro v6 w6 h6 hO6 hT6
             have hw6 : Only [] w w6 := hw5.then hO6 [] (by simp) (fun i hi => .inr (World.ownsRow.lt h5 i (mem_ownL.1 hi)).1))
          | (rw [if_pos (by rfl)]
             have hO6a : Only [] w5 (w5.alloc (.cells #[.string ⟨s.toArray⟩] 9)) := (Only.refl [] w5).alloc _
             have h5a := OwnN.off h5 hO6a (by simp)
             have hw5a : w.heap.size ≤ (w5.alloc (.cells #[.string ⟨s.toArray⟩] 9)).heap.size := by have := hw5.size; simp; omega
             have hb5 := IsBlk.made w5 (.cells #[.string ⟨s.toArray⟩] 9)
             refine wp_append_n8 _ _ rfl w.heap.size v5 l rfl h5a (some ⟨w5.heap.size, 0, none⟩) 1 1 [s] rfl rfl (.inr ⟨_, rfl, one_cells hb5⟩) (by omega) (by simp) hw5a ?_
             intro v6 w6 h6 hO6 hT6
             have hw6 : Only [] w w6 := (hw5.alloc _).then hO6 [] (by simp) (fun i hi => .inr (World.ownsRow.lt h5 i (mem_ownL.1 hi)).1))
          | (rw [if_pos (by rfl)]
             refine wp_append_n8 _ _ rfl w.heap.size (.slice (some ⟨w.heap.size, 0, none⟩) 0 0) [] rfl (ownN_void (by omega) HEA.out) (some ⟨g, 0, none⟩) l.length c l rfl rfl (.inr ⟨_, rfl, fun j u hu => ?_⟩) (by simp) (by omega) HOA.out.size ?_
             · obtain ⟨t, ht, rfl⟩ : ∃ t, l[j]? = some t ∧ encStr t = u := by simpa using hu
               rw [Addr.add_mid, Nat.zero_add]
               exact (HOA.out.cell (p := ⟨g, j, none⟩) hg (by simp)).trans (Hcl.out j t ht)
             intro v5 w5 h5 hO5 hT5
             have hw5 : Only [] w w5 := HOA.out.then hO5 [] (by simp) (fun i hi => .inr (by simp [ownL, Value.ownBlock] at hi; omega)))
          | (rw [if_pos (by rfl)]
             refine wp_append_n8 _ _ rfl w.heap.size (.slice (some ⟨w.heap.size, 0, none⟩) 0 0) [] rfl (ownN_void (by omega) HEB.out) (some ⟨g, 0, none⟩) l.length c l rfl rfl (.inr ⟨_, rfl, fun j u hu => ?_⟩) (by simp) (by omega) HOB.out.size ?_
             · obtain ⟨t, ht, rfl⟩ : ∃ t, l[j]? = some t ∧ encStr t = u := by simpa using hu
               rw [Addr.add_mid, Nat.zero_add]
               exact (HOB.out.cell (p := ⟨g, j, none⟩) hg (by simp)).trans (Hcl.out j t ht)
             intro v5 w5 h5 hO5 hT5
             have hw5 : Only [] w w5 := HOB.out.then hO5 [] (by simp) (fun i hi => .inr (by simp [ownL, Value.ownBlock] at hi; omega))
             have hS5 := IsBlk.only HSB.out hO5 (by simp [ownL, Value.ownBlock]))
          | (rw [if_pos (by rfl)]
             refine wp_append_n8 _ _ rfl w.heap.size (.slice (some ⟨(w.heap.size + 1), 0, none⟩) 0 0) [] rfl (ownN_void (by omega) HEC.out) (some ⟨g, 0, none⟩) l.length c l rfl rfl (.inr ⟨_, rfl, fun j u hu => ?_⟩) (by simp) (by omega) HOC.out.size ?_
             · obtain ⟨t, ht, rfl⟩ : ∃ t, l[j]? = some t ∧ encStr t = u := by simpa using hu
               rw [Addr.add_mid, Nat.zero_add]
               exact (HOC.out.cell (p := ⟨g, j, none⟩) hg (by simp)).trans (Hcl.out j t ht)
             intro v5 w5 h5 hO5 hT5
             have hw5 : Only [] w w5 := HOC.out.then hO5 [] (by simp) (fun i hi => .inr (by simp [ownL, Value.ownBlock] at hi; omega))
             have hS5 := IsBlk.only HSC.out hO5 (by simp [ownL, Value.ownBlock])))
      all_goals
        go_wp2
        all_goals
          go_ret
          exact ⟨_, rfl, by simpa using h7, hw7⟩

/-- With, of none. -/
def NilOr (w : World) (v : Value) (l : List Nam) : Prop := (l = [] ∧ v = .slice none 0 0) ∨ 0 < l.length ∧ ∃ g c, v = .slice (some ⟨g, 0, none⟩) l.length c ∧ l.length ≤ c ∧ g < w.heap.size ∧ ∀ (i : Nat) (t : Nam), l[i]? = some t → w.cell? ⟨g, i, none⟩ = some (encStr t)
theorem OwnN.nilOr {w : World} {base : Nat} {v : Value} {l : List Nam} (h : OwnN w base v l) (h0 : 0 < l.length) : NilOr w v l := by
  obtain ⟨a, c, e, h2⟩ := h.nams
  obtain ⟨g, rfl, hg, hc⟩ := h2 h0
  refine .inr ⟨h0, g, c, e, ?_, hg, hc⟩
  rcases h.2 with ⟨e1, e2⟩ | ⟨g', cap, cur, e1, hb, hg', hcap, -⟩
  · omega
  · rw [e] at e1
    injection e1 with _ _ e3
    omega

set_option maxHeartbeats 16000000 in
theorem with8_nil (w : World) (s : Nam) : Calls Try.prog 20 #[.slice none 0 0, encStr s] w (WithTo w [] s) := by
  have hin := in8_any w (.slice none 0 0) [] s ⟨none, 0, rfl, fun h => by simp at h⟩ (by simp)
  rw [decide_eq_false (by simp)] at hin
  have Hin := Lib.hid hin
  clear hin
  unfold encStr at Hin
  unfold encStr
  go_enter Try.func20, Try.ntmps20
  go_wp2_with fail
  refine (Hin.out).mono ?_
  rintro e w3 ⟨rfl, rfl⟩
  go_wp2_with fail
  go_loopw [5] (fun iv wr => iv = .int .i64 0 ∧ w = wr) (fun _ _ => 0)
  case atStart => exact ⟨rfl, rfl⟩
  case round =>
    obtain ⟨rfl, rfl⟩ := hrel
    go_wp2_with fail
    go_upto_region 6 with fail
    have hOA : Only [] w (w.alloc (.cells #[] 9)).drew := ((Only.refl [] w).alloc _).drew
    have hOB : Only [] w ((w.alloc (.cells #[] 9)).alloc (.cells #[.string ⟨s.toArray⟩] 9)).drew := (((Only.refl [] w).alloc _).alloc _).drew
    have hOC : Only [] w ((w.alloc (.cells #[.string ⟨s.toArray⟩] 9)).alloc (.cells #[] 9)).drew := (((Only.refl [] w).alloc _).alloc _).drew
    have HOA := Lib.hid hOA
    have HOB := Lib.hid hOB
    have HOC := Lib.hid hOC
    have HEA : Hid (IsBlk (w.alloc (.cells #[] 9)).drew w.heap.size (.cells #[] 9)) := Lib.hid ((IsBlk.made w _).drew)
    have HEB : Hid (IsBlk ((w.alloc (.cells #[] 9)).alloc (.cells #[.string ⟨s.toArray⟩] 9)).drew w.heap.size (.cells #[] 9)) := Lib.hid (((IsBlk.made w _).alloc _).drew)
    have HSB : Hid (IsBlk ((w.alloc (.cells #[] 9)).alloc (.cells #[.string ⟨s.toArray⟩] 9)).drew (w.heap.size + 1) (.cells #[.string ⟨s.toArray⟩] 9)) := Lib.hid (by
      have := (IsBlk.made (w.alloc (.cells #[] 9)) (.cells #[.string ⟨s.toArray⟩] 9)).drew
      rw [World.size_alloc] at this
      exact this)
    have HEC : Hid (IsBlk ((w.alloc (.cells #[.string ⟨s.toArray⟩] 9)).alloc (.cells #[] 9)).drew (w.heap.size + 1) (.cells #[] 9)) := Lib.hid (by
      have := (IsBlk.made (w.alloc (.cells #[.string ⟨s.toArray⟩] 9)) (.cells #[] 9)).drew
      rw [World.size_alloc] at this
      exact this)
    have HSC : Hid (IsBlk ((w.alloc (.cells #[.string ⟨s.toArray⟩] 9)).alloc (.cells #[] 9)).drew w.heap.size (.cells #[.string ⟨s.toArray⟩] 9)) := Lib.hid (((IsBlk.made w _).alloc _).drew)
    clear hOA hOB hOC
    go_region_held3 (fun _ => True) (trivial)
      (first
        | (rw [if_pos (by rfl)]
           refine wp_append_n8 _ _ rfl w.heap.size v6 ([] ++ [s]) rfl h6 none 0 0 [] rfl rfl (.inl ⟨rfl, rfl, rfl⟩) (by simp) (by simp) hw6.size ?_
           intro v7 w7 h7 hO7 hT7
           have hw7 : Only [] w w7 := hw6.then hO7 [] (by simp) (fun i hi => .inr (World.ownsRow.lt h6 i (mem_ownL.1 hi)).1))
        | (rw [if_pos (by rfl)]
           refine wp_append_n8 _ _ rfl w.heap.size v5 [] rfl h5 (some ⟨_, 0, none⟩) 1 1 [s] rfl rfl (.inr ⟨_, rfl, one_cells hS5⟩) (by simp) (by simp) hw5.size ?_
           intro v6 w6 h6 hO6 hT6
           have hw6 : Only [] w w6 := hw5.then hO6 [] (by simp) (fun i hi => .inr (World.ownsRow.lt h5 i (mem_ownL.1 hi)).1))
        | (rw [if_pos (by rfl)]
           have hO6a : Only [] w5 (w5.alloc (.cells #[.string ⟨s.toArray⟩] 9)) := (Only.refl [] w5).alloc _
           have h5a := OwnN.off h5 hO6a (by simp)
           have hw5a : w.heap.size ≤ (w5.alloc (.cells #[.string ⟨s.toArray⟩] 9)).heap.size := by have := hw5.size; simp; omega
           have hb5 := IsBlk.made w5 (.cells #[.string ⟨s.toArray⟩] 9)
           refine wp_append_n8 _ _ rfl w.heap.size v5 [] rfl h5a (some ⟨w5.heap.size, 0, none⟩) 1 1 [s] rfl rfl (.inr ⟨_, rfl, one_cells hb5⟩) (by simp) (by simp) hw5a ?_
           intro v6 w6 h6 hO6 hT6
           have hw6 : Only [] w w6 := (hw5.alloc _).then hO6 [] (by simp) (fun i hi => .inr (World.ownsRow.lt h5 i (mem_ownL.1 hi)).1))
        | (rw [if_pos (by rfl)]
           refine wp_append_n8 _ _ rfl w.heap.size (.slice (some ⟨w.heap.size, 0, none⟩) 0 0) [] rfl (ownN_void (by omega) HEA.out) none 0 0 [] rfl rfl (.inl ⟨rfl, rfl, rfl⟩) (by simp) (by simp) HOA.out.size ?_
           intro v5 w5 h5 hO5 hT5
           have hw5 : Only [] w w5 := HOA.out.then hO5 [] (by simp) (fun i hi => .inr (by simp [ownL, Value.ownBlock] at hi; omega)))
        | (rw [if_pos (by rfl)]
           refine wp_append_n8 _ _ rfl w.heap.size (.slice (some ⟨w.heap.size, 0, none⟩) 0 0) [] rfl (ownN_void (by omega) HEB.out) none 0 0 [] rfl rfl (.inl ⟨rfl, rfl, rfl⟩) (by simp) (by simp) HOB.out.size ?_
           intro v5 w5 h5 hO5 hT5
           have hw5 : Only [] w w5 := HOB.out.then hO5 [] (by simp) (fun i hi => .inr (by simp [ownL, Value.ownBlock] at hi; omega))
           have hS5 := IsBlk.only HSB.out hO5 (by simp [ownL, Value.ownBlock]))
        | (rw [if_pos (by rfl)]
           refine wp_append_n8 _ _ rfl w.heap.size (.slice (some ⟨(w.heap.size + 1), 0, none⟩) 0 0) [] rfl (ownN_void (by omega) HEC.out) none 0 0 [] rfl rfl (.inl ⟨rfl, rfl, rfl⟩) (by simp) (by simp) HOC.out.size ?_
           intro v5 w5 h5 hO5 hT5
           have hw5 : Only [] w w5 := HOC.out.then hO5 [] (by simp) (fun i hi => .inr (by simp [ownL, Value.ownBlock] at hi; omega))
           have hS5 := IsBlk.only HSC.out hO5 (by simp [ownL, Value.ownBlock])))
    all_goals
      go_wp2
      all_goals
        go_ret
        exact ⟨_, rfl, by simpa using h7, hw7⟩

theorem with8_any (w : World) (v : Value) (l : List Nam) (s : Nam) (h : NilOr w v l) (hlt : ∀ t ∈ l, t < s) (hln : l.length ≤ 100000) : Calls Try.prog 20 #[v, encStr s] w (WithTo w l s) := by
  rcases h with ⟨rfl, rfl⟩ | ⟨h0, g, c, rfl, hc, hg, hcl⟩
  · exact with8_nil w s
  · exact with8_more w g c l s hg hcl h0 hc hlt hln

end Go.Proofs.Ytgkddbpfjbgelaa
