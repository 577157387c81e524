/-
  Rows of statements of one's own, appended to; what the document's body answers.
-/
import Derived.Test.YtildkedplmjdaaaGreatDoorNaA
import Derived.Test.YtildkedplmjdaaaGreatDoorNbJ
import Derived.Test.YtildkedplmjdaaaGreatDoorStab
namespace Go.Proofs.YtildkedplmjdaaaGreatDoor
set_option maxRecDepth 100000
set_option linter.unusedVariables false
open Go.RowKit Go.Sort

def fdM (f : FuncM) : DeclM := ⟨f.name, f.at_⟩
def allD (P : ProgM) : List DeclM := P.vars ++ (P.locks ++ P.funcs.map fdM)
def twiceD : List DeclM → List DeclM → Option Nat
  | _, [] => none
  | s, d :: r => if s.any (fun x => x.name == d.name) then some d.at_ else twiceD (s ++ [d]) r
def isD (P : ProgM) (k : Nat) (n : List UInt8) : Bool :=
  if k = 1 ∨ k = 2 then P.vars.any (fun d => d.name == n) else if k = 3 ∨ k = 4 then P.locks.any (fun d => d.name == n) else if k = 5 ∨ k = 6 then (P.funcs.map fdM).any (fun d => d.name == n) else true
def lookC (P : ProgM) : Blk → Option Nat
  | .nil => none
  | .cons k p n a b r => if isD P k n = false then some p else (lookC P a).or ((lookC P b).or (lookC P r))
def lookCF (P : ProgM) : List FuncM → Option Nat
  | [] => none
  | d :: r => (lookC P d.body).or (lookCF P r)
def checkD (P : ProgM) : Nat × Nat :=
  if longM P then (0, 2)
  else match twiceD [] (allD P) with
    | some p => (p, 9)
    | none => match lookCF P P.funcs with
      | some p => (p, 10)
      | none => if (P.funcs.map fdM).any (fun d => d.name == main7) then (0, 0) else (0, 11)

theorem lookC_app (P : ProgM) : ∀ a b : Blk, lookC P (a.app b) = (lookC P a).or (lookC P b)
  | .nil, b => by simp [Blk.app, lookC]
  | .cons k p n x y r, b => by
    rw [Blk.app, lookC, lookC, lookC_app P r b]
    split
    · simp
    · simp [Option.or_assoc]
def toD (d : Dcl) : DeclM := ⟨d.1, d.2.1⟩
theorem any_mem (s : List Dcl) (n : List UInt8) : (s.map toD).any (fun x => x.name == n) = decide (n ∈ s.map (·.1)) := by
  induction s with
  | nil => simp
  | cons d s ih =>
    rw [List.map_cons, List.any_cons, ih, List.map_cons]
    by_cases h : d.1 = n
    · subst h; simp [toD]
    · have h2 : ¬ n = d.1 := fun e => h e.symm
      have b1 : (d.1 == n) = false := by simpa using h
      have b2 : (n == d.1) = false := by simpa using h2
      simp [toD, b1, b2]
theorem twice_to : ∀ (l s : List Dcl), twiceM s l = twiceD (s.map toD) (l.map toD)
  | [], s => rfl
  | d :: r, s => by
    have ih := twice_to r (s ++ [d])
    rw [List.map_append, List.map_cons, List.map_nil] at ih
    rw [twiceM, List.map_cons, twiceD, ← ih, show (toD d).name = d.1 from rfl, any_mem]
    by_cases h : d.1 ∈ s.map (·.1)
    · rw [if_pos h, decide_eq_true h, if_pos rfl]; rfl
    · rw [if_neg h, decide_eq_false h, if_neg (by simp)]
theorem all_to (P : ProgM) : (dclsM P).map toD = allD P := by
  unfold dclsM allD
  simp only [List.map_append, List.map_map]
  have e1 : ∀ (l : List DeclM) (c : Nat), l.map (toD ∘ fun d => (d.name, d.at_, c)) = l := fun l c => by
    have : (toD ∘ fun d : DeclM => (d.name, d.at_, c)) = id := by funext d; rfl
    rw [this, List.map_id]
  rw [e1, e1]
  rfl
theorem twice_none : ∀ (l s : List Dcl), twiceM s l = none → (l.map (·.1)).Nodup ∧ ∀ n ∈ l.map (·.1), n ∉ s.map (·.1)
  | [], s, _ => by simp
  | d :: r, s, h => by
    rw [twiceM] at h
    split at h
    · cases h
    · rename_i hd
      obtain ⟨h1, h2⟩ := twice_none r (s ++ [d]) h
      have h3 : ∀ n ∈ r.map (·.1), n ∉ s.map (·.1) ∧ n ≠ d.1 := fun n hn => by
        have := h2 n hn
        rw [List.map_append, List.mem_append] at this
        exact ⟨fun h => this (.inl h), fun h => this (.inr (by simp [h]))⟩
      rw [List.map_cons]
      refine ⟨List.nodup_cons.2 ⟨fun hm => (h3 _ hm).2 rfl, h1⟩, fun n hn => ?_⟩
      rcases List.mem_cons.1 hn with rfl | hn
      · exact hd
      · exact (h3 n hn).1
theorem kind_iff {l : List Dcl} (hn : (l.map (·.1)).Nodup) (n : List UInt8) (k : Nat) (hk : k ≠ 0) : kindOf l n = k ↔ ∃ d ∈ l, d.1 = n ∧ d.2.2 = k := by
  unfold kindOf
  have huniq : ∀ d ∈ l, ∀ d' ∈ l, d.1 = d'.1 → d = d' := by
    induction l with
    | nil => simp
    | cons x l ih =>
      rw [List.map_cons, List.nodup_cons] at hn
      intro d hd d' hd' e
      rcases List.mem_cons.1 hd with h1 | h1
      · rcases List.mem_cons.1 hd' with h2 | h2
        · rw [h1, h2]
        · exact absurd (List.mem_map.2 ⟨d', h2, by rw [← e, h1]⟩) hn.1
      · rcases List.mem_cons.1 hd' with h2 | h2
        · exact absurd (List.mem_map.2 ⟨d, h1, by rw [e, h2]⟩) hn.1
        · exact ih hn.2 d h1 d' h2 e
  cases hf : l.find? (fun e => e.1 == n) with
  | none =>
    rw [List.find?_eq_none] at hf
    constructor
    · intro h; exact absurd h.symm hk
    · rintro ⟨d, hd, h1, -⟩
      exact absurd (by simpa using h1) (hf d hd)
  | some x =>
    have h1 := List.mem_of_find?_eq_some hf
    have h2 : x.1 = n := by simpa using List.find?_some hf
    constructor
    · intro h; exact ⟨x, h1, h2, h⟩
    · rintro ⟨d, hd, h3, h4⟩
      rw [huniq x h1 d hd (by rw [h2, h3])]
      exact h4
theorem isD_kind {P : ProgM} (h : twiceM [] (dclsM P) = none) (k : Nat) (n : List UInt8) : (isD P k n = false) ↔ (wantM k ≠ 0 ∧ kindOf (dclsM P) n ≠ wantM k) := by
  have hn := (twice_none _ _ h).1
  have e1 : kindOf (dclsM P) n = 1 ↔ P.vars.any (fun d => d.name == n) = true := by
    rw [kind_iff hn n 1 (by decide)]
    unfold dclsM
    simp only [List.mem_append, List.mem_map, List.any_eq_true, beq_iff_eq]
    constructor
    · rintro ⟨d, ⟨x, hx, rfl⟩ | ⟨x, hx, rfl⟩ | ⟨x, hx, rfl⟩, h1, h2⟩
      · exact ⟨x, hx, h1⟩
      · cases h2
      · cases h2
    · rintro ⟨x, hx, h1⟩
      exact ⟨_, .inl ⟨x, hx, rfl⟩, h1, rfl⟩
  have e2 : kindOf (dclsM P) n = 2 ↔ P.locks.any (fun d => d.name == n) = true := by
    rw [kind_iff hn n 2 (by decide)]
    unfold dclsM
    simp only [List.mem_append, List.mem_map, List.any_eq_true, beq_iff_eq]
    constructor
    · rintro ⟨d, ⟨x, hx, rfl⟩ | ⟨x, hx, rfl⟩ | ⟨x, hx, rfl⟩, h1, h2⟩
      · cases h2
      · exact ⟨x, hx, h1⟩
      · cases h2
    · rintro ⟨x, hx, h1⟩
      exact ⟨_, .inr (.inl ⟨x, hx, rfl⟩), h1, rfl⟩
  have e3 : kindOf (dclsM P) n = 3 ↔ (P.funcs.map fdM).any (fun d => d.name == n) = true := by
    rw [kind_iff hn n 3 (by decide)]
    unfold dclsM
    simp only [List.mem_append, List.mem_map, List.any_eq_true, beq_iff_eq]
    constructor
    · rintro ⟨d, ⟨x, hx, rfl⟩ | ⟨x, hx, rfl⟩ | ⟨x, hx, rfl⟩, h1, h2⟩
      · cases h2
      · cases h2
      · exact ⟨fdM x, ⟨x, hx, rfl⟩, h1⟩
    · rintro ⟨y, ⟨x, hx, rfl⟩, h1⟩
      exact ⟨_, .inr (.inr ⟨x, hx, rfl⟩), h1, rfl⟩
  unfold isD wantM
  by_cases c1 : k = 1 ∨ k = 2
  · rw [if_pos c1, if_pos c1, ← Bool.not_eq_true, ← e1]; simp
  · rw [if_neg c1, if_neg c1]
    by_cases c2 : k = 3 ∨ k = 4
    · rw [if_pos c2, if_pos c2, ← Bool.not_eq_true, ← e2]; simp
    · rw [if_neg c2, if_neg c2]
      by_cases c3 : k = 5 ∨ k = 6
      · rw [if_pos c3, if_pos c3, ← Bool.not_eq_true, ← e3]; simp
      · rw [if_neg c3, if_neg c3]; simp
theorem look_to {P : ProgM} (h : twiceM [] (dclsM P) = none) : ∀ b : Blk, lookC P b = lookB (kindOf (dclsM P)) b
  | .nil => rfl
  | .cons k p n a b r => by
    rw [lookC, lookB, look_to h a, look_to h b, look_to h r]
    by_cases hb : isD P k n = false
    · rw [if_pos hb, if_pos ((isD_kind h k n).1 hb)]
    · rw [if_neg hb, if_neg (fun hh => hb ((isD_kind h k n).2 hh))]
theorem lookF_to {P : ProgM} (h : twiceM [] (dclsM P) = none) : ∀ l : List FuncM, lookCF P l = lookF (kindOf (dclsM P)) l
  | [] => rfl
  | d :: r => by rw [lookCF, lookF, look_to h, lookF_to h r]
theorem check_to (P : ProgM) : checkD P = checkM P := by
  unfold checkD checkM
  have e : twiceD [] (allD P) = twiceM [] (dclsM P) := by rw [twice_to, all_to]; rfl
  rw [e]
  split
  · rfl
  · cases ht : twiceM [] (dclsM P) with
    | some p => rfl
    | none =>
      simp only
      rw [lookF_to ht]
      cases lookF (kindOf (dclsM P)) P.funcs with
      | some p => rfl
      | none =>
        simp only
        have h5 := isD_kind ht 5 main7
        have e5 : isD P 5 main7 = (P.funcs.map fdM).any (fun d => d.name == main7) := by unfold isD; simp
        rw [e5] at h5
        have w5 : wantM 5 = 3 := rfl
        rw [w5] at h5
        by_cases hm : kindOf (dclsM P) main7 = 3
        · rw [if_pos hm, if_pos]
          cases hx : (P.funcs.map fdM).any (fun d => d.name == main7) with
          | true => rfl
          | false => exact absurd hm (h5.1 hx).2
        · rw [if_neg hm, if_neg]
          rw [h5.2 ⟨by decide, hm⟩]
          simp

end Go.Proofs.YtildkedplmjdaaaGreatDoor
namespace Go.Proofs.YtildkedplmjdaaaGreatDoor
set_option maxRecDepth 100000
set_option linter.unusedVariables false
open Go.RowKit Go.Sort


def DFuncsTo (w : World) (P : ProgM) (r : Ending) (w' : World) : Prop := ∃ v, r = .returned v ∧ w'.ownsRow w.heap.size 59 2 v (P.funcs.map fdM).length (dcells (P.funcs.map fdM)) ∧ Only [] w w'

set_option maxHeartbeats 16000000 in
theorem dfuncs_any (w : World) (vv vl vf : Value) (P : ProgM) (h : ProgAt w vv vl vf P) (hn : P.funcs.length ≤ 1000000) :
    Calls Tryz.prog 33 #[.agg #[vv, vl, vf]] w (DFuncsTo w P) := by
  obtain ⟨⟨av, cv, rfl, -⟩, ⟨al, cl, rfl, -⟩, ⟨af, cf, rfl, hcf, hf⟩⟩ := h
  have Hf := Lib.hid hf
  have HB := Lib.hid (IsBlk.made w (.cells #[.slice av P.vars.length cv, .slice al P.locks.length cl, .slice af P.funcs.length cf] 30))
  have HOa := Lib.hid ((Only.refl [] w).alloc (.cells #[.slice av P.vars.length cv, .slice al P.locks.length cl, .slice af P.funcs.length cf] 30))
  clear hf hcf
  go_enter Tryz.func33, Tryz.ntmps33
  go_wp2_with fail
  generalize hW1 : w.alloc (.cells #[.slice av P.vars.length cv, .slice al P.locks.length cl, .slice af P.funcs.length cf] 30) = w1 at *
  clear hW1
  go_loopw [3, 4] (fun sv iv wr => ∃ j : Nat, iv = .int .i64 j ∧ j ≤ P.funcs.length ∧ wr.ownsRow w1.heap.size 59 2 sv ((P.funcs.take j).map fdM).length (dcells ((P.funcs.take j).map fdM)) ∧ Only [] w1 wr) (fun _ iv _ => P.funcs.length - (intOf iv).toNat)
  case atStart => exact ⟨0, rfl, Nat.zero_le _, ⟨by simp [dcells], .inl ⟨rfl, by simp⟩⟩, Only.refl _ _⟩
  case round =>
    obtain ⟨j, rfl, hj, hown, hO⟩ := hrel
    have Hown := Lib.hid hown
    have HO := Lib.hid hO
    have b0 := (HB.out.only hO (by simp)).cell 2
    have bl := (HB.out.only hO (by simp)).lt
    clear hown hO
    by_cases hlt : j < P.funcs.length
    · have hji : (j : Int) < (P.funcs.length : Int) := by omega
      obtain ⟨gf, xs, fp, rfl, hgf, hrx, hE⟩ := Hf.out (by omega)
      obtain ⟨f, hfj⟩ : ∃ f, P.funcs[j]? = some f := ⟨P.funcs[j], by simp [hlt]⟩
      obtain ⟨va, fa, e0, e1, -⟩ := EncF.get hE j f hfj
      have c0 := hrx _ _ e0
      have c1 := hrx _ _ e1
      rw [Nat.zero_add] at c0 c1
      have hcl : ∀ W, Only [] wr W → W.cell? ⟨w.heap.size, 2, none⟩ = some (.slice (some ⟨gf, 0, none⟩) P.funcs.length cf) ∧ W.cell? ⟨gf, j * 3, none⟩ = some (.string ⟨f.name.toArray⟩) ∧ W.cell? ⟨gf, j * 3 + 1, none⟩ = some (.int .i64 (f.at_ : Nat)) ∧ gf < W.heap.size ∧ w.heap.size < W.heap.size := fun W hW => by
        have hOO := HOa.out.plus (HO.out.plus hW)
        exact ⟨((HB.out.only (HO.out.plus hW) (by simp)).cell 2), (hOO.cell (p := ⟨gf, j * 3, none⟩) hgf (by simp)).trans c0, (hOO.cell (p := ⟨gf, j * 3 + 1, none⟩) hgf (by simp)).trans c1, Nat.lt_of_lt_of_le hgf hOO.size, (HB.out.only (HO.out.plus hW) (by simp)).lt⟩
      have Hcl := Lib.hid hcl
      have Htk := Lib.hid (show (P.funcs.take (j + 1)).map fdM = (P.funcs.take j).map fdM ++ [⟨f.name, f.at_⟩] by rw [List.take_add_one, hfj]; simp [fdM])
      have hlen : ((P.funcs.take j).map fdM).length ≤ 1000000 := by simp; omega
      clear hcl c0 c1 e0 e1 hrx hE hfj hgf
      generalize f.name = nm at *
      generalize f.at_ = at0 at *
      go_upto_region 5 with fail
      have hdr : Only [] wr wr.drew := (Only.refl [] wr).drew
      refine wp_region_stabL (P := Tryz.prog) 15 (by kernel_rfl) (by kernel_rfl) (Only []) (Only.refl _ _) (fun _ _ _ h k => h.then k [] (by simp) (by simp))
        [SP.is (u3),
         SP.is (.pointer (some ⟨w.heap.size, 2, none⟩)),
         SP.is (.slice (some ⟨gf, 0, none⟩) P.funcs.length cf),
         SP.is (.int .i64 j),
         SP.is (.pointer (some ⟨gf, j * 3, none⟩)),
         SP.is (.pointer (some ⟨gf, j * 3, none⟩)),
         SP.is (.string ⟨nm.toArray⟩),
         SP.is (.pointer (some ⟨w.heap.size, 2, none⟩)),
         SP.is (.slice (some ⟨gf, 0, none⟩) P.funcs.length cf),
         SP.is (.int .i64 j),
         SP.is (.pointer (some ⟨gf, j * 3, none⟩)),
         SP.is (.pointer (some ⟨gf, j * 3 + 1, none⟩)),
         SP.is (.int .i64 (at0 : Nat)),
         SP.is (.agg #[.string ⟨nm.toArray⟩, .int .i64 (at0 : Nat)]),
         ⟨fun v W => ∃ g, v = .slice (some ⟨g, 0, none⟩) 1 1 ∧ IsBlk W g (.cells #[.string ⟨nm.toArray⟩, .int .i64 (at0 : Nat)] 59) ∧ wr.heap.size ≤ g, fun _ _ _ ⟨g, e, h, hg⟩ hO => ⟨g, e, h.only hO (by simp), hg⟩⟩] ?_ ?_
      · simp only [List.take_succ_cons, List.take_zero]
        refine StepsOK.cons ?_ (StepsOK.cons ?_ (StepsOK.cons ?_ (StepsOK.cons ?_ (StepsOK.cons ?_ (StepsOK.cons ?_ (StepsOK.cons ?_ (StepsOK.cons ?_ (StepsOK.cons ?_ (StepsOK.cons ?_ (StepsOK.cons ?_ (StepsOK.cons ?_ (StepsOK.cons ?_ (StepsOK.cons ?_ (StepsOK.cons ?_ StepsOK.nil))))))))))))))
        · intro a W L N hR hold hφ hcl hkp hd K hK
          have e3 := hold 3 (by kernel_rfl)
          clear hold hφ hcl hkp hd
          rw [if_pos (by rfl)]
          go_simp
          exact hK _ _ (Only.refl _ _) rfl
        · intro a W L N hR hold hφ hcl hkp hd K hK
          have e1 := hold 1 (by kernel_rfl)
          clear hold hφ hcl hkp hd
          rw [if_pos (by rfl)]
          go_simp
          exact hK _ _ (Only.refl _ _) rfl
        · intro a W L N hR hold hφ hcl hkp hd K hK
          have e13 := got hφ (hd 1 (by kernel_rfl)) rfl rfl rfl
          obtain ⟨l0, l1, l2, l3, l4⟩ := Hcl.out W (Only.plus hdr hR)
          clear hold hφ hcl hkp hd
          rw [if_pos (by rfl)]
          go_simp
          exact hK _ _ (Only.refl _ _) rfl
        · intro a W L N hR hold hφ hcl hkp hd K hK
          have e4 := hold 4 (by kernel_rfl)
          clear hold hφ hcl hkp hd
          rw [if_pos (by rfl)]
          go_simp
          exact hK _ _ (Only.refl _ _) rfl
        · intro a W L N hR hold hφ hcl hkp hd K hK
          have e14 := got hφ (hd 2 (by kernel_rfl)) rfl rfl rfl
          have e15 := got hφ (hd 3 (by kernel_rfl)) rfl rfl rfl
          obtain ⟨l0, l1, l2, l3, l4⟩ := Hcl.out W (Only.plus hdr hR)
          clear hold hφ hcl hkp hd
          rw [if_pos (by rfl)]
          go_simp
          exact hK _ _ (Only.refl _ _) rfl
        · intro a W L N hR hold hφ hcl hkp hd K hK
          have e16 := got hφ (hd 4 (by kernel_rfl)) rfl rfl rfl
          clear hold hφ hcl hkp hd
          rw [if_pos (by rfl)]
          go_simp
          exact hK _ _ (Only.refl _ _) rfl
        · intro a W L N hR hold hφ hcl hkp hd K hK
          have e17 := got hφ (hd 5 (by kernel_rfl)) rfl rfl rfl
          obtain ⟨l0, l1, l2, l3, l4⟩ := Hcl.out W (Only.plus hdr hR)
          clear hold hφ hcl hkp hd
          rw [if_pos (by rfl)]
          go_simp
          exact hK _ _ (Only.refl _ _) rfl
        · intro a W L N hR hold hφ hcl hkp hd K hK
          have e1 := hold 1 (by kernel_rfl)
          clear hold hφ hcl hkp hd
          rw [if_pos (by rfl)]
          go_simp
          exact hK _ _ (Only.refl _ _) rfl
        · intro a W L N hR hold hφ hcl hkp hd K hK
          have e19 := got hφ (hd 7 (by kernel_rfl)) rfl rfl rfl
          obtain ⟨l0, l1, l2, l3, l4⟩ := Hcl.out W (Only.plus hdr hR)
          clear hold hφ hcl hkp hd
          rw [if_pos (by rfl)]
          go_simp
          exact hK _ _ (Only.refl _ _) rfl
        · intro a W L N hR hold hφ hcl hkp hd K hK
          have e4 := hold 4 (by kernel_rfl)
          clear hold hφ hcl hkp hd
          rw [if_pos (by rfl)]
          go_simp
          exact hK _ _ (Only.refl _ _) rfl
        · intro a W L N hR hold hφ hcl hkp hd K hK
          have e20 := got hφ (hd 8 (by kernel_rfl)) rfl rfl rfl
          have e21 := got hφ (hd 9 (by kernel_rfl)) rfl rfl rfl
          obtain ⟨l0, l1, l2, l3, l4⟩ := Hcl.out W (Only.plus hdr hR)
          clear hold hφ hcl hkp hd
          rw [if_pos (by rfl)]
          go_simp
          exact hK _ _ (Only.refl _ _) rfl
        · intro a W L N hR hold hφ hcl hkp hd K hK
          have e22 := got hφ (hd 10 (by kernel_rfl)) rfl rfl rfl
          clear hold hφ hcl hkp hd
          rw [if_pos (by rfl)]
          go_simp
          exact hK _ _ (Only.refl _ _) rfl
        · intro a W L N hR hold hφ hcl hkp hd K hK
          have e23 := got hφ (hd 11 (by kernel_rfl)) rfl rfl rfl
          obtain ⟨l0, l1, l2, l3, l4⟩ := Hcl.out W (Only.plus hdr hR)
          clear hold hφ hcl hkp hd
          rw [if_pos (by rfl)]
          go_simp
          exact hK _ _ (Only.refl _ _) rfl
        · intro a W L N hR hold hφ hcl hkp hd K hK
          have e18 := got hφ (hd 6 (by kernel_rfl)) rfl rfl rfl
          have e24 := got hφ (hd 12 (by kernel_rfl)) rfl rfl rfl
          clear hold hφ hcl hkp hd
          rw [if_pos (by rfl)]
          go_simp
          exact hK _ _ (Only.refl _ _) rfl
        · intro a W L N hR hold hφ hcl hkp hd K hK
          have e25 := got hφ (hd 13 (by kernel_rfl)) rfl rfl rfl
          have hsz := hR.size
          have hszd := hdr.size
          clear hold hφ hcl hkp hd
          rw [if_pos (by rfl)]
          go_simp
          exact hK _ _ ((Only.refl _ _).alloc _) ⟨_, rfl, IsBlk.made W _, by omega⟩
      · intro us W hO' hus
        obtain ⟨g, p14, hblk, hgg⟩ := hus 14 _ 26 (by omega) rfl rfl
        have q0 : us 0 = u3 := hus 0 _ 12 (by omega) rfl rfl
        clear hus
        simp only [List.take_succ_cons, List.take_zero, List.drop_succ_cons, List.drop_zero, fillAct, Act.put, List.setIfInBounds_toArray, List.set_cons_zero, List.set_cons_succ, Nat.reduceAdd, p14, q0]
        clear p14 q0
        have hOW := Only.plus hdr hO'
        have Hq0 := Lib.hid (hblk.cell 0)
        have Hq1 := Lib.hid (hblk.cell 1)
        have HownW := Lib.hid (owns_keep Hown.out hOW (by simp))
        have HOW := Lib.hid (HO.out.plus hOW)
        have hszW : w1.heap.size ≤ W.heap.size := HOW.out.size
        clear hO' hblk hOW
        go_wp2_with (at_builtin; refine wpList_append_d rfl _ _ rfl w1.heap.size u3 _ rfl HownW.out g 1 ⟨nm, at0⟩ rfl Hq0.out Hq1.out hlen hszW ?_; intro v' w5 hr5 hO5 hb5)
        go_roundw
        case rel =>
          refine ⟨j + 1, by go_num, hlt, by rw [Htk.out]; exact hr5, HOW.out.then hO5 [] (by simp) (fun i hi => .inr (World.ownsRow.lt HownW.out i (mem_ownL.1 hi)).1)⟩
        case measure => simp [intOf]; omega
    · have hji : ¬ (j : Int) < (P.funcs.length : Int) := by omega
      obtain rfl : j = P.funcs.length := by omega
      go_wp2
      go_ret
      have hown := Hown.out
      rw [List.take_length] at hown
      exact ⟨_, rfl, owns_base hown HOa.out.size, HOa.out.plus HO.out⟩

end Go.Proofs.YtildkedplmjdaaaGreatDoor
namespace Go.Proofs.YtildkedplmjdaaaGreatDoor
set_option maxRecDepth 100000
set_option linter.unusedVariables false
open Go.RowKit Go.Sort

/-- A slice to be read that is these statements; where it has none, it may lie anywhere. -/
def RdB (w : World) (v : Value) (b : Blk) : Prop := ∃ a c xs fq, v = .slice a b.len c ∧ EncB w b xs fq ∧ (0 < b.len → ∃ g, a = some ⟨g, 0, none⟩ ∧ g < w.heap.size ∧ w.rangeAt g 0 xs)
theorem RdB.of {w : World} {v : Value} {b : Blk} {fp : List Nat} (h : BlkAt w v b fp) : RdB w v b := by
  obtain ⟨a, c, rfl, -⟩ := h.slice
  obtain ⟨xs, fq, h1, h2⟩ := blk_open ⟨_, h⟩
  exact ⟨a, c, xs, fq, rfl, h1, h2⟩
theorem RdB.more {w w' : World} {v : Value} {b : Blk} (h : RdB w v b) (hO : Only [] w w') : RdB w' v b := by
  obtain ⟨a, c, xs, fq, rfl, h1, h2⟩ := h
  refine ⟨a, c, xs, fq, rfl, h1.keep hO (by simp), fun h => ?_⟩
  obtain ⟨g, e, k, r⟩ := h2 h
  exact ⟨g, e, Nat.lt_of_lt_of_le k hO.size, rangeAt_only r hO k (by simp)⟩
/-- A row of statements of one's own. -/
def OwnS7 (w : World) (base : Nat) (v : Value) (b : Blk) : Prop := ∃ xs fp, w.ownsRow base 85 5 v b.len xs ∧ EncB w b xs fp ∧ ∀ k ∈ fp, k < base
theorem OwnS7.more {w w' : World} {base : Nat} {v : Value} {b : Blk} (h : OwnS7 w base v b) (hO : Only [] w w') : OwnS7 w' base v b := by
  obtain ⟨xs, fp, h1, h2, h3⟩ := h
  exact ⟨xs, fp, owns_keep h1 hO (by simp), h2.keep hO (by simp), h3⟩
theorem OwnS7.rd {w : World} {base : Nat} {v : Value} {b : Blk} (h : OwnS7 w base v b) : RdB w v b := by
  obtain ⟨xs, fp, h1, h2, h3⟩ := h
  rcases h1.2 with ⟨rfl, h0⟩ | ⟨g, cap, cur, rfl, hb, hg, hc, _⟩
  · exact ⟨none, 0, xs, fp, by rw [h0], h2, fun h => by omega⟩
  · refine ⟨_, cap, xs, fp, rfl, h2, fun _ => ⟨g, rfl, IsBlk.lt hg, fun j x hx => ?_⟩⟩
    have := World.ownsRow.cells h1 (g := g) rfl j x hx
    rw [Addr.add_mid] at this
    exact this
/-- append(row of one's own, statements...), as a region that draws has it. -/
theorem wp_append_b7 {w : World} {o : Oper} {a : Act} {K : Act → World → Prop} {Q : Exit → Act → World → Prop} (s x : Operand)
    (ho : o.op = .call { callee := .builtin .append, args := #[s, x], argTypes := #[48, 48] })
    (base : Nat) (v u : Value) (A B : Blk) (fb : List Nat) (hs : a.eval s = v) (hown : OwnS7 w base v A) (hx : a.eval x = u) (hB : BlkAt w u B fb) (hfb : ∀ k ∈ fb, k < base) (hA : A.len ≤ 1000000) (hBl : B.len ≤ 1000000) (hbase : base ≤ w.heap.size)
    (h : ∀ v' w' S, OwnS7 w' base v' (A.app B) → Only S w w' → (∀ g ∈ S, base ≤ g) → K (a.put o.dst v') w') : o.wp Tryz.prog a w K Q := by
  obtain ⟨i0, hi, hz0, hz1, hz2⟩ := info_parts infoS
  obtain ⟨xs, fp, h1, h2, h3⟩ := hown
  have hlt := World.ownsRow.lt h1
  rcases hB with ⟨rfl, h0, rfl⟩ | ⟨g, c, fq, ys, rfl, hc, hn, rfl, ⟨cs, t, hg⟩, hr, hE⟩
  · have hb0 := Blk.len_zero B h0
    subst hb0
    obtain ⟨av, cv, rfl⟩ := owns_slice h1
    have hcv : A.len ≤ cv := by
      rcases h1.2 with ⟨e1, e2⟩ | ⟨g, cap, cur, e1, -, -, hc, -⟩
      · injection e1 with _ _ e3; omega
      · injection e1 with _ _ e3; omega
    have hr := run_append_void (P := Tryz.prog) w 48 o.type 85 i0 Tryz.underlying48 hi av A.len cv hcv
    unfold Oper.wp execOp
    simp only [ho, resolve, invoke, builtin, Sem.run_bind, Sem.run_pure, Result.andThen_ok, List.map_toArray, List.map_cons, List.map_nil, hs, hx, hr]
    refine h _ w [] ?_ (Only.refl _ _) (by simp)
    rw [Blk.app_nil]
    exact ⟨xs, fp, h1, h2, h3⟩
  · have hl := EncB.len hE
    obtain ⟨v', w', hr', k2, k3, k4, k5⟩ := run_append_own_at (P := Tryz.prog) w base 48 o.type 85 i0 _ 5 80 Tryz.underlying48 hi hz0 hz1 hz2 rfl (by decide) v A.len xs h1 ⟨g, 0, none⟩ B.len c ys hl (fun j u hu => by rw [Addr.add_mid]; exact hr j u hu) (EncB.one hE) (by unfold maxLen; omega) (by omega) hbase
    unfold Oper.wp execOp
    simp only [ho, resolve, invoke, builtin, Sem.run_bind, Sem.run_pure, Result.andThen_ok, List.map_toArray, List.map_cons, List.map_nil, hs, hx, hr']
    have hO := grown_only k3
    have hS : ∀ k ∈ ownL v, base ≤ k := fun k hk => (hlt k (mem_ownL.1 hk)).1
    refine h v' w' (ownL v) ⟨xs ++ ys, fp ++ fq, by rw [Blk.len_app]; exact k2, EncB.app (h2.keep hO (fun k hk hm => by have := h3 k hk; have := hS k hm; omega)) (hE.keep hO (fun k hk hm => by have := hfb k (by simp [hk]); have := hS k hm; omega)), fun k hk => ?_⟩ hO hS
    rcases List.mem_append.1 hk with hk | hk
    · exact h3 k hk
    · exact hfb k (by simp [hk])

def bodyX (P : ProgM) (b : Blk) : Nat × Nat := match lookC P b with | some p => (p, 10) | none => (0, 0)
theorem bodyX_no {P : ProgM} {k p : Nat} {n : List UInt8} {A B r : Blk} (h : isD P k n = false) : bodyX P (.cons k p n A B r) = (p, 10) := by
  unfold bodyX; rw [lookC, if_pos h]
theorem bodyX_yes {P : ProgM} {k p : Nat} {n : List UInt8} {A B r : Blk} (h : isD P k n = true) : bodyX P (.cons k p n A B r) = if (bodyX P (A.app B)).2 = 0 then bodyX P r else bodyX P (A.app B) := by
  unfold bodyX
  rw [lookC, if_neg (by simp [h]), lookC_app]
  cases lookC P A with
  | some q => simp
  | none =>
    cases lookC P B with
    | some q => simp
    | none => simp
theorem bodyX_zero (P : ProgM) (b : Blk) : (bodyX P b).2 = 0 → bodyX P b = (0, 0) := by
  unfold bodyX
  split
  · intro h; cases h
  · intro _; rfl
theorem cnt_app : ∀ a b : Blk, (a.app b).cnt = a.cnt + b.cnt
  | .nil, b => by simp [Blk.app, Blk.cnt]
  | .cons k p n x y r, b => by rw [Blk.app, Blk.cnt, Blk.cnt, cnt_app r b]; omega

end Go.Proofs.YtildkedplmjdaaaGreatDoor
