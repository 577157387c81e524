/-
  Blocks within blocks by chapter 6 itself: how deep a text may go, and where it is told that it goes too deep. No walk is here.
-/
import Derived.Test.YtonpfmhdefhhmaaPaQ
import Derived.Test.YtonpfmhdefhhmaaLxK
namespace Go.Proofs.Ytonpfmhdefhhmaa
set_option maxRecDepth 100000
set_option linter.unusedVariables false
open Go.RowKit Go.Sort

def deepT : List (List UInt8) := [[105, 102, 32], [108, 111, 111, 112, 32], [105, 102, 32, 123, 32, 125, 32, 101, 108, 115, 101, 32]]
def deepP (k : Nat) : List UInt8 := deepT.getD k [] ++ [123, 32]
def deepS (ks : List Nat) : List UInt8 := ks.flatMap deepP
def shutS : Nat → List UInt8
  | 0 => []
  | m + 1 => 125 :: 32 :: shutS m
theorem shutS_len : ∀ m, (shutS m).length = 2 * m
  | 0 => rfl
  | m + 1 => by rw [shutS, List.length_cons, List.length_cons, shutS_len m]; omega
theorem shutS_succ : ∀ m, shutS (m + 1) = shutS m ++ [125, 32]
  | 0 => rfl
  | m + 1 => by show 125 :: 32 :: shutS (m + 1) = 125 :: 32 :: (shutS m ++ [125, 32]); rw [shutS_succ m]
theorem deepP_len (k : Nat) : (deepP k).length ≤ 14 := by
  unfold deepP deepT
  match k with
  | 0 => decide
  | 1 => decide
  | 2 => decide
  | _ + 3 => simp
theorem deepS_len : ∀ ks, (deepS ks).length ≤ 14 * ks.length
  | [] => by simp [deepS]
  | k :: ks => by
    have := deepS_len ks
    have := deepP_len k
    unfold deepS at *
    rw [List.flatMap_cons, List.length_append, List.length_cons]
    omega
theorem deepS_snoc (ks : List Nat) (k : Nat) : deepS (ks ++ [k]) = deepS ks ++ deepP k := by simp [deepS]

def shutK : Nat → Nat → List Tok
  | 0, _ => []
  | m + 1, i => ⟨3, i, []⟩ :: shutK m (i + 2)
theorem tokT_shut : ∀ m i, tokT i (shutS m) = (shutK m i, none)
  | 0, i => tokT_nil i
  | m + 1, i => by rw [shutS, tokT_close, tokT_blank _ _ _ (by decide), tokT_shut m]; rfl
def deepK1 (k i : Nat) : List Tok :=
  if k = 0 then [⟨1, i, [105, 102]⟩, ⟨2, i + 3, []⟩]
  else if k = 1 then [⟨1, i, [108, 111, 111, 112]⟩, ⟨2, i + 5, []⟩]
  else [⟨1, i, [105, 102]⟩, ⟨2, i + 3, []⟩, ⟨3, i + 5, []⟩, ⟨1, i + 7, [101, 108, 115, 101]⟩, ⟨2, i + 12, []⟩]
def deepK : List Nat → Nat → List Tok
  | [], _ => []
  | k :: ks, i => deepK1 k i ++ deepK ks (i + (deepP k).length)
theorem ends_blank (rest : List UInt8) : Ends (32 :: rest) := by
  intro c hc
  simp at hc
  subst hc
  decide
theorem tokT_piece (k i : Nat) (rest : List UInt8) (hk : k < 3) : tokT i (deepP k ++ rest) = (deepK1 k i ++ (tokT (i + (deepP k).length) rest).1, (tokT (i + (deepP k).length) rest).2) := by
  match k, hk with
  | 0, _ =>
    show tokT i ([105, 102] ++ (32 :: 123 :: 32 :: rest)) = _
    rw [tokT_row i 105 [102] _ (by decide) (by decide) (ends_blank _), tokT_blank _ _ _ (by decide), tokT_open, tokT_blank _ _ _ (by decide)]
    rfl
  | 1, _ =>
    show tokT i ([108, 111, 111, 112] ++ (32 :: 123 :: 32 :: rest)) = _
    rw [tokT_row i 108 [111, 111, 112] _ (by decide) (by decide) (ends_blank _), tokT_blank _ _ _ (by decide), tokT_open, tokT_blank _ _ _ (by decide)]
    rfl
  | 2, _ =>
    show tokT i ([105, 102] ++ (32 :: 123 :: 32 :: 125 :: 32 :: ([101, 108, 115, 101] ++ (32 :: 123 :: 32 :: rest)))) = _
    rw [tokT_row i 105 [102] _ (by decide) (by decide) (ends_blank _), tokT_blank _ _ _ (by decide), tokT_open, tokT_blank _ _ _ (by decide), tokT_close, tokT_blank _ _ _ (by decide),
      tokT_row _ 101 [108, 115, 101] _ (by decide) (by decide) (ends_blank _), tokT_blank _ _ _ (by decide), tokT_open, tokT_blank _ _ _ (by decide)]
    rfl
theorem tokT_deep : ∀ (ks : List Nat) (i : Nat) (rest : List UInt8), (∀ k ∈ ks, k < 3) → tokT i (deepS ks ++ rest) = (deepK ks i ++ (tokT (i + (deepS ks).length) rest).1, (tokT (i + (deepS ks).length) rest).2)
  | [], i, rest, _ => rfl
  | k :: ks, i, rest, h => by
    have e : deepS (k :: ks) = deepP k ++ deepS ks := rfl
    rw [e, List.append_assoc, tokT_piece k i _ (h k (by simp)), tokT_deep ks _ rest (fun x hx => h x (by simp [hx])), List.length_append, ← Nat.add_assoc]
    simp only [deepK, List.append_assoc]

/-- Where the block at index j is opened that goes too deep. -/
def deepAt (ks : List Nat) (j : Nat) : Nat := (deepS (ks.take j)).length + (if ks.getD j 0 = 1 then 5 else 3)
theorem deepAt_succ (k : Nat) (ks : List Nat) (j : Nat) : deepAt (k :: ks) (j + 1) = (deepP k).length + deepAt ks j := by
  unfold deepAt
  rw [List.take_succ_cons, show deepS (k :: ks.take j) = deepP k ++ deepS (ks.take j) from rfl, List.length_append, List.getD_cons_succ, Nat.add_assoc]

theorem kind_if : kindM [105, 102] = 7 := by decide
theorem kind_loop : kindM [108, 111, 111, 112] = 8 := by decide
theorem next_shut (m i : Nat) : nextS (shutK m i) = [] := by cases m <;> rfl
theorem stmts_shut (f d e m i : Nat) : stmtsF (f + 1) d e (shutK (m + 1) i) = .ok (.nil, shutK m (i + 2)) := by rw [stmtsF]; rfl

theorem deep_stmts : ∀ (ks : List Nat) (f d e m i : Nat), (∀ k ∈ ks, k < 3) → 3 * ks.length + 4 ≤ f → d ≤ 20 →
    (d + ks.length ≤ 20 → ∃ B, stmtsF f d e (deepK ks i ++ shutK (ks.length + 1 + m) (i + (deepS ks).length)) = .ok (B, shutK m (i + (deepS ks).length + 2 * (ks.length + 1)))) ∧
    (20 < d + ks.length → stmtsF f d e (deepK ks i ++ shutK (ks.length + 1 + m) (i + (deepS ks).length)) = .error (i + deepAt ks (20 - d), 8))
  | [], f, d, e, m, i, _, hf, hd => by
    refine ⟨fun _ => ⟨.nil, ?_⟩, fun h => absurd h (by simp; omega)⟩
    obtain ⟨f, rfl⟩ : ∃ g, f = g + 1 := ⟨f - 1, by omega⟩
    show stmtsF (f + 1) d e (shutK (0 + 1 + m) i) = _
    rw [show 0 + 1 + m = m + 1 from by omega, stmts_shut]
    rfl
  | k :: ks, f, d, e, m, i, h, hf, hd => by
    have e0 : deepS (k :: ks) = deepP k ++ deepS ks := rfl
    have hk := h k (by simp)
    simp only [List.length_cons] at hf ⊢
    obtain ⟨f, rfl⟩ : ∃ g, f = g + 3 := ⟨f - 3, by omega⟩
    have ih := deep_stmts ks f (d + 1) e (m + 1) (i + (deepP k).length) (fun x hx => h x (by simp [hx])) (by omega)
    have el : i + (deepS (k :: ks)).length = i + (deepP k).length + (deepS ks).length := by rw [e0, List.length_append]; omega
    rw [el, show ks.length + 1 + 1 + m = ks.length + 1 + (m + 1) from by omega]
    generalize hT : deepK ks (i + (deepP k).length) ++ shutK (ks.length + 1 + (m + 1)) (i + (deepP k).length + (deepS ks).length) = T at *
    have hD : deepK (k :: ks) i ++ shutK (ks.length + 1 + (m + 1)) (i + (deepP k).length + (deepS ks).length) = deepK1 k i ++ T := by rw [← hT, deepK, List.append_assoc]
    rw [hD]
    have hkk : k = 0 ∨ k = 1 ∨ k = 2 := by omega
    obtain ⟨f1, rfl⟩ : ∃ g, f = g + 1 := ⟨f - 1, by omega⟩
    by_cases hd2 : d = 20
    · subst hd2
      refine ⟨fun hx => absurd hx (by omega), fun _ => ?_⟩
      rcases hkk with rfl | rfl | rfl
      · show stmtsF (f1 + 1 + 2 + 1) 20 e (⟨1, i, [105, 102]⟩ :: ⟨2, i + 3, []⟩ :: T) = _
        rw [stmtsF]
        simp only [List.head?_cons, Option.map_some]
        rw [stmtF, blockF]
        simp only [kind_if]
        rfl
      · show stmtsF (f1 + 1 + 2 + 1) 20 e (⟨1, i, [108, 111, 111, 112]⟩ :: ⟨2, i + 5, []⟩ :: T) = _
        rw [stmtsF]
        simp only [List.head?_cons, Option.map_some]
        rw [stmtF, blockF]
        simp only [kind_loop]
        rfl
      · show stmtsF (f1 + 1 + 2 + 1) 20 e (⟨1, i, [105, 102]⟩ :: ⟨2, i + 3, []⟩ :: ⟨3, i + 5, []⟩ :: ⟨1, i + 7, [101, 108, 115, 101]⟩ :: ⟨2, i + 12, []⟩ :: T) = _
        rw [stmtsF]
        simp only [List.head?_cons, Option.map_some]
        rw [stmtF, blockF]
        simp only [kind_if]
        rfl
    · obtain ⟨iha, ihb⟩ := ih (by omega)
      have hj : 20 - d = (20 - (d + 1)) + 1 := by omega
      have hblk : ∀ a, blockF (f1 + 1 + 1) d e (⟨2, a, []⟩ :: T) = stmtsF (f1 + 1) (d + 1) e T := by
        intro a
        rw [blockF, if_neg (by simp), if_neg (by omega)]
      have hone : ∀ a b c q, blockF (f1 + 1 + 1) d e (⟨2, a, []⟩ :: ⟨3, b, []⟩ :: ⟨1, c, [101, 108, 115, 101]⟩ :: q) = .ok (.nil, ⟨1, c, [101, 108, 115, 101]⟩ :: q) := by
        intro a b c q
        rw [blockF, if_neg (by simp), if_neg (by omega), stmtsF]
        rfl
      have hend : ∀ (s : StmM) (p : Nat), (∃ B, (match stmtsF (f1 + 1 + 2) d e (shutK (m + 1) p) with | .error x => Except.error x | .ok (l, r2) => .ok (Blk.cons s.kind s.at_ s.name s.a s.b l, r2)) = Except.ok (ε := Nat × Nat) (B, shutK m (p + 2))) := by
        intro s p
        rw [show f1 + 1 + 2 = (f1 + 2) + 1 from by omega, stmts_shut]
        exact ⟨_, rfl⟩
      refine ⟨fun hx => ?_, fun hx => ?_⟩
      · obtain ⟨B, hB⟩ := iha (by omega)
        have ep : i + (deepP k).length + (deepS ks).length + 2 * (ks.length + 1 + 1) = (i + (deepP k).length + (deepS ks).length + 2 * (ks.length + 1)) + 2 := by omega
        rw [ep]
        generalize i + (deepP k).length + (deepS ks).length + 2 * (ks.length + 1) = p at *
        rcases hkk with rfl | rfl | rfl
        · show ∃ B, stmtsF (f1 + 1 + 2 + 1) d e (⟨1, i, [105, 102]⟩ :: ⟨2, i + 3, []⟩ :: T) = _
          rw [stmtsF]
          simp only [List.head?_cons, Option.map_some]
          rw [stmtF, hblk, hB]
          simp only [kind_if, next_shut]
          exact hend ⟨7, i, [], B, .nil⟩ p
        · show ∃ B, stmtsF (f1 + 1 + 2 + 1) d e (⟨1, i, [108, 111, 111, 112]⟩ :: ⟨2, i + 5, []⟩ :: T) = _
          rw [stmtsF]
          simp only [List.head?_cons, Option.map_some]
          rw [stmtF, hblk, hB]
          simp only [kind_loop]
          exact hend ⟨8, i, [], B, .nil⟩ p
        · show ∃ B, stmtsF (f1 + 1 + 2 + 1) d e (⟨1, i, [105, 102]⟩ :: ⟨2, i + 3, []⟩ :: ⟨3, i + 5, []⟩ :: ⟨1, i + 7, [101, 108, 115, 101]⟩ :: ⟨2, i + 12, []⟩ :: T) = _
          rw [stmtsF]
          simp only [List.head?_cons, Option.map_some]
          rw [stmtF, hone]
          simp only [kind_if, nextS, elseM, List.tail_cons, if_true]
          rw [hblk, hB]
          exact hend ⟨7, i, [], .nil, B⟩ p
      · have hB := ihb (by omega)
        have ep : i + deepAt (k :: ks) (20 - d) = i + (deepP k).length + deepAt ks (20 - (d + 1)) := by rw [hj, deepAt_succ]; omega
        rw [ep]
        generalize i + (deepP k).length + deepAt ks (20 - (d + 1)) = p at *
        rcases hkk with rfl | rfl | rfl
        · show stmtsF (f1 + 1 + 2 + 1) d e (⟨1, i, [105, 102]⟩ :: ⟨2, i + 3, []⟩ :: T) = _
          rw [stmtsF]
          simp only [List.head?_cons, Option.map_some]
          rw [stmtF, hblk, hB]
          simp only [kind_if]
          rfl
        · show stmtsF (f1 + 1 + 2 + 1) d e (⟨1, i, [108, 111, 111, 112]⟩ :: ⟨2, i + 5, []⟩ :: T) = _
          rw [stmtsF]
          simp only [List.head?_cons, Option.map_some]
          rw [stmtF, hblk, hB]
          simp only [kind_loop]
          rfl
        · show stmtsF (f1 + 1 + 2 + 1) d e (⟨1, i, [105, 102]⟩ :: ⟨2, i + 3, []⟩ :: ⟨3, i + 5, []⟩ :: ⟨1, i + 7, [101, 108, 115, 101]⟩ :: ⟨2, i + 12, []⟩ :: T) = _
          rw [stmtsF]
          simp only [List.head?_cons, Option.map_some]
          rw [stmtF, hone]
          simp only [kind_if, nextS, elseM, List.tail_cons, if_true]
          rw [hblk, hB]
          rfl

def deepW (ks : List Nat) : List UInt8 := [102, 117, 110, 99, 32, 109, 97, 105, 110, 32, 123, 32] ++ deepS ks
theorem deep_toks (ks : List Nat) (m : Nat) (h : ∀ k ∈ ks, k < 3) : tokT 0 (deepW ks ++ shutS m) = (⟨1, 0, [102, 117, 110, 99]⟩ :: ⟨1, 5, [109, 97, 105, 110]⟩ :: ⟨2, 10, []⟩ :: (deepK ks 12 ++ shutK m (12 + (deepS ks).length)), none) := by
  show tokT 0 ([102, 117, 110, 99] ++ (32 :: ([109, 97, 105, 110] ++ (32 :: 123 :: 32 :: (deepS ks ++ shutS m))))) = _
  rw [tokT_row 0 102 [117, 110, 99] _ (by decide) (by decide) (ends_blank _), tokT_blank _ _ _ (by decide), tokT_row _ 109 [97, 105, 110] _ (by decide) (by decide) (ends_blank _), tokT_blank _ _ _ (by decide), tokT_open,
    tokT_blank _ _ _ (by decide), tokT_deep ks _ _ h, tokT_shut]
  rfl

theorem deep_parse (ks : List Nat) (h : ∀ k ∈ ks, k < 3) (hl : ks.length ≤ 25) :
    (ks.length < 20 → ∃ P : ProgM, parseM (deepW ks ++ shutS (ks.length + 1)) = (P, 0, 0) ∧ P.funcs.length = 1) ∧
    (20 ≤ ks.length → parseM (deepW ks ++ shutS (ks.length + 1)) = (⟨[], [], []⟩, 12 + deepAt ks 19, 8)) := by
  have hlen : (deepW ks ++ shutS (ks.length + 1)).length ≤ 2000 := by
    have h1 := deepS_len ks
    unfold deepW
    rw [List.length_append, List.length_append, shutS_len]
    simp only [List.length_cons, List.length_nil]
    omega
  have ht := tokM_T hlen
  rw [deep_toks ks _ h] at ht
  simp only at ht
  unfold parseM
  rw [ht]
  simp only [ne_eq, not_true_eq_false, if_false, List.length_cons]
  generalize (deepW ks ++ shutS (ks.length + 1)).length = e
  have hn : nameM [109, 97, 105, 110] = true := by decide
  have hb : ∀ g (p : ProgM), progF (g + 1) e (⟨1, 0, [102, 117, 110, 99]⟩ :: ⟨1, 5, [109, 97, 105, 110]⟩ :: ⟨2, 10, []⟩ :: (deepK ks 12 ++ shutK (ks.length + 1) (12 + (deepS ks).length))) p =
      (match stmtsF (2 * (deepK ks 12 ++ shutK (ks.length + 1) (12 + (deepS ks).length)).length + 2) 1 e (deepK ks 12 ++ shutK (ks.length + 1) (12 + (deepS ks).length)) with
        | .error x => .error x
        | .ok (b, r2) => progF g e r2 { p with funcs := p.funcs ++ [⟨[109, 97, 105, 110], 0, b⟩] }) := by
    intro g p
    rw [progF, if_neg (by decide), if_neg (by decide), if_pos (by decide)]
    simp only [nameF, hn, if_true, List.length_cons]
    rw [show 2 * ((deepK ks 12 ++ shutK (ks.length + 1) (12 + (deepS ks).length)).length + 1) + 1 = (2 * (deepK ks 12 ++ shutK (ks.length + 1) (12 + (deepS ks).length)).length + 2) + 1 from by omega, blockF, if_neg (by simp), if_neg (by omega)] <;> rfl
  have hfu : 3 * ks.length + 4 ≤ 2 * (deepK ks 12 ++ shutK (ks.length + 1) (12 + (deepS ks).length)).length + 2 := by
    have hK : ∀ (l : List Nat) i, 2 * l.length ≤ (deepK l i).length := by
      intro l
      induction l with
      | nil => intro i; simp
      | cons k l ih =>
        intro i
        have := ih (i + (deepP k).length)
        have h2 : 2 ≤ (deepK1 k i).length := by 
          unfold deepK1
          split
          · simp
          · split <;> simp
        rw [deepK, List.length_append, List.length_cons]
        omega
    have hS : ∀ m i, (shutK m i).length = m := by
      intro m
      induction m with
      | zero => intro i; rfl
      | succ m ih => intro i; rw [shutK, List.length_cons, ih]
    have := hK ks 12
    rw [List.length_append, hS]
    omega
  obtain ⟨ha, hx⟩ := deep_stmts ks _ 1 e 0 12 h hfu (by omega)
  rw [Nat.add_zero] at ha hx
  refine ⟨fun hlt => ?_, fun hge => ?_⟩
  · obtain ⟨B, hB⟩ := ha (by omega)
    refine ⟨⟨[], [], [⟨[109, 97, 105, 110], 0, B⟩]⟩, ?_, rfl⟩
    rw [hb, hB]
    rfl
  · have hB := hx (by omega)
    rw [hb, hB]

end Go.Proofs.Ytonpfmhdefhhmaa
