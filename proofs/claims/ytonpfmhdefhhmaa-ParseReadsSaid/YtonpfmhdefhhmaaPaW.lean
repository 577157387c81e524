/-
  What raw statements make: statements, programs, how many, how deep. No walk is here.
-/
import Derived.Test.YtonpfmhdefhhmaaPaU
import Derived.Deep.Slices
import Derived.Deep.Fields
namespace Go.Proofs.Ytonpfmhdefhhmaa
set_option maxRecDepth 100000
set_option linter.unusedVariables false
open Go.RowKit Go.Sort Go.ChangeShapes Go.WideShapes Go.Deep

/-- Raw statements in a row: of the first its two numbers, its two rows; what is behind it. -/
inductive RawM where
  | nil
  | cons (k n : Int) (a b rest : RawM)
def RawM.len : RawM → Nat
  | .nil => 0
  | .cons _ _ _ _ r => r.len + 1
def RowR (w : World) (E : List Value → Prop) (n : Nat) (v : Value) : Prop :=
  ∃ a c, v = .slice a n c ∧ n ≤ maxLen ∧ (0 < n → ∃ g o xs, a = some ⟨g, o, none⟩ ∧ g < w.heap.size ∧ w.rangeAt g o xs ∧ E xs)
def EncR (w : World) : RawM → List Value → Prop
  | .nil, xs => xs = []
  | .cons k n a b r, xs => ∃ va vb xr, xs = .int .i64 k :: .int .i64 n :: va :: vb :: xr ∧ RowR w (EncR w a) a.len va ∧ RowR w (EncR w b) b.len vb ∧ EncR w r xr
def RawAt (w : World) (v : Value) (r : RawM) : Prop := RowR w (EncR w r) r.len v

theorem RowR.more {w w' : World} {E E' : List Value → Prop} {n : Nat} {v : Value} (h : RowR w E n v) (hO : Only [] w w') (hE : ∀ xs, E xs → E' xs) : RowR w' E' n v := by
  obtain ⟨a, c, rfl, hn, h⟩ := h
  refine ⟨a, c, rfl, hn, fun h0 => ?_⟩
  obtain ⟨g, o, xs, rfl, hg, hr, he⟩ := h h0
  exact ⟨g, o, xs, rfl, Nat.lt_of_lt_of_le hg hO.size, rangeAt_only hr hO hg (by simp), hE xs he⟩
theorem EncR.more {w w' : World} (hO : Only [] w w') : ∀ {r : RawM} {xs : List Value}, EncR w r xs → EncR w' r xs
  | .nil, xs, h => h
  | .cons k n a b r, xs, h => by
    obtain ⟨va, vb, xr, rfl, h1, h2, h3⟩ := h
    exact ⟨va, vb, xr, rfl, h1.more hO (fun xs => EncR.more hO), h2.more hO (fun xs => EncR.more hO), EncR.more hO h3⟩
theorem RawAt.more {w w' : World} {v : Value} {r : RawM} (h : RawAt w v r) (hO : Only [] w w') : RawAt w' v r := RowR.more h hO (fun xs => EncR.more hO)

theorem raws_open {H : Type} {enc : TypeId × Value → H} {W : World} : ∀ (N fuel : Nat), fuel ≤ N → ∀ (cs : List Value) (x : DataW H × List MemPlace),
    DataW.trod enc Try.prog W 0 (fun _ => true) true fuel 22 cs = some x → ∃ v r, cs = [v] ∧ RawAt W v r := by
  intro N
  induction N with
  | zero =>
    intro fuel hN cs x h
    rcases DataW.trod_slice Try.underlying22 h with ⟨rfl, -⟩ | ⟨a, len, cap, elems, rest, n, hf, -⟩
    · exact ⟨_, .nil, rfl, none, 0, rfl, Nat.zero_le _, fun h => by simp [RawM.len] at h⟩
    · omega
  | succ N ih =>
    intro fuel hN cs x h
    rcases DataW.trod_slice Try.underlying22 h with ⟨rfl, -⟩ | ⟨a, len, cap, elems, rest, n, hf, rfl, rfl, -, hlc, hcm, hel, hx, -, -⟩
    · exact ⟨_, .nil, rfl, none, 0, rfl, Nat.zero_le _, fun h => by simp [RawM.len] at h⟩
    · have c4 : Try.prog.cellsOf 99 = 4 := by kernel_rfl
      rw [c4] at hx
      by_cases h0 : len = 0
      · subst h0; exact ⟨_, .nil, rfl, some a, cap, rfl, Nat.zero_le _, fun h => by simp [RawM.len] at h⟩
      have hx' : ∀ i, i < len → ∃ cs' y, W.cells? 0 (a.add (i * 4)) 4 = some cs' ∧ DataW.trod enc Try.prog W 0 (fun _ => true) true n 99 cs' = some y := by
        intro i hi
        have h1 := hx i hi
        rw [List.getElem?_eq_getElem (by omega)] at h1
        obtain ⟨cs', h2, h3⟩ := Option.bind_eq_some_iff.1 h1
        exact ⟨cs', _, h2, h3⟩
      obtain ⟨b, o, sp0⟩ := a
      have hspot : sp0 = none := by
        obtain ⟨cs', y, hc, _⟩ := hx' 0 (by omega)
        obtain ⟨_, hcl, hat⟩ := World.cells?_some hc
        have h1 := hat 0 (by omega)
        rw [List.getElem?_eq_getElem (by omega)] at h1
        simpa [Addr.add] using World.cell?_spot h1
      subst hspot
      have hb : b < W.heap.size := by
        obtain ⟨cs', y, hc, _⟩ := hx' 0 (by omega)
        obtain ⟨_, hcl, hat⟩ := World.cells?_some hc
        have h1 := hat 0 (by omega)
        rw [List.getElem?_eq_getElem (by omega)] at h1
        have := World.block_lt_of_cell? W _ h1
        simpa [Addr.add] using this
      have hall : ∀ i, i < len → ∃ (k m : Int) (va vb : Value) (ra rb : RawM), W.rangeAt b (o + i * 4) [.int .i64 k, .int .i64 m, va, vb] ∧ RawAt W va ra ∧ RawAt W vb rb := by
        intro i hi
        obtain ⟨cs', y, hc, ht⟩ := hx' i hi
        obtain ⟨_, hcl, hat⟩ := World.cells?_some hc
        obtain ⟨xs, m, hm, _, _, hlen, hfi⟩ := DataW.trod_struct Try.underlying99 ht
        match cs', hcl with
        | [v0, v1, v2, v3], _ =>
          match xs, hlen with
          | [y0, y1, y2, y3], _ =>
            have ci : Try.prog.cellsOf 3 = 1 := by kernel_rfl
            have cr : Try.prog.cellsOf 22 = 1 := by kernel_rfl
            have g0 := hfi 0 _ rfl
            have g1 := hfi 1 _ rfl
            have g2 := hfi 2 _ rfl
            have g3 := hfi 3 _ rfl
            simp [ci, cr] at g0 g1 g2 g3
            obtain ⟨z0, e0, _, _⟩ := DataW.trod_int Try.underlying3 g0
            obtain ⟨z1, e1, _, _⟩ := DataW.trod_int Try.underlying3 g1
            simp at e0 e1
            subst e0 e1
            obtain ⟨va, ra, e2, h2⟩ := ih m (by omega) _ _ g2
            obtain ⟨vb, rb, e3, h3⟩ := ih m (by omega) _ _ g3
            simp at e2 e3
            subst e2 e3
            refine ⟨z0, z1, v2, v3, ra, rb, fun j u hu => ?_, h2, h3⟩
            have hj : j < 4 := by have := (List.getElem?_eq_some_iff.1 hu).1; simpa using this
            have h4 := hat j (by omega)
            rw [hu, Addr.add_mid, Addr.add_mid] at h4
            exact h4
      have key : ∀ j, j ≤ len → ∃ r xs, r.len = j ∧ EncR W r xs ∧ W.rangeAt b (o + (len - j) * 4) xs := by
        intro j
        induction j with
        | zero => intro _; exact ⟨.nil, [], rfl, rfl, fun i u hu => by simp at hu⟩
        | succ j ihj =>
          intro hj
          obtain ⟨r, xs, h1, h2, h3⟩ := ihj (by omega)
          obtain ⟨k, m, va, vb, ra, rb, h4, h5, h6⟩ := hall (len - (j + 1)) (by omega)
          refine ⟨.cons k m ra rb r, .int .i64 k :: .int .i64 m :: va :: vb :: xs, by rw [RawM.len, h1], ⟨va, vb, xs, rfl, h5, h6, h2⟩, fun i u hu => ?_⟩
          match i with
          | 0 => exact h4 0 u hu
          | 1 => exact h4 1 u hu
          | 2 => exact h4 2 u hu
          | 3 => exact h4 3 u hu
          | i + 4 =>
            have := h3 i u hu
            rw [show o + (len - j) * 4 + i = o + (len - (j + 1)) * 4 + (i + 4) by omega] at this
            exact this
      obtain ⟨r, xs, h1, h2, h3⟩ := key len (Nat.le_refl _)
      rw [Nat.sub_self, Nat.zero_mul, Nat.add_zero] at h3
      refine ⟨_, r, rfl, some ⟨b, o, none⟩, cap, by rw [h1], by rw [h1]; omega, fun _ => ⟨b, o, xs, rfl, hb, h3, h2⟩⟩

theorem raws_of_read {H : Type} {enc : TypeId × Value → H} {W : World} {a : Option Addr} {len cap : Nat} {d : DataW H} {p : List MemPlace}
    (h : DataW.Trod enc Try.prog W 0 (fun _ => true) true 22 (.slice a len cap) d p) : ∃ r, RawAt W (.slice a len cap) r := by
  obtain ⟨fuel, hf⟩ := h
  obtain ⟨v, r, h1, h2⟩ := raws_open fuel fuel (Nat.le_refl _) _ _ hf
  simp [Value.cells] at h1
  subst h1
  exact ⟨r, h2⟩

end Go.Proofs.Ytonpfmhdefhhmaa
namespace Go.Proofs.Ytonpfmhdefhhmaa
set_option maxRecDepth 100000
set_option linter.unusedVariables false
open Go.RowKit Go.Sort

def varsT : List (List UInt8) := [[120], [121], [122]]
def locksT : List (List UInt8) := [[108], [109], [110]]
def funcsT : List (List UInt8) := [[102], [103], [104], [109, 97, 105, 110]]
def nameR (k : Nat) (n : Int) : List UInt8 := if k ≤ 2 then varsT.getD (inM n 3) [] else if k ≤ 4 then locksT.getD (inM n 3) [] else if k ≤ 6 then funcsT.getD (inM n 4) [] else []
def kindR (k : Int) : Nat := 1 + inM k 8
def blockR : RawM → Blk
  | .nil => .nil
  | .cons k n a b r => .cons (kindR k) 0 (nameR (kindR k) n) (if 7 ≤ kindR k then blockR a else .nil) (if kindR k = 7 then blockR b else .nil) (blockR r)
theorem len_blockR : ∀ r, (blockR r).len = r.len
  | .nil => rfl
  | .cons k n a b r => by rw [blockR, Blk.len, RawM.len, len_blockR r]
theorem kindR_le (k : Int) : 1 ≤ kindR k ∧ kindR k ≤ 8 := by have := inM_lt k 8 (by omega); unfold kindR; omega
theorem nameR_ok (k : Nat) (n : Int) (h : k ≤ 6) : nameM (nameR k n) = true ∧ (nameR k n).length ≤ 4 := by
  have h3 := inM_lt n 3 (by omega)
  have h4 := inM_lt n 4 (by omega)
  unfold nameR
  generalize inM n 3 = i at *
  generalize inM n 4 = j at *
  have e1 : ∀ i : Fin 3, nameM (varsT.getD i.1 []) = true ∧ (varsT.getD i.1 []).length ≤ 4 := by decide
  have e2 : ∀ i : Fin 3, nameM (locksT.getD i.1 []) = true ∧ (locksT.getD i.1 []).length ≤ 4 := by decide
  have e3 : ∀ i : Fin 4, nameM (funcsT.getD i.1 []) = true ∧ (funcsT.getD i.1 []).length ≤ 4 := by decide
  split
  · exact e1 ⟨i, h3⟩
  · split
    · exact e2 ⟨i, h3⟩
    · exact e3 ⟨j, h4⟩
theorem nameR_nil (k : Nat) (n : Int) (h : 7 ≤ k) : nameR k n = [] := by unfold nameR; rw [if_neg (by omega), if_neg (by omega), if_neg (by omega)]

/-- How many, as the laws count them: no further than need be. -/
def sizeL : RawM → Nat → Nat → Nat
  | .nil, _, n => n
  | .cons _ _ a b r, d, n => if n ≤ 40 then sizeL r d (n + 1 + (if 12 < d + 1 then 1000 else sizeL a (d + 1) 0) + (if 12 < d + 1 then 1000 else sizeL b (d + 1) 0)) else n
def sizeM (r : RawM) (d : Nat) : Nat := if 12 < d then 1000 else sizeL r d 0
theorem size_ge : ∀ (r : RawM) (d n : Nat), n ≤ sizeL r d n
  | .nil, d, n => Nat.le_refl _
  | .cons _ _ a b r, d, n => by
    rw [sizeL]
    split
    · exact Nat.le_trans (by omega) (size_ge r d _)
    · exact Nat.le_refl _
def topN : Nat → Nat
  | 0 => 1000
  | k + 1 => 41 + 2 * topN k
theorem topN_le (k : Nat) (h : k ≤ 13) : topN k ≤ 9000000 := by
  have : ∀ i : Fin 14, topN i.1 ≤ 9000000 := by decide +kernel
  exact this ⟨k, by omega⟩
/-- It is no large number. -/
theorem size_up : ∀ (r : RawM) (d n : Nat), d ≤ 12 → sizeL r d n ≤ max n (41 + 2 * topN (12 - d))
  | .nil, d, n, _ => by rw [sizeL]; omega
  | .cons _ _ a b r, d, n, hd => by
    rw [sizeL]
    have hs : ∀ x : RawM, (d + 1 ≤ 12 → sizeL x (d + 1) 0 ≤ max 0 (41 + 2 * topN (12 - (d + 1)))) → (if 12 < d + 1 then 1000 else sizeL x (d + 1) 0) ≤ topN (12 - d) := by
      intro x hx
      split
      · rw [show 12 - d = 0 by omega]; exact Nat.le_refl _
      · have := hx (by omega)
        rw [show 12 - d = (12 - (d + 1)) + 1 by omega, topN]
        omega
    split
    · have h1 := hs a (fun h => size_up a (d + 1) 0 h)
      have h2 := hs b (fun h => size_up b (d + 1) 0 h)
      have h3 := size_up r d (n + 1 + (if 12 < d + 1 then 1000 else sizeL a (d + 1) 0) + (if 12 < d + 1 then 1000 else sizeL b (d + 1) 0)) hd
      omega
    · omega
theorem sizeM_up (r : RawM) (d : Nat) (h : d ≤ 13) : sizeM r d ≤ 9000000 := by
  unfold sizeM
  split
  · omega
  · have h1 := size_up r d 0 (by omega)
    have h2 := topN_le ((12 - d) + 1) (by omega)
    rw [topN] at h2
    omega
theorem size_cons (k n : Int) (a b r : RawM) (d m : Nat) (h : m ≤ 40) : sizeL (.cons k n a b r) d m = sizeL r d (m + 1 + sizeM a (d + 1) + sizeM b (d + 1)) := by rw [sizeL, if_pos h]; rfl

/-- What is not too much goes not too deep. -/
theorem size_good : ∀ (r : RawM) (d n : Nat), d ≤ 12 → sizeL r d n ≤ 40 → GoodB (d + 1) (blockR r) ∧ n + (blockR r).cnt ≤ sizeL r d n
  | .nil, d, n, _, _ => ⟨trivial, by simp [sizeL, blockR, Blk.cnt]⟩
  | .cons k z a b r, d, n, hd, h => by
    by_cases hn : n ≤ 40
    · rw [size_cons _ _ _ _ _ _ _ hn] at h ⊢
      have hge := size_ge r d (n + 1 + sizeM a (d + 1) + sizeM b (d + 1))
      have hd2 : d + 1 ≤ 12 := by
        have : sizeM a (d + 1) ≤ 40 := by omega
        unfold sizeM at this
        split at this <;> omega
      have ea : sizeM a (d + 1) = sizeL a (d + 1) 0 := by unfold sizeM; rw [if_neg (by omega)]
      have eb : sizeM b (d + 1) = sizeL b (d + 1) 0 := by unfold sizeM; rw [if_neg (by omega)]
      obtain ⟨ga, ca⟩ := size_good a (d + 1) 0 hd2 (by omega)
      obtain ⟨gb, cb⟩ := size_good b (d + 1) 0 hd2 (by omega)
      obtain ⟨gr, cr⟩ := size_good r d _ hd h
      obtain ⟨k1, k2⟩ := kindR_le k
      rw [blockR]
      refine ⟨⟨?_, gr⟩, ?_⟩
      · by_cases h6 : kindR k ≤ 6
        · exact .inl ⟨k1, h6, (nameR_ok _ z h6).1, by rw [if_neg (by omega)], by rw [if_neg (by omega)]⟩
        · by_cases h7 : kindR k = 7
          · refine .inr (.inl ⟨h7, nameR_nil _ _ (by omega), by omega, ?_, ?_⟩)
            · rw [if_pos (by omega)]; exact ga
            · rw [if_pos h7]; exact gb
          · refine .inr (.inr ⟨by omega, nameR_nil _ _ (by omega), by omega, ?_, ?_⟩)
            · rw [if_pos (by omega)]; exact ga
            · rw [if_neg h7]
      · rw [Blk.cnt]
        have h1 : (if 7 ≤ kindR k then blockR a else Blk.nil).cnt ≤ (blockR a).cnt := by split <;> simp [Blk.cnt]
        have h2 : (if kindR k = 7 then blockR b else Blk.nil).cnt ≤ (blockR b).cnt := by split <;> simp [Blk.cnt]
        omega
    · rw [sizeL, if_neg hn] at h
      omega
def FewR (r : RawM) : Prop := sizeM r 0 ≤ 40
theorem few_good {r : RawM} (h : FewR r) : GoodB 1 (blockR r) ∧ (blockR r).cnt ≤ 40 := by
  unfold FewR sizeM at h
  rw [if_neg (by omega)] at h
  obtain ⟨h1, h2⟩ := size_good r 0 0 (by omega) h
  exact ⟨h1, by omega⟩
theorem good_kok : ∀ (b : Blk) (d : Nat), GoodB d b → KOk b
  | .nil, _, _ => trivial
  | .cons k p n a b r, d, h => by
    refine ⟨by rcases h.1 with h | h | h <;> omega, ?_, ?_, good_kok r d h.2⟩
    · rcases h.1 with ⟨-, -, -, rfl, -⟩ | ⟨-, -, -, h1, h2⟩ | ⟨-, -, -, h1, h2⟩
      · trivial
      · exact good_kok a _ h1
      · exact good_kok a _ h1
    · rcases h.1 with ⟨-, -, -, -, rfl⟩ | ⟨-, -, -, h1, h2⟩ | ⟨-, -, -, h1, rfl⟩
      · trivial
      · exact good_kok b _ h2
      · trivial
theorem verb_len (k : Nat) (h1 : 1 ≤ k) (h2 : k ≤ 8) : (verbM k).length ≤ 6 := by
  have : ∀ i : Fin 9, (verbM i.1).length ≤ 6 := by decide
  exact this ⟨k, by omega⟩
theorem good_len : ∀ (b : Blk) (d : Nat), GoodB d b → wl (innerM b) ≤ 20 * b.cnt
  | .nil, _, _ => by simp [innerM, wl]
  | .cons k p n a b r, d, h => by
    have hr := good_len r d h.2
    rw [inner_cons, wl_append, Blk.cnt]
    rcases h.1 with ⟨g1, g2, g3, rfl, rfl⟩ | ⟨rfl, rfl, g3, g4, g5⟩ | ⟨rfl, rfl, g3, g4, rfl⟩
    · have h1 := verb_len k g1 (by omega)
      have h2 : n.length ≤ 12 := by
        unfold nameM at g3
        simp only [Bool.and_eq_true, decide_eq_true_eq] at g3
        exact g3.1.1.2
      rw [headM, if_neg (by omega), if_neg (by omega), wl_cons, wl_cons]
      simp only [wl, List.map_nil, List.sum_nil, Blk.cnt] at *
      omega
    · have ha := good_len a _ g4
      have hb := good_len b _ g5
      by_cases hz : b.len = 0
      · have hbn := Blk.len_zero b hz
        subst hbn
        have e1 : headM 7 [] a .nil = [verbM 7, openW] ++ (innerM a ++ [closeW]) := by simp [headM, Blk.len]
        have e2 : wl [verbM 7, openW] = 5 := by decide
        have e3 : wl [closeW] = 2 := by decide
        rw [e1, wl_append, wl_append, e2, e3]
        simp only [Blk.cnt]
        omega
      · have e1 : headM 7 [] a b = [verbM 7, openW] ++ (innerM a ++ ([closeW, elseM, openW] ++ (innerM b ++ [closeW]))) := by simp [headM, hz]
        have e2 : wl [verbM 7, openW] = 5 := by decide
        have e3 : wl [closeW] = 2 := by decide
        have e4 : wl [closeW, elseM, openW] = 9 := by decide
        rw [e1, wl_append, wl_append, wl_append, wl_append, e2, e3, e4]
        omega
    · have ha := good_len a _ g4
      have e1 : headM 8 [] a .nil = [verbM 8, openW] ++ (innerM a ++ [closeW]) := by simp [headM]
      have e2 : wl [verbM 8, openW] = 7 := by decide
      have e3 : wl [closeW] = 2 := by decide
      rw [e1, wl_append, wl_append, e2, e3]
      simp only [Blk.cnt]
      omega

/-! ### Programs -/

def mainW : List UInt8 := [109, 97, 105, 110]
def progR (m f g h : RawM) (t : Int) : ProgM :=
  ⟨[⟨[120], 0⟩, ⟨[121], 0⟩, ⟨[122], 0⟩], if inM t 3 = 0 then [⟨[110], 0⟩, ⟨[108], 0⟩, ⟨[109], 0⟩] else [⟨[108], 0⟩, ⟨[109], 0⟩, ⟨[110], 0⟩],
    if inM t 2 = 0 then [⟨[103], 0, blockR g⟩, ⟨[102], 0, blockR f⟩, ⟨mainW, 0, blockR m⟩, ⟨[104], 0, blockR h⟩]
    else [⟨mainW, 0, blockR m⟩, ⟨[102], 0, blockR f⟩, ⟨[103], 0, blockR g⟩, ⟨[104], 0, blockR h⟩]⟩
theorem progR_good {m f g h : RawM} (t : Int) (hm : FewR m) (hf : FewR f) (hg : FewR g) (hh : FewR h) : (∀ x ∈ itemsP (progR m f g h t), GoodI x) ∧ (∀ x ∈ (progR m f g h t).funcs, BodyOk x) ∧ (progT (progR m f g h t)).length ≤ 4000 := by
  have gm := few_good hm
  have gf := few_good hf
  have gg := few_good hg
  have gh := few_good hh
  have hI : ∀ x ∈ itemsP (progR m f g h t), GoodI x := by
    intro x hx
    unfold itemsP progR at hx
    simp only [List.mem_append, List.map_cons, List.map_nil] at hx
    rcases hx with (hx | hx) | hx
    · simp only [List.mem_cons, List.not_mem_nil, or_false] at hx
      rcases hx with rfl | rfl | rfl <;> (show nameM _ = true; decide)
    · split at hx
      · simp only [List.map_cons, List.map_nil, List.mem_cons, List.not_mem_nil, or_false] at hx
        rcases hx with rfl | rfl | rfl <;> (show nameM _ = true; decide)
      · simp only [List.map_cons, List.map_nil, List.mem_cons, List.not_mem_nil, or_false] at hx
        rcases hx with rfl | rfl | rfl <;> (show nameM _ = true; decide)
    · split at hx
      · simp only [List.map_cons, List.map_nil, List.mem_cons, List.not_mem_nil, or_false] at hx
        rcases hx with rfl | rfl | rfl | rfl
        · exact ⟨by decide, gg.1⟩
        · exact ⟨by decide, gf.1⟩
        · exact ⟨by decide, gm.1⟩
        · exact ⟨by decide, gh.1⟩
      · simp only [List.map_cons, List.map_nil, List.mem_cons, List.not_mem_nil, or_false] at hx
        rcases hx with rfl | rfl | rfl | rfl
        · exact ⟨by decide, gm.1⟩
        · exact ⟨by decide, gf.1⟩
        · exact ⟨by decide, gg.1⟩
        · exact ⟨by decide, gh.1⟩
  have hB : ∀ x ∈ (progR m f g h t).funcs, BodyOk x ∧ (lineF x).length ≤ 850 := by
    have hone : ∀ (n : List UInt8) (r : RawM), n.length ≤ 4 → GoodB 1 (blockR r) ∧ (blockR r).cnt ≤ 40 → BodyOk ⟨n, 0, blockR r⟩ ∧ (lineF ⟨n, 0, blockR r⟩).length ≤ 850 := by
      intro n r hn hr
      refine ⟨⟨by show (blockR r).cnt ≤ 100000; omega, good_kok _ _ hr.1⟩, ?_⟩
      have h1 := good_len _ _ hr.1
      have e : (lineF ⟨n, 0, blockR r⟩).length = wl ([funcW, n] ++ wordsB (blockR r)) := line_len (by simp)
      have e2 : wl [openW] = 2 := by decide
      have e3 : wl [closeW] = 2 := by decide
      rw [e, wl_append, wordsB, wl_append, wl_append, e2, e3, wl_cons, wl_cons]
      simp only [wl, List.map_nil, List.sum_nil, funcW, List.length_cons, List.length_nil] at *
      omega
    intro x hx
    unfold progR at hx
    simp only at hx
    split at hx
    · simp only [List.mem_cons, List.not_mem_nil, or_false] at hx
      rcases hx with rfl | rfl | rfl | rfl
      · exact hone _ _ (by decide) gg
      · exact hone _ _ (by decide) gf
      · exact hone _ _ (by decide) gm
      · exact hone _ _ (by decide) gh
    · simp only [List.mem_cons, List.not_mem_nil, or_false] at hx
      rcases hx with rfl | rfl | rfl | rfl
      · exact hone _ _ (by decide) gm
      · exact hone _ _ (by decide) gf
      · exact hone _ _ (by decide) gg
      · exact hone _ _ (by decide) gh
  refine ⟨hI, fun x hx => (hB x hx).1, ?_⟩
  have hfl : ((progR m f g h t).funcs.flatMap lineF).length ≤ 3400 := by
    have h4 : (progR m f g h t).funcs.length = 4 := by unfold progR; simp only; split <;> rfl
    have : ∀ l : List FuncM, (∀ x ∈ l, (lineF x).length ≤ 850) → (l.flatMap lineF).length ≤ 850 * l.length := by
      intro l
      induction l with
      | nil => intro _; simp
      | cons x l ih =>
        intro hl
        have h1 := ih (fun y hy => hl y (by simp [hy]))
        have h2 := hl x (by simp)
        rw [List.flatMap_cons, List.length_append, List.length_cons]
        omega
    have := this _ (fun x hx => (hB x hx).2)
    omega
  have hv : ((progR m f g h t).vars.flatMap (lineD varW)).length = 18 := by unfold progR; rfl
  have hk : ((progR m f g h t).locks.flatMap (lineD lockW)).length = 21 := by unfold progR; simp only; split <;> rfl
  unfold progT
  rw [List.length_append, List.length_append, hv, hk]
  omega

end Go.Proofs.Ytonpfmhdefhhmaa
