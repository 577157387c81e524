/-
  Same of the package parse: sameDecl, sameFunc, slices.EqualFunc over both.
-/
import Derived.Test.YtildkedplmjdaaaGreatDoorPaW
namespace Go.Proofs.YtildkedplmjdaaaGreatDoor
set_option maxRecDepth 100000
set_option linter.unusedVariables false
open Go.RowKit Go.Sort

def sameB : Blk → Blk → Bool
  | .nil, .nil => true
  | .cons k _ n a b r, .cons k' _ n' a' b' r' => decide (k = k') && decide (n = n') && sameB a a' && sameB b b' && sameB r r'
  | _, _ => false
theorem sameB_len : ∀ (x y : Blk), x.len ≠ y.len → sameB x y = false
  | .nil, .nil, h => absurd rfl h
  | .nil, .cons _ _ _ _ _ _, _ => rfl
  | .cons _ _ _ _ _ _, .nil, _ => rfl
  | .cons k _ n a b r, .cons k' _ n' a' b' r', h => by
    rw [sameB, sameB_len r r' (fun e => h (by rw [Blk.len, Blk.len, e]))]
    simp
theorem sameB_iff : ∀ (x y : Blk), sameB x y = decide (eraseB x = eraseB y)
  | .nil, .nil => by simp [sameB]
  | .nil, .cons _ _ _ _ _ _ => by simp [sameB, eraseB]
  | .cons _ _ _ _ _ _, .nil => by simp [sameB, eraseB]
  | .cons k _ n a b r, .cons k' _ n' a' b' r' => by
    rw [sameB, sameB_iff a a', sameB_iff b b', sameB_iff r r', eraseB, eraseB]
    simp only [Blk.cons.injEq, true_and, Bool.decide_and, Bool.and_assoc]

/-- Two blocks that are still to be held against each other. -/
structure PB where
  a : Option Addr
  ca : Nat
  A : Blk
  b : Option Addr
  cb : Nat
  B : Blk
def pbCells (l : List PB) : List Value := l.flatMap fun x => [.slice x.a x.A.len x.ca, .slice x.b x.B.len x.cb]
theorem pbCells_snoc (l : List PB) (x : PB) : pbCells (l ++ [x]) = pbCells l ++ [.slice x.a x.A.len x.ca, .slice x.b x.B.len x.cb] := by simp [pbCells]
def PbAt (w : World) (x : PB) : Prop := (∃ fa, BlkAt w (.slice x.a x.A.len x.ca) x.A fa) ∧ (∃ fb, BlkAt w (.slice x.b x.B.len x.cb) x.B fb) ∧ x.A.cnt ≤ 100000 ∧ x.B.cnt ≤ 100000
def ssM (l : List PB) : Bool := l.all fun x => sameB x.A x.B
theorem ssM_snoc (l : List PB) (x : PB) : ssM (l ++ [x]) = (ssM l && sameB x.A x.B) := by simp [ssM]
def pbWt (l : List PB) : Nat := (l.map fun x => 2 * x.A.cnt + 1).sum
theorem pbWt_snoc (l : List PB) (x : PB) : pbWt (l ++ [x]) = pbWt l + (2 * x.A.cnt + 1) := by simp [pbWt]
theorem pbWt_len : ∀ (l : List PB), l.length ≤ pbWt l
  | [] => Nat.le_refl _
  | x :: r => by have := pbWt_len r; simp only [pbWt, List.map_cons, List.sum_cons, List.length_cons] at *; omega
def addP (l : List PB) (x : PB) : List PB := if x.A.len + x.B.len = 0 then l else l ++ [x]
theorem addP_ss (l : List PB) (x : PB) : ssM (addP l x) = (ssM l && sameB x.A x.B) := by
  unfold addP
  split
  · rename_i h
    have h1 := Blk.len_zero x.A (by omega)
    have h2 := Blk.len_zero x.B (by omega)
    rw [h1, h2]
    simp [sameB]
  · exact ssM_snoc l x
theorem addP_wt (l : List PB) (x : PB) : pbWt (addP l x) ≤ pbWt l + (2 * x.A.cnt + 1) := by
  unfold addP
  split
  · omega
  · rw [pbWt_snoc]; omega
theorem mem_addP {l : List PB} {x y : PB} (h : y ∈ addP l x) : y ∈ l ∨ y = x := by
  unfold addP at h
  split at h
  · exact .inl h
  · simpa using h
theorem blk_open {w : World} {a : Option Addr} {c : Nat} {b : Blk} (h : ∃ fp, BlkAt w (.slice a b.len c) b fp) : ∃ xs fq, EncB w b xs fq ∧ (0 < b.len → ∃ g, a = some ⟨g, 0, none⟩ ∧ g < w.heap.size ∧ w.rangeAt g 0 xs) := by
  obtain ⟨fp, h⟩ := h
  rcases h with ⟨h1, h2, h3⟩ | ⟨g, c', fq, xs, h1, hc, hn, h3, ⟨cs, t, hg⟩, hr, he⟩
  · have hb := Blk.len_zero b h2
    subst hb
    exact ⟨[], [], ⟨rfl, rfl⟩, fun h => by simp [Blk.len] at h⟩
  · injection h1 with h4 h5 h6
    exact ⟨xs, fq, he, fun _ => ⟨g, h4, hg.lt, hr⟩⟩

end Go.Proofs.YtildkedplmjdaaaGreatDoor
namespace Go.Proofs.YtildkedplmjdaaaGreatDoor
set_option maxRecDepth 100000
set_option linter.unusedVariables false
open Go.RowKit Go.Sort

def sameD : List DeclM → List DeclM → Bool
  | [], [] => true
  | x :: l, y :: m => decide (x.name = y.name) && sameD l m
  | _, _ => false
def sameF : List FuncM → List FuncM → Bool
  | [], [] => true
  | x :: l, y :: m => decide (x.name = y.name) && sameB x.body y.body && sameF l m
  | _, _ => false
theorem sameD_len : ∀ (l m : List DeclM), l.length ≠ m.length → sameD l m = false
  | [], [], h => absurd rfl h
  | [], _ :: _, _ => rfl
  | _ :: _, [], _ => rfl
  | x :: l, y :: m, h => by rw [sameD, sameD_len l m (fun e => h (by rw [List.length_cons, List.length_cons, e]))]; simp
theorem sameD_drop (l m : List DeclM) (i : Nat) (x y : DeclM) (hx : l[i]? = some x) (hy : m[i]? = some y) : sameD (l.drop i) (m.drop i) = (decide (x.name = y.name) && sameD (l.drop (i + 1)) (m.drop (i + 1))) := by
  obtain ⟨h1, h2⟩ := List.getElem?_eq_some_iff.1 hx
  obtain ⟨h3, h4⟩ := List.getElem?_eq_some_iff.1 hy
  rw [List.drop_eq_getElem_cons h1, List.drop_eq_getElem_cons h3, h2, h4, sameD]
theorem sameF_len : ∀ (l m : List FuncM), l.length ≠ m.length → sameF l m = false
  | [], [], h => absurd rfl h
  | [], _ :: _, _ => rfl
  | _ :: _, [], _ => rfl
  | x :: l, y :: m, h => by rw [sameF, sameF_len l m (fun e => h (by rw [List.length_cons, List.length_cons, e]))]; simp
theorem sameF_drop (l m : List FuncM) (i : Nat) (x y : FuncM) (hx : l[i]? = some x) (hy : m[i]? = some y) : sameF (l.drop i) (m.drop i) = ((decide (x.name = y.name) && sameB x.body y.body) && sameF (l.drop (i + 1)) (m.drop (i + 1))) := by
  obtain ⟨h1, h2⟩ := List.getElem?_eq_some_iff.1 hx
  obtain ⟨h3, h4⟩ := List.getElem?_eq_some_iff.1 hy
  rw [List.drop_eq_getElem_cons h1, List.drop_eq_getElem_cons h3, h2, h4, sameF]
theorem sameD_iff : ∀ (l m : List DeclM), sameD l m = decide (eraseD l = eraseD m)
  | [], [] => by simp [sameD]
  | [], _ :: _ => by simp [sameD, eraseD]
  | _ :: _, [] => by simp [sameD, eraseD]
  | x :: l, y :: m => by
    show (decide (x.name = y.name) && sameD l m) = decide ((⟨x.name, 0⟩ : DeclM) :: eraseD l = ⟨y.name, 0⟩ :: eraseD m)
    rw [sameD_iff l m]
    simp only [List.cons.injEq, DeclM.mk.injEq, and_true, Bool.decide_and]
theorem sameF_iff : ∀ (l m : List FuncM), sameF l m = decide (eraseF l = eraseF m)
  | [], [] => by simp [sameF]
  | [], _ :: _ => by simp [sameF, eraseF]
  | _ :: _, [] => by simp [sameF, eraseF]
  | x :: l, y :: m => by
    show (decide (x.name = y.name) && sameB x.body y.body && sameF l m) = decide ((⟨x.name, 0, eraseB x.body⟩ : FuncM) :: eraseF l = ⟨y.name, 0, eraseB y.body⟩ :: eraseF m)
    rw [sameF_iff l m, sameB_iff]
    simp only [List.cons.injEq, FuncM.mk.injEq, true_and, Bool.decide_and]

def sameP (P Q : ProgM) : Bool := sameD P.vars Q.vars && (sameD P.locks Q.locks && sameF P.funcs Q.funcs)
theorem sameP_iff (P Q : ProgM) : sameP P Q = decide (eraseP P = eraseP Q) := by
  unfold sameP eraseP
  rw [sameD_iff, sameD_iff, sameF_iff]
  simp only [ProgM.mk.injEq, Bool.decide_and]

end Go.Proofs.YtildkedplmjdaaaGreatDoor
