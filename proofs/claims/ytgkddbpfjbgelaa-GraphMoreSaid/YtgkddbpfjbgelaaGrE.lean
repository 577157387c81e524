/-
  The closures that note who is left; tour of the package graph.
-/
import Derived.Test.YtgkddbpfjbgelaaGrD
import Derived.Deep.LoopGhost
namespace Go.Proofs.Ytgkddbpfjbgelaa
set_option maxRecDepth 100000
set_option linter.unusedVariables false
open Go.RowKit Go.Sort

/-- What noting a place leaves: a variable at q that holds a row of one's own. -/
def NoteTo (w : World) (base q : Nat) (v : Value) (l : List Nat) (k : Nat) (r : Ending) (w' : World) : Prop :=
  r = .returned (.tuple #[]) ∧ ∃ v', IsBlk w' q (.cells #[v'] 22) ∧ RowI w' base v' (l ++ [k]) ∧ Only (q :: ownL v) w w' ∧ (v'.ownBlock = v.ownBlock ∨ ∃ b, v'.ownBlock = some b ∧ w.heap.size ≤ b)
/-- A function that notes. -/
def Notes (K : Nat) : Prop := ∀ (w : World) (base q : Nat) (v : Value) (l : List Nat) (k : Nat), IsBlk w q (.cells #[v] 22) → RowI w base v l → (∀ b, v.ownBlock = some b → b ≠ q) → l.length ≤ 200000 → base ≤ w.heap.size →
  Calls Try.prog K #[iv k, .pointer (some ⟨q, 0, none⟩)] w (NoteTo w base q v l k)

set_option maxHeartbeats 4000000 in
theorem note1_any : Notes 48 := by
  intro w base q v l k hq hv hne hl hbase
  have c0 := hq.cell 0
  have f0 := hq.notFrozen 0
  have hqlt := hq.lt
  unfold iv
  go_enter Try.func48, Try.ntmps48
  go_wp2_with
     (at_builtin
      refine wpList_append_18 rfl _ _ 22 3 rfl Try.underlying22 (.int .i64 0) 8 infoI8 rfl (by decide) base v l.length (l.map iv) rfl (hv.off ((Only.refl [] w).alloc _) (by simp)) w.heap.size 1 (iv k) rfl ((IsBlk.made w _).cell 0) rfl (by omega) (by simp; omega) ?_
      intro v' w' k1 k2 k3
      have hlt : ∀ b, v.ownBlock = some b → b < w.heap.size := fun b hb => (World.ownsRow.lt hv b hb).2
      have hO : Only (ownL v) w w' := ((Only.refl [] w).alloc (.cells #[.int .i64 k] 3)).then k2 (ownL v) (by simp) (fun i hi => .inl hi)
      have hqn : q ∉ ownL v := fun hm => hne q (mem_ownL.1 hm) rfl
      have hq' := hq.only hO hqn
      have hr' : RowI w' base v' (l ++ [k]) := by unfold RowI; rw [List.length_append, List.map_append]; exact k1
      have c1 := hq'.cell 0
      have f1 := hq'.notFrozen 0
      have ht := store_one8 (P := Try.prog) c1 f1 hr'.one
      have hqp := hq'.put 0 v'
      have hOp : Only [q] w' (w'.setCell ⟨q, 0, none⟩ v') := (Only.refl _ _).setCell (.inl (by simp)) _
      obtain ⟨av, cv, rfl, -⟩ := hr'.slice
      have hlen : (l ++ [k]).length = l.length + 1 := by simp
      rw [hlen] at hqp hOp hr' k3 ht ⊢)
  go_end0
  refine ⟨rfl, _, by simpa using hqp, hr'.off hOp (fun b hb hm => ?_), hO.then hOp (q :: ownL v) (fun i hi => .inl (by simp [hi])) (fun i hi => .inl (by simp at hi; simp [hi])), ?_⟩
  · simp at hm
    subst hm
    rcases k3 with h | h
    · exact hne _ (by rw [← h]; exact hb) rfl
    · rw [h] at hb; injection hb with hb; simp at hb; omega
  · rcases k3 with h | h
    · exact .inl h
    · exact .inr ⟨_, h, by simp⟩

set_option maxHeartbeats 4000000 in
theorem note2_any : Notes 50 := by
  intro w base q v l k hq hv hne hl hbase
  have c0 := hq.cell 0
  have f0 := hq.notFrozen 0
  have hqlt := hq.lt
  unfold iv
  go_enter Try.func50, Try.ntmps50
  go_wp2_with
     (at_builtin
      refine wpList_append_18 rfl _ _ 22 3 rfl Try.underlying22 (.int .i64 0) 8 infoI8 rfl (by decide) base v l.length (l.map iv) rfl (hv.off ((Only.refl [] w).alloc _) (by simp)) w.heap.size 1 (iv k) rfl ((IsBlk.made w _).cell 0) rfl (by omega) (by simp; omega) ?_
      intro v' w' k1 k2 k3
      have hlt : ∀ b, v.ownBlock = some b → b < w.heap.size := fun b hb => (World.ownsRow.lt hv b hb).2
      have hO : Only (ownL v) w w' := ((Only.refl [] w).alloc (.cells #[.int .i64 k] 3)).then k2 (ownL v) (by simp) (fun i hi => .inl hi)
      have hqn : q ∉ ownL v := fun hm => hne q (mem_ownL.1 hm) rfl
      have hq' := hq.only hO hqn
      have hr' : RowI w' base v' (l ++ [k]) := by unfold RowI; rw [List.length_append, List.map_append]; exact k1
      have c1 := hq'.cell 0
      have f1 := hq'.notFrozen 0
      have ht := store_one8 (P := Try.prog) c1 f1 hr'.one
      have hqp := hq'.put 0 v'
      have hOp : Only [q] w' (w'.setCell ⟨q, 0, none⟩ v') := (Only.refl _ _).setCell (.inl (by simp)) _
      obtain ⟨av, cv, rfl, -⟩ := hr'.slice
      have hlen : (l ++ [k]).length = l.length + 1 := by simp
      rw [hlen] at hqp hOp hr' k3 ht ⊢)
  go_end0
  refine ⟨rfl, _, by simpa using hqp, hr'.off hOp (fun b hb hm => ?_), hO.then hOp (q :: ownL v) (fun i hi => .inl (by simp [hi])) (fun i hi => .inl (by simp at hi; simp [hi])), ?_⟩
  · simp at hm
    subst hm
    rcases k3 with h | h
    · exact hne _ (by rw [← h]; exact hb) rfl
    · rw [h] at hb; injection hb with hb; simp at hb; omega
  · rcases k3 with h | h
    · exact .inl h
    · exact .inr ⟨_, h, by simp⟩

set_option maxHeartbeats 4000000 in
theorem note3_any : Notes 59 := by
  intro w base q v l k hq hv hne hl hbase
  have c0 := hq.cell 0
  have f0 := hq.notFrozen 0
  have hqlt := hq.lt
  unfold iv
  go_enter Try.func59, Try.ntmps59
  go_wp2_with
     (at_builtin
      refine wpList_append_18 rfl _ _ 22 3 rfl Try.underlying22 (.int .i64 0) 8 infoI8 rfl (by decide) base v l.length (l.map iv) rfl (hv.off ((Only.refl [] w).alloc _) (by simp)) w.heap.size 1 (iv k) rfl ((IsBlk.made w _).cell 0) rfl (by omega) (by simp; omega) ?_
      intro v' w' k1 k2 k3
      have hlt : ∀ b, v.ownBlock = some b → b < w.heap.size := fun b hb => (World.ownsRow.lt hv b hb).2
      have hO : Only (ownL v) w w' := ((Only.refl [] w).alloc (.cells #[.int .i64 k] 3)).then k2 (ownL v) (by simp) (fun i hi => .inl hi)
      have hqn : q ∉ ownL v := fun hm => hne q (mem_ownL.1 hm) rfl
      have hq' := hq.only hO hqn
      have hr' : RowI w' base v' (l ++ [k]) := by unfold RowI; rw [List.length_append, List.map_append]; exact k1
      have c1 := hq'.cell 0
      have f1 := hq'.notFrozen 0
      have ht := store_one8 (P := Try.prog) c1 f1 hr'.one
      have hqp := hq'.put 0 v'
      have hOp : Only [q] w' (w'.setCell ⟨q, 0, none⟩ v') := (Only.refl _ _).setCell (.inl (by simp)) _
      obtain ⟨av, cv, rfl, -⟩ := hr'.slice
      have hlen : (l ++ [k]).length = l.length + 1 := by simp
      rw [hlen] at hqp hOp hr' k3 ht ⊢)
  go_end0
  refine ⟨rfl, _, by simpa using hqp, hr'.off hOp (fun b hb hm => ?_), hO.then hOp (q :: ownL v) (fun i hi => .inl (by simp [hi])) (fun i hi => .inl (by simp at hi; simp [hi])), ?_⟩
  · simp at hm
    subst hm
    rcases k3 with h | h
    · exact hne _ (by rw [← h]; exact hb) rfl
    · rw [h] at hb; injection hb with hb; simp at hb; omega
  · rcases k3 with h | h
    · exact .inl h
    · exact .inr ⟨_, h, by simp⟩

/-! ### A tour -/
def stC (l : List (Nat × Nat)) : List Value := l.flatMap (fun x => [iv x.1, iv x.2])
theorem stC_len (l : List (Nat × Nat)) : (stC l).length = l.length * 2 := by
  induction l with
  | nil => rfl
  | cons x r ih => simp only [stC, List.flatMap_cons, List.length_append, List.length_cons, List.length_nil] at *; omega
theorem stC_snoc (l : List (Nat × Nat)) (x : Nat × Nat) : stC (l ++ [x]) = stC l ++ [iv x.1, iv x.2] := by simp [stC]
def WayAt (w : World) (base : Nat) (v : Value) (way : List (Nat × Nat)) : Prop := w.ownsRow base 112 2 v way.length (stC way.reverse)
theorem infoSt8 : (Try.prog.info? 112).map (fun i => (i.zero, i.size, i.bytes)) = some (some (.agg #[.int .i64 0, .int .i64 0]), 2, 16) := by kernel_rfl
theorem WayAt.top {w : World} {base : Nat} {v : Value} {a k : Nat} {r : List (Nat × Nat)} (h : WayAt w base v ((a, k) :: r)) :
    ∃ g c, v = .slice (some ⟨g, 0, none⟩) (r.length + 1) c ∧ base ≤ g ∧ g < w.heap.size ∧ w.cell? ⟨g, r.length * 2, none⟩ = some (iv a) ∧ w.cell? ⟨g, r.length * 2 + 1, none⟩ = some (iv k) ∧ w.frozen? ⟨g, r.length * 2 + 1, none⟩ = false ∧ r.length + 1 ≤ c := by
  have hh := h
  rcases h.2 with ⟨e1, e2⟩ | ⟨g, cap, cur, e1, hb, hg, hc, -⟩
  · simp at e2
  · have e3 : stC ((a, k) :: r).reverse = stC r.reverse ++ [iv a, iv k] := by rw [List.reverse_cons, stC_snoc]
    have hl : (stC r.reverse).length = r.length * 2 := by rw [stC_len, List.length_reverse]
    refine ⟨g, cap, e1, hb, IsBlk.lt hg, ?_, ?_, IsBlk.notFrozen (cs := cur) (t := 112) hg _, hc⟩
    · have := World.ownsRow.cells hh (g := g) (by rw [e1]; rfl) (r.length * 2) (iv a) (by rw [e3, List.getElem?_append_right (by omega), hl, Nat.sub_self]; rfl)
      rw [Addr.add_mid, Nat.zero_add] at this
      exact this
    · have := World.ownsRow.cells hh (g := g) (by rw [e1]; rfl) (r.length * 2 + 1) (iv k) (by rw [e3, List.getElem?_append_right (by omega), hl, show r.length * 2 + 1 - r.length * 2 = 1 by omega]; rfl)
      rw [Addr.add_mid, Nat.zero_add] at this
      exact this
theorem WayAt.tried {w : World} {base g c : Nat} {a k : Nat} {r : List (Nat × Nat)} (h : WayAt w base (.slice (some ⟨g, 0, none⟩) (r.length + 1) c) ((a, k) :: r)) :
    WayAt (w.setCell ⟨g, r.length * 2 + 1, none⟩ (iv (k + 1))) base (.slice (some ⟨g, 0, none⟩) (r.length + 1) c) ((a, k + 1) :: r) := by
  have := (World.ownsRow.stored (show w.ownsRow base 112 2 (.slice (some ⟨g, 0, none⟩) (r.length + 1) c) (r.length + 1) _ from h) (r.length * 2 + 1) (iv (k + 1))).1
  have e3 : ∀ k, stC ((a, k) :: r).reverse = stC r.reverse ++ [iv a, iv k] := fun k => by rw [List.reverse_cons, stC_snoc]
  have hl : (stC r.reverse).length = r.length * 2 := by rw [stC_len, List.length_reverse]
  unfold WayAt
  rw [e3, List.set_append_right _ _ (by omega), hl, show r.length * 2 + 1 - r.length * 2 = 1 by omega] at this
  rw [e3]
  exact this
theorem WayAt.pop {w : World} {base g c : Nat} {x : Nat × Nat} {r : List (Nat × Nat)} (h : WayAt w base (.slice (some ⟨g, 0, none⟩) (r.length + 1) c) (x :: r)) : WayAt w base (.slice (some ⟨g, 0, none⟩) r.length c) r := by
  unfold WayAt at h ⊢
  rw [List.reverse_cons, stC_snoc] at h
  exact ownsRow_pop (by rw [stC_len, List.length_reverse]) h

theorem WayAt.pop' {w : World} {base g c : Nat} {x : Nat × Nat} {r : List (Nat × Nat)} (h : w.ownsRow base 112 2 (.slice (some ⟨g, 0, none⟩) (r.length + 1) c) (r.length + 1) (stC (x :: r).reverse)) : WayAt w base (.slice (some ⟨g, 0, none⟩) r.length c) r := WayAt.pop (x := x) h

/-- One step more on the way. -/
theorem wpList_append_way {w : World} {ops : Array Oper} {rest : List Oper} {o : Oper} {a : Act} {Q : Exit → Act → World → Prop} (hgd : o.guard = none) (s x : Operand)
    (ho : o.op = .call { callee := .builtin .append, args := #[s, x], argTypes := #[113, 113] })
    (base : Nat) (v : Value) (way : List (Nat × Nat)) (hs : a.eval s = v) (hown : WayAt w base v way) (q c y : Nat) (hx : a.eval x = .slice (some ⟨q, 0, none⟩) 1 c) (hc0 : w.cell? ⟨q, 0, none⟩ = some (iv y)) (hc1 : w.cell? ⟨q, 1, none⟩ = some (iv 0)) (hl : way.length ≤ 1000000) (hbase : base ≤ w.heap.size)
    (h : ∀ v' w', WayAt w' base v' ((y, 0) :: way) → Only (ownL v) w w' → (v'.ownBlock = v.ownBlock ∨ v'.ownBlock = some w.heap.size) → wpList Try.prog ops Q rest (a.put o.dst v') w') : wpList Try.prog ops Q (o :: rest) a w := by
  obtain ⟨i0, hi, hz0, hz1, hz2⟩ := info_parts infoSt8
  refine wpList_append_own_at w hgd s x _ ho base _ i0 _ 2 16 Try.underlying113 hi hz0 hz1 hz2 rfl (by decide) v way.length (stC way.reverse) hs hown ⟨q, 0, none⟩ 1 c [iv y, iv 0] hx rfl (fun j u hu => ?_) (fun u hu => ?_) (by unfold maxLen; omega) (by omega) hbase (fun v' w' k2 k3 k4 k5 => h v' w' ?_ (grown_only k3) k5)
  · rw [Addr.add_mid]
    match j, hu with
    | 0, hu => simp at hu; rw [← hu]; exact hc0
    | 1, hu => simp at hu; rw [← hu]; exact hc1
    | n + 2, hu => simp at hu
  · simp at hu
    rcases hu with rfl | rfl <;> rfl
  · unfold WayAt
    rw [List.reverse_cons, stC_snoc, List.length_cons]
    exact k2

/-- Where one has been. -/
def bools (bn : Nat → Bool) (n : Nat) : Array Value := ((List.range n).map (fun i => Value.bool (bn i))).toArray
def BnAt (w : World) (g n : Nat) (bn : Nat → Bool) : Prop := IsBlk w g (.cells (bools bn n) 4)
theorem bools_size (bn : Nat → Bool) (n : Nat) : (bools bn n).size = n := by simp [bools]
theorem bools_get (bn : Nat → Bool) {n i : Nat} (h : i < n) : (bools bn n)[i]? = some (.bool (bn i)) := by simp [bools, h]
theorem bools_set (bn : Nat → Bool) (n k : Nat) : (bools bn n).setIfInBounds k (.bool true) = bools (setB bn k) n := by
  apply Array.ext_getElem?
  intro i
  rw [Array.getElem?_setIfInBounds]
  by_cases hi : i < n
  · rw [bools_get _ hi, bools_get _ hi, bools_size]
    by_cases hk : k = i
    · subst hk; simp [hi, setB]
    · rw [if_neg hk]; simp [setB]; intro e; exact absurd e.symm hk
  · have e1 : ∀ bn, (bools bn n)[i]? = none := fun bn => Array.getElem?_eq_none (by rw [bools_size]; omega)
    rw [e1, e1, bools_size]
    by_cases hk : k = i
    · subst hk; simp [hi]
    · simp [hk]
theorem BnAt.cell {w : World} {g n : Nat} {bn : Nat → Bool} (h : BnAt w g n bn) {i : Nat} (hi : i < n) : w.cell? ⟨g, i, none⟩ = some (.bool (bn i)) := by
  rw [IsBlk.cell h, bools_get _ hi]
theorem BnAt.put {w : World} {g n : Nat} {bn : Nat → Bool} (h : BnAt w g n bn) (k : Nat) : BnAt (w.setCell ⟨g, k, none⟩ (.bool true)) g n (setB bn k) := by
  have := IsBlk.put h k (.bool true)
  rw [bools_set] at this
  exact this

theorem nodup_few : ∀ (n : Nat) (l : List Nat), l.Nodup → (∀ x ∈ l, x < n) → l.length ≤ n
  | 0, l, _, h => by
    cases l with
    | nil => simp
    | cons x r => have := h x (by simp); omega
  | n + 1, l, hn, h => by
    by_cases hm : n ∈ l
    · have h1 := nodup_few n (l.erase n) (hn.erase n) (fun x hx => by
        have h2 := (hn.mem_erase_iff).1 hx
        have := h x h2.2
        have := h2.1
        omega)
      have := List.length_erase_of_mem hm
      omega
    · have := nodup_few n l hn (fun x hx => by
        have h2 := h x hx
        have : x ≠ n := fun e => hm (e ▸ hx)
        omega)
      omega

def nxF (rows : List (List Nat)) (a : Nat) : List Nat := rows.getD a []
theorem nxF_get {rows : List (List Nat)} {a : Nat} (h : a < rows.length) : rows[a]? = some (nxF rows a) := by
  unfold nxF; rw [List.getD_eq_getElem?_getD, List.getElem?_eq_getElem h]; rfl

def TourEnd (w : World) (baseL n gb q : Nat) (rows : List (List Nat)) (f : Nat) (b0 : Nat → Bool) (v0 : Value) (l0 : List Nat) (r : Ending) (w' : World) : Prop :=
  r = .returned (.tuple #[]) ∧ ∃ bn lf v', TourTo (nxF rows) f b0 bn lf ∧ BnAt w' gb n bn ∧ IsBlk w' q (.cells #[v'] 22) ∧ RowI w' baseL v' (l0 ++ lf) ∧ Only (gb :: q :: ownL v0) w w' ∧ (v'.ownBlock = v0.ownBlock ∨ ∃ b, v'.ownBlock = some b ∧ w.heap.size ≤ b)

set_option maxHeartbeats 16000000 in
theorem tour_any (K : Nat) (hE : ∀ args w, (callFunc K args).run Try.prog w = .ok (.enter K args) w) (hK : Notes K) (w : World) (base baseL n gb q f : Nat) (vn : Value) (rows : List (List Nat)) (fp : List Nat) (b0 : Nat → Bool) (v0 : Value) (l0 : List Nat)
    (hN : NetR w base vn rows fp) (hrn : rows.length = n) (hin : ∀ a b, b ∈ nxF rows a → b < n) (hrl : ∀ a, (nxF rows a).length ≤ 100000) (hf : f < n) (hn : n ≤ 1000) (hb0 : BnAt w gb n b0) (hf0 : b0 f = false) (hq : IsBlk w q (.cells #[v0] 22)) (hv : RowI w baseL v0 l0) (hl0 : l0.length ≤ 100000) (hbl : baseL ≤ w.heap.size)
    (d1 : gb ≠ q) (d2 : ∀ b, v0.ownBlock = some b → b ≠ gb ∧ b ≠ q ∧ b ∉ fp) (d3 : gb ∉ fp) (d4 : q ∉ fp) :
    Calls Try.prog 47 #[vn, .slice (some ⟨gb, 0, none⟩) n n, iv f, .func (.func K) #[] #[.pointer (some ⟨q, 0, none⟩)]] w (TourEnd w baseL n gb q rows f b0 v0 l0) := by
  have HN := Lib.hid hN
  have Hq := Lib.hid hq
  have Hv := Lib.hid hv
  have HB0 := Lib.hid hb0
  have HB := Lib.hid (hb0.put f)
  have cf := hb0.cell hf
  have zf := IsBlk.notFrozen hb0 f
  have hfi : (f : Int) < (n : Int) := by omega
  have hf0i : (0 : Int) ≤ (f : Int) := by omega
  have HT := Lib.hid (TInv.begin (nxF rows) f b0 hf0)
  have HO := Lib.hid ((Only.refl [gb] w).setCell (p := ⟨gb, f, none⟩) (.inl (by simp)) (.bool true))
  clear hN hq hv hb0
  unfold iv
  go_enter Try.func47, Try.ntmps47
  go_wp2_with fail
  have hO1 := HO.out.alloc (.cells #[.int .i64 f, .int .i64 0] 112)
  have hsz1 : w.heap.size < ((w.setCell ⟨gb, f, none⟩ (.bool true)).alloc (.cells #[.int .i64 f, .int .i64 0] 112)).heap.size := by simp
  have hw1 : WayAt ((w.setCell ⟨gb, f, none⟩ (.bool true)).alloc (.cells #[.int .i64 f, .int .i64 0] 112)) w.heap.size (.slice (some ⟨w.heap.size, 0, none⟩) 1 1) [(f, 0)] := by
    have := World.ownsRow_lit (e := 112) (size := 2) (base := w.heap.size) (w.setCell ⟨gb, f, none⟩ (.bool true)) #[.int .i64 f, .int .i64 0] 1 (by simp) (by unfold maxLen; omega) rfl
    simpa [WayAt, stC, iv] using this
  have hb1 : BnAt ((w.setCell ⟨gb, f, none⟩ (.bool true)).alloc (.cells #[.int .i64 f, .int .i64 0] 112)) gb n (setB b0 f) := IsBlk.alloc HB.out _
  have hq1 : IsBlk ((w.setCell ⟨gb, f, none⟩ (.bool true)).alloc (.cells #[.int .i64 f, .int .i64 0] 112)) q (.cells #[v0] 22) := Hq.out.only hO1 (by simp; exact fun e => d1 e.symm)
  have hv1 : RowI ((w.setCell ⟨gb, f, none⟩ (.bool true)).alloc (.cells #[.int .i64 f, .int .i64 0] 112)) baseL v0 l0 := Hv.out.off hO1 (fun b hb hm => (d2 b hb).1 (by simpa using hm))
  generalize hW1 : (w.setCell ⟨gb, f, none⟩ (.bool true)).alloc (.cells #[.int .i64 f, .int .i64 0] 112) = w1 at *
  clear hW1 cf zf
  have Hw1 := Lib.hid hw1
  have Hb1 := Lib.hid hb1
  have Hq1 := Lib.hid hq1
  have Hv1 := Lib.hid hv1
  have HO1 := Lib.hid hO1
  clear hw1 hb1 hq1 hv1 hO1
  go_loopg [8] (sumB (nxF rows) (setB b0 f) n + sumW (nxF rows) [(f, 0)]) (fun gk s8 wr => ∃ way bn lf vl, gk = sumB (nxF rows) bn n + sumW (nxF rows) way ∧ WayAt wr w.heap.size s8 way ∧ BnAt wr gb n bn ∧ IsBlk wr q (.cells #[vl] 22) ∧ RowI wr baseL vl (l0 ++ lf) ∧ TInv (nxF rows) f b0 bn way lf ∧ Only (gb :: q :: ownL v0) w wr ∧ (vl.ownBlock = v0.ownBlock ∨ ∃ b, vl.ownBlock = some b ∧ w.heap.size ≤ b) ∧ ∀ b, vl.ownBlock = some b → s8.ownBlock ≠ some b)
  case atStart =>
    refine ⟨[(f, 0)], setB b0 f, [], v0, rfl, Hw1.out, Hb1.out, Hq1.out, by simpa using Hv1.out, HT.out, HO1.out.into (fun k hk => .inl (by simp at hk; simp [hk])), .inl rfl, fun b hb e => ?_⟩
    have := (World.ownsRow.lt Hv.out b hb).2
    simp [Value.ownBlock] at e
    omega
  case round =>
    obtain ⟨way, bn, lf, vl, rfl, hw, hb, hqq, hvl, hT, hOw, hown, hsep⟩ := hrel
    have Hw := Lib.hid hw
    have Hb := Lib.hid hb
    have Hqq := Lib.hid hqq
    have Hvl := Lib.hid hvl
    have HTi := Lib.hid hT
    have HOw := Lib.hid hOw
    have Hown := Lib.hid hown
    have Hsep := Lib.hid hsep
    clear hw hb hqq hvl hT hOw hown hsep
    cases way with
    | nil =>
      obtain ⟨aw, cw, rfl⟩ := owns_slice (show wr.ownsRow _ _ _ u8 0 _ from Hw.out)
      go_wp2
      go_end0
      refine ⟨rfl, bn, lf, vl, HTi.out.to, Hb.out, Hqq.out, Hvl.out, HOw.out, Hown.out⟩
    | cons x r =>
      obtain ⟨a, k⟩ := x
      obtain ⟨gw, cw, rfl, hgw, hgwl, ca, ck, zk, hmc⟩ := Hw.out.top
      have han : a < n := by
        have := Rch.inside hin (HTi.out.rch a (.inl (by simp))) hf
        exact this
      have hkl : k ≤ (nxF rows a).length := (HTi.out.tried (a, k) (by simp)).1
      obtain ⟨gn, cn, u, hvn, hgn, cu, -, hru, hub⟩ := (HN.out.off HOw.out (fun i hi hm => by
        simp only [List.mem_cons] at hm
        rcases hm with h | h | h
        · exact d3 (h ▸ hi)
        · exact d4 (h ▸ hi)
        · exact (d2 i (mem_ownL.1 h)).2.2 hi)).get (nxF_get (by omega : a < rows.length))
      obtain ⟨au, cu', rfl, hcu'⟩ := hru.slice
      subst hvn
      rw [hrn] at *
      have hrn' : r.length + 1 ≤ n := by
        have h1 := (List.nodup_append.1 HTi.out.nod).1
        have := nodup_few n _ h1 (fun x hx => Rch.inside hin (HTi.out.rch x (.inl hx)) hf)
        simpa using this
      have Hru := Lib.hid hru
      have hau : ∀ (j y : Nat), (nxF rows a)[j]? = some y → ∃ gu, au = some ⟨gu, 0, none⟩ ∧ gu < wr.heap.size ∧ wr.cell? ⟨gu, j, none⟩ = some (iv y) := fun j y hy => by
        obtain ⟨gu, cu2, e, -, h1, h2⟩ := Hru.out.get hy
        injection e with e1 e2 e3
        exact ⟨gu, e1, h1, h2⟩
      generalize hm : r.length = m at *
      have hmw : IntKind.i64.wrap ((m : Int) + 1 - 1) = m := by rw [IntKind.wrap_i64]; omega
      have hm0 : (0 : Int) ≤ (m : Int) := by omega
      have hai : (a : Int) < (n : Int) := by omega
      have ha0 : (0 : Int) ≤ (a : Int) := by omega
      have hcm : ¬ cw = m := by omega
      have Hau := Lib.hid hau
      clear hru hau hub
      have hLl := hrl a
      generalize hL : nxF rows a = L at *
      have HL := Lib.hid hL
      clear hL
      have hgb : gb < w.heap.size := IsBlk.lt HB0.out
      have hqs : q < w.heap.size := Hq.out.lt
      have hgbv : gb ∉ ownL vl := fun hm => by
        rcases Hown.out with h | ⟨b, h, hb⟩
        · exact (d2 gb (by rw [← h]; exact mem_ownL.1 hm)).1 rfl
        · have := mem_ownL.1 hm; rw [h] at this; injection this with this; omega
      have hqv : q ∉ ownL vl := fun hm => by
        rcases Hown.out with h | ⟨b, h, hb⟩
        · exact (d2 q (by rw [← h]; exact mem_ownL.1 hm)).2.1 rfl
        · have := mem_ownL.1 hm; rw [h] at this; injection this with this; omega
      have hgwv : gw ∉ ownL vl := fun hm => Hsep.out gw (mem_ownL.1 hm) rfl
      have hvv : ∀ b ∈ ownL vl, b ∈ gb :: q :: ownL v0 ∨ w.heap.size ≤ b := fun b hm => by
        rcases Hown.out with h | ⟨c, h, hc⟩
        · exact .inl (by simp only [List.mem_cons]; exact .inr (.inr (mem_ownL.2 (by rw [← h]; exact mem_ownL.1 hm))))
        · have := mem_ownL.1 hm; rw [h] at this; injection this with this; exact .inr (by omega)
      have hlf : (l0 ++ lf).length ≤ 200000 := by
        have h1 := nodup_few n lf (List.nodup_append.1 HTi.out.nod).2.1 (fun x hx => Rch.inside hin (HTi.out.rch x (.inr hx)) hf)
        rw [List.length_append]; omega
      have hwb : w.heap.size ≤ wr.heap.size := HOw.out.size
      unfold iv at ca ck
      have HS : Hid (∀ W, Only [] wr W → W.cell? ⟨gw, m * 2, none⟩ = some (.int .i64 a) ∧ W.cell? ⟨gw, m * 2 + 1, none⟩ = some (.int .i64 k) ∧ W.cell? ⟨gn, a, none⟩ = some (.slice au L.length cu')) := Lib.hid (fun W hW => ⟨(hW.cell (p := ⟨gw, m * 2, none⟩) hgwl (by simp)).trans ca, (hW.cell (p := ⟨gw, m * 2 + 1, none⟩) hgwl (by simp)).trans ck, (hW.cell (p := ⟨gn, a, none⟩) (World.block_lt_of_cell? _ _ cu) (by simp)).trans cu⟩)
      have hdr : Only [] wr wr.drew := (Only.refl [] wr).drew
      have hs0 := HS.out _ hdr
      clear ca ck cu
      go_upto_region 4 with fail
      by_cases hkL : k = L.length
      · subst hkL
        have HkL : Hid (L.length = L.length) := Lib.hid rfl
        go_region_held3 (fun W => W.cell? ⟨gw, m * 2, none⟩ = some (.int .i64 a) ∧ W.cell? ⟨gw, m * 2 + 1, none⟩ = some (.int .i64 L.length) ∧ W.cell? ⟨gn, a, none⟩ = some (.slice au L.length cu')) (first | exact hs0 | assumption) (fail)
        obtain ⟨q1, q2, q3⟩ := hs0
        clear q1 q2 q3
        go_wp2_with fail
        refine (hK _ baseL q vl (l0 ++ lf) a (Hqq.out.only hdr (by simp)) (Hvl.out.off hdr (by simp)) (fun b hb e => hqv (mem_ownL.2 (e ▸ hb))) hlf (by show baseL ≤ wr.heap.size; omega)).mono ?_
        rintro e w2 ⟨rfl, v', hq', hr', hO', hb'⟩
        have HO' := Lib.hid (hdr.then hO' (q :: ownL vl) (by simp) (fun i hi => .inl hi))
        have Hq' := Lib.hid hq'
        have Hr' := Lib.hid hr'
        have Hb' : Hid (v'.ownBlock = vl.ownBlock ∨ ∃ b, v'.ownBlock = some b ∧ wr.heap.size ≤ b) := Lib.hid hb'
        clear hq' hr' hO' hb'
        go_wp2
        go_roundg (sumB (nxF rows) bn n + sumW (nxF rows) r)
        case measure => simp only [sumW]; omega
        case rel =>
          subst hm
          refine ⟨r, bn, lf ++ [a], v', rfl, WayAt.pop' (owns_off Hw.out HO'.out (fun b hb hm' => ?_)), ?_, Hq'.out, by rw [← List.append_assoc]; exact Hr'.out, HTi.out.leave (by rw [HL.out]), HOw.out.then HO'.out _ (fun i hi => .inl hi) (fun i hi => ?_), ?_, fun b hb e => ?_⟩
          · have : b = gw := by simpa [Value.ownBlock] using hb.symm
            subst this
            rcases List.mem_cons.1 hm' with h | h
            · omega
            · exact hgwv h
          · exact IsBlk.only Hb.out HO'.out (fun hm' => by
              rcases List.mem_cons.1 hm' with h | h
              · exact d1 h
              · exact hgbv h)
          · rcases List.mem_cons.1 hi with h | h
            · exact .inl (by simp [h])
            · exact hvv i h
          · rcases Hb'.out with h | ⟨b, h, hb⟩
            · rcases Hown.out with h2 | ⟨b, h2, hb⟩
              · exact .inl (h.trans h2)
              · exact .inr ⟨b, h.trans h2, hb⟩
            · exact .inr ⟨b, h, by omega⟩
          · have : gw = b := by simpa [Value.ownBlock] using e
            subst this
            rcases Hb'.out with h | ⟨b, h, hb2⟩
            · exact hgwv (mem_ownL.2 (by rw [← h]; exact hb))
            · rw [h] at hb; injection hb with hb; omega
      · have hki : ¬ (k : Int) = (L.length : Int) := by omega
        go_region_held3 (fun W => W.cell? ⟨gw, m * 2, none⟩ = some (.int .i64 a) ∧ W.cell? ⟨gw, m * 2 + 1, none⟩ = some (.int .i64 k) ∧ W.cell? ⟨gn, a, none⟩ = some (.slice au L.length cu')) (first | exact hs0 | assumption) (fail)
        have hkl' : k < L.length := by omega
        obtain ⟨yy, hto⟩ : ∃ yy, L[k]? = some yy := ⟨L[k], by simp [hkl']⟩
        obtain ⟨gu, rfl, hgu, cgu⟩ := Hau.out k yy hto
        unfold iv at cgu
        have hton : yy < n := hin a yy (by rw [HL.out]; exact List.mem_of_getElem? hto)
        have hk0 : (0 : Int) ≤ (k : Int) := by omega
        have hkli : (k : Int) < (L.length : Int) := by omega
        have hto0 : (0 : Int) ≤ (yy : Int) := by omega
        have hton' : (yy : Int) < (n : Int) := by omega
        have Hto := Lib.hid hto
        have cgu1 := (hdr.cell (p := ⟨gu, k, none⟩) hgu (by simp)).trans cgu
        have cgu2 := ((hdr.trans ((Only.refl [] wr.drew).drew)).cell (p := ⟨gu, k, none⟩) hgu (by simp)).trans cgu
        have hsd := HS.out _ (hdr.trans ((Only.refl [] wr.drew).drew))
        have hs7 : wr.drew.cell? ⟨gw, m * 2, none⟩ = some (.int .i64 a) ∧ wr.drew.cell? ⟨gw, m * 2 + 1, none⟩ = some (.int .i64 k) ∧ wr.drew.cell? ⟨gn, a, none⟩ = some (.slice (some ⟨gu, 0, none⟩) L.length cu') ∧ wr.drew.cell? ⟨gu, k, none⟩ = some (.int .i64 yy) := ⟨hs0.1, hs0.2.1, hs0.2.2, cgu1⟩
        have hs8 : wr.drew.drew.cell? ⟨gw, m * 2, none⟩ = some (.int .i64 a) ∧ wr.drew.drew.cell? ⟨gw, m * 2 + 1, none⟩ = some (.int .i64 k) ∧ wr.drew.drew.cell? ⟨gn, a, none⟩ = some (.slice (some ⟨gu, 0, none⟩) L.length cu') ∧ wr.drew.drew.cell? ⟨gu, k, none⟩ = some (.int .i64 yy) := ⟨hsd.1, hsd.2.1, hsd.2.2, cgu2⟩
        clear hto cgu cgu1 cgu2 hsd
        go_upto_region 7 with fail
        go_region_held3 (fun W => W.cell? ⟨gw, m * 2, none⟩ = some (.int .i64 a) ∧ W.cell? ⟨gw, m * 2 + 1, none⟩ = some (.int .i64 k) ∧ W.cell? ⟨gn, a, none⟩ = some (.slice (some ⟨gu, 0, none⟩) L.length cu') ∧ W.cell? ⟨gu, k, none⟩ = some (.int .i64 yy)) (first | exact hs7 | exact hs8 | assumption) (fail)
        obtain ⟨q1, q2, q3, q4⟩ := hs8
        clear hs7 hs0
        have hkw : IntKind.i64.wrap ((k : Int) + 1) = (k : Int) + 1 := by rw [IntKind.wrap_i64]; omega
        have hdd : Only [] wr wr.drew.drew := hdr.trans ((Only.refl [] wr.drew).drew)
        have hkn : (iv (k + 1)) = .int .i64 ((k : Int) + 1) := by unfold iv; rw [Int.natCast_add]; rfl
        have hw8 : WayAt (wr.setCell ⟨gw, m * 2 + 1, none⟩ (.int .i64 ((k : Int) + 1))).drew.drew w.heap.size (.slice (some ⟨gw, 0, none⟩) (m + 1) cw) ((a, k + 1) :: r) := by
          have := (show WayAt wr w.heap.size (.slice (some ⟨gw, 0, none⟩) (r.length + 1) cw) ((a, k) :: r) from by rw [hm]; exact Hw.out).tried
          rw [hm, hkn] at this
          exact this
        have hO8 : Only [gw] wr (wr.setCell ⟨gw, m * 2 + 1, none⟩ (.int .i64 ((k : Int) + 1))).drew.drew := (((Only.refl [gw] wr).setCell (.inl (by simp)) _).drew).drew
        have zk8 := zk
        clear hkn
        go_upto_region 9 with fail
        generalize hw9 : (wr.setCell ⟨gw, m * 2 + 1, none⟩ (.int .i64 ((k : Int) + 1))).drew.drew = w9 at *
        have hgbw : gb ≠ gw := by omega
        have hqw : q ≠ gw := by omega
        have hb9 : BnAt w9 gb n bn := IsBlk.only Hb.out hO8 (by simpa using hgbw)
        have cy := hb9.cell hton
        have zy := IsBlk.notFrozen hb9 yy
        have Hb9 := Lib.hid hb9
        have Hw9 := Lib.hid hw8
        have HO9 := Lib.hid hO8
        have Hq9 := Lib.hid (Hqq.out.only hO8 (by simpa using hqw))
        have Hv9 := Lib.hid (Hvl.out.off hO8 (fun b hb hm' => hgwv (mem_ownL.2 (by simp at hm'; exact hm' ▸ hb))))
        have hsz9 : wr.heap.size ≤ w9.heap.size := hO8.size
        have HLk : Hid ((nxF rows a)[k]? = some yy) := Lib.hid (by rw [HL.out]; exact Hto.out)
        clear hw9 hb9 hw8 hO8 q1 q2 q3 q4
        cases hbn : bn yy with
        | true =>
          rw [hbn] at cy
          have Hbn := Lib.hid hbn
          clear hbn
          go_wp2
          go_roundg (sumB (nxF rows) bn n + sumW (nxF rows) ((a, k + 1) :: r))
          case measure => simp only [sumW]; rw [HL.out]; omega
          case rel =>
            exact ⟨(a, k + 1) :: r, bn, lf, vl, rfl, Hw9.out, Hb9.out, Hq9.out, Hv9.out, HTi.out.old HLk.out Hbn.out, HOw.out.then HO9.out _ (fun i hi => .inl hi) (fun i hi => .inr (by simp at hi; omega)), Hown.out, Hsep.out⟩
        | false =>
          rw [hbn] at cy
          have Hbn := Lib.hid hbn
          clear hbn
          go_upto_region 11 with fail
          have hOb : Only [gb] w9 (w9.setCell ⟨gb, yy, none⟩ (.bool true)) := (Only.refl _ _).setCell (.inl (by simp)) _
          have hb10 : BnAt (w9.setCell ⟨gb, yy, none⟩ (.bool true)) gb n (setB bn yy) := Hb9.out.put yy
          have hw10 : WayAt (w9.setCell ⟨gb, yy, none⟩ (.bool true)) w.heap.size (.slice (some ⟨gw, 0, none⟩) (m + 1) cw) ((a, k + 1) :: r) := owns_off Hw9.out hOb (fun b hb hm' => by
            have h1 : gw = b := by simpa [Value.ownBlock] using hb
            simp at hm'; omega)
          have hq10 := Hq9.out.only hOb (by simp; exact fun e => d1 e.symm)
          have hv10 := Hv9.out.off hOb (fun b hb hm' => hgbv (mem_ownL.2 (by simp at hm'; exact hm' ▸ hb)))
          have hO10 : Only (gb :: q :: ownL v0) w (w9.setCell ⟨gb, yy, none⟩ (.bool true)) := (HOw.out.then HO9.out _ (fun i hi => .inl hi) (fun i hi => .inr (by simp at hi; omega))).then hOb _ (fun i hi => .inl hi) (fun i hi => .inl (by simp at hi; simp [hi]))
          have hsz10 : wr.heap.size ≤ (w9.setCell ⟨gb, yy, none⟩ (.bool true)).heap.size := by simpa using hsz9
          generalize hw10' : w9.setCell ⟨gb, yy, none⟩ (.bool true) = w10 at *
          have Hb10 := Lib.hid hb10
          have Hw10 := Lib.hid hw10
          have Hq10 := Lib.hid hq10
          have Hv10 := Lib.hid hv10
          have HO10 := Lib.hid hO10
          clear hw10' hb10 hw10 hq10 hv10 hO10 hOb cy zy
          have hOa : Only [] w10 (w10.alloc (.cells #[.int .i64 yy, .int .i64 0] 112)) := (Only.refl _ _).alloc _
          go_wp2_with
           (at_builtin
            refine wpList_append_way rfl _ _ rfl w.heap.size (.slice (some ⟨gw, 0, none⟩) (m + 1) cw) ((a, k + 1) :: r) rfl (owns_off Hw10.out hOa (by simp)) w10.heap.size 1 yy rfl ((IsBlk.made w10 _).cell 0) ((IsBlk.made w10 _).cell 1) (by simp; omega) (by simp; omega) ?_
            intro v' w11 k1 k2 k3)
          have hgwo : ∀ b, b ∈ ownL (.slice (some ⟨gw, 0, none⟩) (m + 1) cw) ↔ b = gw := fun b => by rw [mem_ownL]; simp [Value.ownBlock, eq_comm]
          have hO11 : Only [gw] w10 w11 := hOa.then k2 [gw] (by simp) (fun i hi => .inl (by rw [hgwo] at hi; simp [hi]))
          go_roundg (sumB (nxF rows) (setB bn yy) n + sumW (nxF rows) ((yy, 0) :: (a, k + 1) :: r))
          case measure =>
            have := sumB_set (nxF rows) bn yy Hbn.out n hton
            simp only [sumW]; rw [HL.out]; omega
          case rel =>
            refine ⟨(yy, 0) :: (a, k + 1) :: r, setB bn yy, lf, vl, rfl, k1, IsBlk.only Hb10.out hO11 (by simpa using hgbw), Hq10.out.only hO11 (by simpa using hqw), Hv10.out.off hO11 (fun b hb hm' => hgwv (mem_ownL.2 (by simp at hm'; exact hm' ▸ hb))), HTi.out.go HLk.out Hbn.out, HO10.out.then hO11 _ (fun i hi => .inl hi) (fun i hi => .inr (by simp at hi; omega)), Hown.out, fun b hb e => ?_⟩
            rcases k3 with h | h
            · rw [h] at e
              exact Hsep.out b hb e
            · rw [h] at e
              injection e with e
              have h1 := (World.ownsRow.lt Hvl.out b hb).2
              simp at e
              omega

end Go.Proofs.Ytgkddbpfjbgelaa
