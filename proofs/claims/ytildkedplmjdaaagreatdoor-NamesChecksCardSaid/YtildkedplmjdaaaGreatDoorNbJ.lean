/-
  The document's Count, among.
-/
import Derived.Test.YtildkedplmjdaaaGreatDoorNaA
import Derived.Test.YtildkedplmjdaaaGreatDoorPaW
import Derived.Test.YtildkedplmjdaaaGreatDoorNbF
import Derived.Deep.RegionHeld3
namespace Go.Proofs.YtildkedplmjdaaaGreatDoor
set_option maxRecDepth 100000
set_option linter.unusedVariables false
open Go.RowKit Go.Sort

/-- All names of statements are of their kinds. -/
def OkB (f : List UInt8 → Nat) : Blk → Prop
  | .nil => True
  | .cons k _ n a b r => (wantM k ≠ 0 → f n = wantM k) ∧ OkB f a ∧ OkB f b ∧ OkB f r
theorem OkB.look {f : List UInt8 → Nat} : ∀ {b : Blk}, OkB f b → lookB f b = none
  | .nil, _ => rfl
  | .cons k p n a b r, h => by
    rw [lookB, if_neg (fun hh => hh.2 (h.1 hh.1)), h.2.1.look, h.2.2.1.look, h.2.2.2.look]
    rfl
theorem OkB.move {f : List UInt8 → Nat} (m : Nat) : ∀ {b : Blk}, OkB f b → OkB f (moveB m b)
  | .nil, _ => trivial
  | .cons k p n a b r, h => ⟨h.1, h.2.1.move m, h.2.2.1.move m, h.2.2.2.move m⟩
theorem OkB.place {f : List UInt8 → Nat} : ∀ {b : Blk} (ps : List Nat), OkB f b → OkB f (placeB b ps)
  | .nil, _, _ => trivial
  | .cons k p n a b r, ps, h => by rw [placeB]; exact ⟨h.1, h.2.1.place _, h.2.2.1.place _, h.2.2.2.place _⟩
theorem cntB_cnt : ∀ b : Blk, cntB b = b.cnt
  | .nil => rfl
  | .cons k p n a b r => by rw [cntB, Blk.cnt, cntB_cnt a, cntB_cnt b, cntB_cnt r]; omega
theorem cntB_place : ∀ (b : Blk) (ps : List Nat), cntB (placeB b ps) = cntB b
  | .nil, _ => rfl
  | .cons k p n a b r, ps => by rw [placeB, cntB, cntB, cntB_place a, cntB_place b, cntB_place r]
theorem ok_blockR (f : List UInt8 → Nat) (hv : ∀ i < 3, f (varsT.getD i []) = 1) (hl : ∀ i < 3, f (locksT.getD i []) = 2) (hf : ∀ i < 4, f (funcsT.getD i []) = 3) : ∀ r : RawM, OkB f (blockR r)
  | .nil => trivial
  | .cons k n a b r => by
    have hk := kindR_le k
    have h3 := inM_lt n 3 (by omega)
    have h4 := inM_lt n 4 (by omega)
    refine ⟨fun hw => ?_, ?_, ?_, ok_blockR f hv hl hf r⟩
    · unfold wantM at hw ⊢
      unfold nameR
      generalize kindR k = kk at *
      rcases (show kk = 1 ∨ kk = 2 ∨ kk = 3 ∨ kk = 4 ∨ kk = 5 ∨ kk = 6 ∨ kk = 7 ∨ kk = 8 by omega) with rfl | rfl | rfl | rfl | rfl | rfl | rfl | rfl
      · exact hv _ h3
      · exact hv _ h3
      · exact hl _ h3
      · exact hl _ h3
      · exact hf _ h4
      · exact hf _ h4
      · exact absurd rfl hw
      · exact absurd rfl hw
    · split
      · exact ok_blockR f hv hl hf a
      · trivial
    · split
      · exact ok_blockR f hv hl hf b
      · trivial

/-! ### One function's text -/
theorem tokT_put0 : ∀ (ws : List (List UInt8)) (i : Nat), (∀ w ∈ ws, WordOk w) → tokT i (putM true ws) = (posT (i + 1) ws, none)
  | [], i, _ => by rw [putM, tokT_nil]; rfl
  | w :: ws, i, h => by
    have he : Ends (putM true ws) := by
      cases ws with
      | nil => intro c hc; simp [putM] at hc
      | cons x ws => rw [putM, if_pos rfl]; exact ends_b (by decide) _
    rw [putM, if_pos rfl, List.append_assoc, List.singleton_append, tokT_blank _ _ _ (by decide), tokT_word _ _ _ (h w (by simp)) he, tokT_put0 ws _ (fun x hx => h x (by simp [hx])), posT]
theorem parse_tok (its : List It) (h : ∀ x ∈ its, GoodI x) (t : List UInt8) (i : Nat) (hl : t.length ≤ 2000) (hk : tokT 0 t = (posT i (its.flatMap wordsI), none)) : parseM t = (addI its (ats (posT i (its.flatMap wordsI))) ⟨[], [], []⟩, 0, 0) := by
  have ht := tokM_T hl
  rw [hk] at ht
  simp only at ht
  unfold parseM
  rw [ht]
  simp only [ne_eq, not_true_eq_false, if_false]
  have hn : its.length ≤ (posT i (its.flatMap wordsI)).length := by
    have h1 : ∀ ws i, (posT i ws).length = ws.length := by
      intro ws
      induction ws with
      | nil => intro i; rfl
      | cons w ws ih => intro i; rw [posT, List.length_cons, List.length_cons, ih]
    rw [h1]
    clear ht hl h1 hk
    induction its with
    | nil => simp
    | cons x its ih =>
      have := ih (fun y hy => h y (by simp [hy]))
      have h2 := (wordsI_ok (h x (by simp))).1
      have h3 : 0 < (wordsI x).length := List.length_pos_iff.2 h2
      rw [List.flatMap_cons, List.length_append, List.length_cons]
      omega
  rw [prog_place its _ _ _ _ h (posT_keys _ _) hn]

/-- A function's text, so many blanks ahead of it. -/
theorem parse_func (n : List UInt8) (b : Blk) (hn : nameM n = true) (hb : GoodB 1 b) (m : Nat) (hl : (List.replicate m (32 : UInt8) ++ putM true (wordsI (.func n b))).length ≤ 2000) :
    ∃ ps, parseM (List.replicate m 32 ++ putM true (wordsI (.func n b))) = (⟨[], [], [⟨n, m + 1, placeB b ps⟩]⟩, 0, 0) := by
  have hg : ∀ x ∈ [It.func n b], GoodI x := fun x hx => by simp only [List.mem_singleton] at hx; subst hx; exact ⟨hn, hb⟩
  have hbl : ∀ (m i : Nat) (r : List UInt8), tokT i (List.replicate m 32 ++ r) = tokT (i + m) r := by
    intro m
    induction m with
    | zero => intro i r; simp
    | succ m ih => intro i r; rw [List.replicate_succ, List.cons_append, tokT_blank _ _ _ (by decide), ih, show i + 1 + m = i + (m + 1) by omega]
  have hw : ∀ w ∈ wordsI (.func n b), WordOk w := (wordsI_ok (x := .func n b) ⟨hn, hb⟩).2
  have ht : tokT 0 (List.replicate m 32 ++ putM true (wordsI (.func n b))) = (posT (m + 1) ([It.func n b].flatMap wordsI), none) := by
    rw [hbl, tokT_put0 _ _ hw, Nat.zero_add]; simp
  rw [parse_tok [.func n b] hg _ _ hl ht]
  refine ⟨(ats (posT (m + 1) ([It.func n b].flatMap wordsI))).drop 3, ?_⟩
  have hd : (ats (posT (m + 1) ([It.func n b].flatMap wordsI))).headD 0 = m + 1 := by
    have := (line_ats (.func n b) ⟨hn, hb⟩ (m + 1) []).1
    simpa using this
  simp only [addI, hd, List.nil_append]

/-! ### Three files -/
def xT : List UInt8 := [118, 97, 114, 32, 120, 32, 118, 97, 114, 32, 121, 32, 118, 97, 114, 32, 122, 32, 108, 111, 99, 107, 32, 108, 32, 108, 111, 99, 107, 32, 109, 32, 108, 111, 99, 107, 32, 110, 32, 102, 117, 110, 99, 32, 103, 32, 123, 32, 125, 32, 102, 117, 110, 99, 32, 104, 32, 123, 32, 125]
def yT (b : Blk) : List UInt8 := putM true (wordsI (.func [109, 97, 105, 110] b))
def zT (b : Blk) : List UInt8 := 32 :: putM true (wordsI (.func [102] b))
def vars7 : List DeclM := [⟨[120], 0⟩, ⟨[121], 6⟩, ⟨[122], 12⟩]
def locks7 : List DeclM := [⟨[108], 18⟩, ⟨[109], 25⟩, ⟨[110], 32⟩]
def ordM (b1 b2 : Blk) : ProgM := ⟨vars7, locks7, [⟨[103], 39, .nil⟩, ⟨[104], 50, .nil⟩, ⟨[109, 97, 105, 110], 10001, b1⟩, ⟨[102], 20002, b2⟩]⟩
theorem xT_parse : parseM xT = (⟨vars7, locks7, [⟨[103], 39, .nil⟩, ⟨[104], 50, .nil⟩]⟩, 0, 0) := by kernel_rfl
theorem ord_kinds : (∀ i < 3, kindOf (dclsM (ordM .nil .nil)) (varsT.getD i []) = 1) ∧ (∀ i < 3, kindOf (dclsM (ordM .nil .nil)) (locksT.getD i []) = 2) ∧ (∀ i < 4, kindOf (dclsM (ordM .nil .nil)) (funcsT.getD i []) = 3) ∧ twiceM [] (dclsM (ordM .nil .nil)) = none ∧ kindOf (dclsM (ordM .nil .nil)) [109, 97, 105, 110] = 3 := by
  decide +kernel
theorem ord_check {b1 b2 : Blk} (h1 : OkB (kindOf (dclsM (ordM .nil .nil))) b1) (h2 : OkB (kindOf (dclsM (ordM .nil .nil))) b2) (hc : cntB b1 + cntB b2 ≤ 200) : checkM (ordM b1 b2) = (0, 0) := by
  obtain ⟨-, -, -, hd, hm⟩ := ord_kinds
  have e : dclsM (ordM b1 b2) = dclsM (ordM .nil .nil) := rfl
  have hl : longM (ordM b1 b2) = false := by
    simp only [longM, ordM, vars7, locks7, cntF, cntB, List.length_cons, List.length_nil]
    simp
    omega
  unfold checkM
  have gen : ∀ f : List UInt8 → Nat, OkB f b1 → OkB f b2 → lookF f (ordM b1 b2).funcs = none := fun f h1 h2 => by
    simp only [ordM, lookF, h1.look, h2.look]
    rfl
  have hf := gen _ h1 h2
  rw [hl, e, hd, hf]
  simp only [Bool.false_eq_true, if_false]
  rw [if_pos (show kindOf (dclsM (ordM .nil .nil)) main7 = 3 from hm)]
theorem ord_all (a b : RawM) (ha : FewR a) (hb : FewR b) (hy : (yT (blockR a)).length ≤ 2000) (hz : (zT (blockR b)).length ≤ 2000) :
    ∃ b1 b2, cntB b1 ≤ 40 ∧ cntB b2 ≤ 40 ∧ allM [xT, yT (blockR a), zT (blockR b)] = (ordM b1 b2, 0, 0) := by
  obtain ⟨ga, ca⟩ := few_good ha
  obtain ⟨gb, cb⟩ := few_good hb
  obtain ⟨p1, h1⟩ := parse_func [109, 97, 105, 110] (blockR a) (by decide) ga 0 (show (List.replicate 0 (32 : UInt8) ++ yT (blockR a)).length ≤ 2000 by simpa using hy)
  obtain ⟨p2, h2⟩ := parse_func [102] (blockR b) (by decide) gb 1 hz
  simp only [List.replicate_zero, List.nil_append, Nat.zero_add] at h1
  have h2' : parseM (zT (blockR b)) = (⟨[], [], [⟨[102], 2, placeB (blockR b) p2⟩]⟩, 0, 0) := h2
  have h1' : parseM (yT (blockR a)) = (⟨[], [], [⟨[109, 97, 105, 110], 1, placeB (blockR a) p1⟩]⟩, 0, 0) := h1
  obtain ⟨hv, hl, hf, -, -⟩ := ord_kinds
  have oa := ((ok_blockR _ hv hl hf a).place p1).move 10000
  have ob := ((ok_blockR _ hv hl hf b).place p2).move 20000
  have k1 : cntB (moveB 10000 (placeB (blockR a) p1)) ≤ 40 := by rw [moveB_cnt, cntB_place, cntB_cnt]; exact ca
  have k2 : cntB (moveB 20000 (placeB (blockR b) p2)) ≤ 40 := by rw [moveB_cnt, cntB_place, cntB_cnt]; exact cb
  refine ⟨_, _, k1, k2, ?_⟩
  have hm : manyM 0 [xT, yT (blockR a), zT (blockR b)] ⟨[], [], []⟩ = (ordM (moveB 10000 (placeB (blockR a) p1)) (moveB 20000 (placeB (blockR b) p2)), 0, 0) := by
    simp only [manyM, xT_parse, h1', h2']
    rfl
  unfold allM
  rw [hm]
  simp only [ne_eq, not_true_eq_false, if_false]
  rw [ord_check oa ob (by omega)]
  simp

end Go.Proofs.YtildkedplmjdaaaGreatDoor
namespace Go.Proofs.YtildkedplmjdaaaGreatDoor
set_option maxRecDepth 100000
set_option linter.unusedVariables false
open Go.RowKit Go.Sort

theorem FilAt.three {w : World} {g : Nat} {a b c d e f : List UInt8} {T : TypeId} (h : IsBlk w g (.cells #[encStr a, encStr b, encStr c, encStr d, encStr e, encStr f] T)) : FilAt w (some ⟨g, 0, Option.none⟩) [(a, b), (c, d), (e, f)] := fun _ => by
  refine ⟨g, 0, rfl, h.lt, fun j x hf => ?_⟩
  match j, hf with
  | 0, hf => simp at hf; subst hf; exact ⟨h.cell 0, h.cell 1⟩
  | 1, hf => simp at hf; subst hf; exact ⟨h.cell 2, h.cell 3⟩
  | 2, hf => simp at hf; subst hf; exact ⟨h.cell 4, h.cell 5⟩
  | k + 3, hf => simp at hf
theorem app7_list (a b : List UInt8) : (⟨a.toArray⟩ : ByteArray) ++ ⟨b.toArray⟩ = ⟨(a ++ b).toArray⟩ := by
  apply ByteArray.ext
  simp
theorem yT_text (b : Blk) : yT b = [32, 102, 117, 110, 99, 32, 109, 97, 105, 110, 32] ++ putM false (wordsB b) := by
  simp [yT, wordsI, funcW, putM, wordsB]
theorem zT_text (b : Blk) : zT b = [32, 32, 102, 117, 110, 99, 32, 102, 32] ++ putM false (wordsB b) := by
  simp [zT, wordsI, funcW, putM, wordsB]
theorem few_words {r : RawM} (h : FewR r) : (putM false (wordsB (blockR r))).length ≤ 2000 := by
  obtain ⟨g, c⟩ := few_good h
  have h1 := good_len _ _ g
  have h2 := putM_len (wordsB (blockR r))
  have e : putM true (wordsB (blockR r)) = 32 :: putM false (wordsB (blockR r)) := putM_true (by simp [wordsB])
  rw [e, List.length_cons] at h2
  have h3 : wl (wordsB (blockR r)) = 4 + wl (innerM (blockR r)) := by
    unfold wordsB
    rw [wl_append, wl_append]
    simp [wl, openW, closeW]
    omega
  omega
def ord7 (ty tz : List UInt8) : Nat → List FilM
  | 0 => [([120], xT), ([121], ty), ([122], tz)]
  | 1 => [([122], tz), ([121], ty), ([120], xT)]
  | 2 => [([121], ty), ([122], tz), ([120], xT)]
  | _ => [([122], tz), ([120], xT), ([121], ty)]
theorem ord7_len (ty tz : List UInt8) : ∀ k, (ord7 ty tz k).length = 3
  | 0 => rfl
  | 1 => rfl
  | 2 => rfl
  | _ + 3 => rfl
theorem ord7_perm (ty tz : List UInt8) : ∀ k, ([([120], xT), ([121], ty), ([122], tz)] : List FilM).Perm (ord7 ty tz k)
  | 0 => List.Perm.refl _
  | 1 => by
    show ([([120], xT), ([121], ty), ([122], tz)] : List FilM).Perm [([122], tz), ([121], ty), ([120], xT)]
    exact (List.reverse_perm _).symm
  | 2 => by
    show ([([120], xT), ([121], ty), ([122], tz)] : List FilM).Perm [([121], ty), ([122], tz), ([120], xT)]
    exact (List.perm_append_comm (l₁ := [([120], xT)]) (l₂ := [([121], ty), ([122], tz)]))
  | _ + 3 => by
    show ([([120], xT), ([121], ty), ([122], tz)] : List FilM).Perm [([122], tz), ([120], xT), ([121], ty)]
    exact (List.perm_append_comm (l₁ := [([120], xT), ([121], ty)]) (l₂ := [([122], tz)]))
theorem ord7_short (ty tz : List UInt8) : ∀ k, ∀ f ∈ ord7 ty tz k, f.1.length ≤ 100000 := fun k f hf => by
  have := (ord7_perm ty tz k).mem_iff.2 hf
  simp only [List.mem_cons, List.not_mem_nil, or_false] at this
  rcases this with rfl | rfl | rfl <;> simp
theorem ord7_sound (ty tz : List UInt8) (hy : ty.length ≤ 2000) (hz : tz.length ≤ 2000) : ∀ k, soundN (ord7 ty tz k) = true := fun k => by
  have n1 : nameM [120] = true := by decide
  have n2 : nameM [121] = true := by decide
  have n3 : nameM [122] = true := by decide
  have lx : xT.length ≤ 2000 := by decide
  rcases k with _ | _ | _ | k <;> simp [soundN, ord7, goodF, n1, n2, n3, lx, hy, hz]
theorem ord7_join {ty tz : List UInt8} (hy : ty.length ≤ 2000) (hz : tz.length ≤ 2000) {X : ProgM × Nat × Nat} {k : Nat} (h : JoinX (ord7 ty tz k) X) : X = allM [xT, ty, tz] :=
  joinX_of h (ord7_sound ty tz hy hz k) (ord7_perm ty tz k) (by simp; decide)

theorem five_made (w : World) (o0 o1 o2 o3 o4 : Obj) : IsBlk (((((w.alloc o0).alloc o1).alloc o2).alloc o3).alloc o4) w.heap.size o0 ∧ IsBlk (((((w.alloc o0).alloc o1).alloc o2).alloc o3).alloc o4) (w.heap.size + 1) o1 ∧
    IsBlk (((((w.alloc o0).alloc o1).alloc o2).alloc o3).alloc o4) (w.heap.size + 1 + 1) o2 ∧ IsBlk (((((w.alloc o0).alloc o1).alloc o2).alloc o3).alloc o4) (w.heap.size + 1 + 1 + 1) o3 ∧
    IsBlk (((((w.alloc o0).alloc o1).alloc o2).alloc o3).alloc o4) (w.heap.size + 1 + 1 + 1 + 1) o4 ∧ Only [] w (((((w.alloc o0).alloc o1).alloc o2).alloc o3).alloc o4) := by
  have s1 : (w.alloc o0).heap.size = w.heap.size + 1 := by simp
  have s2 : ((w.alloc o0).alloc o1).heap.size = w.heap.size + 1 + 1 := by simp
  have s3 : (((w.alloc o0).alloc o1).alloc o2).heap.size = w.heap.size + 1 + 1 + 1 := by simp
  have s4 : ((((w.alloc o0).alloc o1).alloc o2).alloc o3).heap.size = w.heap.size + 1 + 1 + 1 + 1 := by simp
  refine ⟨((((IsBlk.made w o0).alloc o1).alloc o2).alloc o3).alloc o4, ?_, ?_, ?_, ?_, (((((Only.refl [] w).alloc o0).alloc o1).alloc o2).alloc o3).alloc o4⟩
  · have h := (((IsBlk.made (w.alloc o0) o1).alloc o2).alloc o3).alloc o4
    rw [s1] at h; exact h
  · have h := ((IsBlk.made ((w.alloc o0).alloc o1) o2).alloc o3).alloc o4
    rw [s2] at h; exact h
  · have h := (IsBlk.made (((w.alloc o0).alloc o1).alloc o2) o3).alloc o4
    rw [s3] at h; exact h
  · have h := IsBlk.made ((((w.alloc o0).alloc o1).alloc o2).alloc o3) o4
    rw [s4] at h; exact h
theorem ord7_places {b1 b2 : Blk} (h1 : cntB b1 ≤ 40) (h2 : cntB b2 ≤ 40) : (ordM b1 b2).vars.length + (ordM b1 b2).locks.length + (placesF (ordM b1 b2).funcs).length ≤ 1000000 ∧ ∀ f ∈ (ordM b1 b2).funcs, f.body.cnt ≤ 100000 := by
  rw [cntB_cnt] at h1 h2
  refine ⟨?_, fun f hf => ?_⟩
  · simp only [ordM, vars7, locks7, placesF, List.flatMap_cons, List.flatMap_nil, List.length_append, List.length_cons, List.length_nil, placesB_len, Blk.cnt]
    omega
  · simp only [ordM, List.mem_cons, List.not_mem_nil, or_false] at hf
    rcases hf with rfl | rfl | rfl | rfl
    · simp [Blk.cnt]
    · simp [Blk.cnt]
    · simp only; omega
    · simp only; omega
/-- What the law looks up of a program that is this one. -/
theorem ord7_cells {w : World} {av al af : Option Addr} {cv cl cf : Nat} {b1 b2 : Blk} (h : ProgAt w (.slice av 3 cv) (.slice al 3 cl) (.slice af 4 cf) (ordM b1 b2)) :
    ∃ gv gl gf, av = some ⟨gv, 0, none⟩ ∧ al = some ⟨gl, 0, none⟩ ∧ af = some ⟨gf, 0, none⟩ ∧ gv < w.heap.size ∧ gl < w.heap.size ∧ gf < w.heap.size ∧ w.cell? ⟨gv, 1, none⟩ = some (.int .i64 0) ∧ w.cell? ⟨gl, 1, none⟩ = some (.int .i64 18) ∧
      w.cell? ⟨gf, 2, none⟩ = some (.slice none 0 0) ∧ w.cell? ⟨gf, 6, none⟩ = some (.string ⟨#[109, 97, 105, 110]⟩) ∧ w.cell? ⟨gf, 7, none⟩ = some (.int .i64 10001) ∧ w.cell? ⟨gf, 9, none⟩ = some (.string ⟨#[102]⟩) ∧ w.cell? ⟨gf, 10, none⟩ = some (.int .i64 20002) := by
  obtain ⟨⟨a1, c1, e1, -, h1⟩, ⟨a2, c2, e2, -, h2⟩, ⟨a3, c3, e3, -, h3⟩⟩ := h
  injection e1 with e1 _ _
  injection e2 with e2 _ _
  injection e3 with e3 _ _
  subst e1; subst e2; subst e3
  obtain ⟨gv, rfl, k1, r1⟩ := h1 (by simp [ordM, vars7])
  obtain ⟨gl, rfl, k2, r2⟩ := h2 (by simp [ordM, locks7])
  obtain ⟨gf, xs, fp, rfl, k3, r3, e⟩ := h3 (by simp [ordM])
  obtain ⟨v0, f0, fr0, x0, rfl, -, m0, -, v1, f1, fr1, x1, rfl, -, -, -, v2, f2, fr2, x2, rfl, -, -, -, v3, f3, fr3, x3, rfl, -, -, -, -⟩ := e
  have hv0 : v0 = .slice none 0 0 := by
    rcases m0 with ⟨e, -⟩ | ⟨g, c, fq, xs, e, _, hlt, -⟩
    · exact e
    · exact absurd hlt (by simp [Blk.len])
  subst hv0
  refine ⟨gv, gl, gf, rfl, rfl, rfl, k1, k2, k3, ?_, ?_, ?_, ?_, ?_, ?_, ?_⟩
  · have := r1 1 (.int .i64 0) rfl; rwa [Nat.zero_add] at this
  · have := r2 1 (.int .i64 18) rfl; rwa [Nat.zero_add] at this
  · have := r3 2 (.slice none 0 0) rfl; rwa [Nat.zero_add] at this
  · have := r3 6 (.string ⟨#[109, 97, 105, 110]⟩) rfl; rwa [Nat.zero_add] at this
  · have := r3 7 (.int .i64 10001) rfl; rwa [Nat.zero_add] at this
  · have := r3 9 (.string ⟨#[102]⟩) rfl; rwa [Nat.zero_add] at this
  · have := r3 10 (.int .i64 20002) rfl; rwa [Nat.zero_add] at this

set_option maxHeartbeats 4000000 in
theorem count0_any (w : World) (c : Nat) : Calls Tryz.prog 21 #[.slice none 0 c] w fun e w' => e = .returned (.int .i64 0) ∧ w = w' := by
  go_enter Tryz.func21, Tryz.ntmps21
  go_wp2_with fail
  go_loopw [3, 4] (fun sv iv wr => sv = .int .i64 0 ∧ iv = .int .i64 0 ∧ w = wr) (fun _ _ _ => 0)
  case atStart => exact ⟨rfl, rfl, rfl⟩
  case round =>
    obtain ⟨rfl, rfl, rfl⟩ := hrel
    go_wp2
    go_ret
    exact ⟨rfl, rfl⟩

end Go.Proofs.YtildkedplmjdaaaGreatDoor
namespace Go.Proofs.YtildkedplmjdaaaGreatDoor
set_option maxRecDepth 100000
set_option linter.unusedVariables false
open Go.RowKit Go.Sort

set_option maxHeartbeats 8000000 in
theorem dcount_step (N : Nat) (ih : ∀ b : Blk, b.cnt < N → ∀ (w : World) (v : Value) (fp : List Nat), BlkAt w v b fp → Calls Tryz.prog 21 #[v] w fun e w' => e = .returned (.int .i64 (cntB b)) ∧ Only [] w w')
    (b : Blk) (hN : b.cnt ≤ N) (hN2 : N ≤ 1000000) (w : World) (v : Value) (fp : List Nat) (h : BlkAt w v b fp) :
    Calls Tryz.prog 21 #[v] w fun e w' => e = .returned (.int .i64 (cntB b)) ∧ Only [] w w' := by
  have Ih := Lib.hid ih
  clear ih
  obtain ⟨a, c, rfl, -⟩ := h.slice
  obtain ⟨xs, fq, hE, hr⟩ := blk_open ⟨_, h⟩
  have HE0 := Lib.hid (And.intro hE hr)
  have hbl := b.len_cnt
  have hbc := cntB_cnt b
  clear hE hr h
  go_enter Tryz.func21, Tryz.ntmps21
  go_wp2_with fail
  go_loopw [3, 4] (fun nv iv wr => ∃ (j m : Nat) (rs : Blk) (xr : List Value) (fr : List Nat), nv = .int .i64 m ∧ iv = .int .i64 j ∧ j + rs.len = b.len ∧ rs.cnt ≤ N ∧ EncB w rs xr fr ∧
      (0 < rs.len → ∃ g, a = some ⟨g, 0, none⟩ ∧ g < w.heap.size ∧ w.rangeAt g (j * 5) xr) ∧ m + cntB rs = cntB b ∧ Only [] w wr) (fun _ iv _ => b.len - (intOf iv).toNat)
  case atStart =>
    refine ⟨0, 0, b, xs, fq, rfl, rfl, by omega, hN, HE0.out.1, fun h => ?_, by omega, Only.refl _ _⟩
    obtain ⟨g, h1, h2, h3⟩ := HE0.out.2 h
    exact ⟨g, h1, h2, by rw [Nat.zero_mul]; exact h3⟩
  case round =>
    obtain ⟨j, m, rs, xr, fr, rfl, rfl, hjl, hrc, hE, hra, hs, hO⟩ := hrel
    have HO := Lib.hid hO
    clear hO
    cases rs with
    | nil =>
      have hji : ¬ (j : Int) < (b.len : Int) := by simp only [Blk.len] at hjl; omega
      have hm : m = cntB b := by simp only [cntB] at hs; omega
      have Hm := Lib.hid hm
      clear hm hs
      go_wp2_with fail
      go_ret
      rw [← hbc, ← Hm.out]
      exact ⟨rfl, HO.out⟩
    | cons k p n A B rr =>
      have hji : (j : Int) < (b.len : Int) := by simp only [Blk.len] at hjl; omega
      obtain ⟨va, vb, fa, fb, fr', xr', rfl, rfl, hA, hB, hE'⟩ := hE
      obtain ⟨g, hag, hg, hrx⟩ := hra (by simp [Blk.len])
      have hA' : BlkAt w va A fa := hA
      have hB' : BlkAt w vb B fb := hB
      obtain ⟨aa, ca, rfl, -⟩ := hA'.slice
      obtain ⟨ab, cb, rfl, -⟩ := hB'.slice
      have hcA : A.cnt < N ∧ B.cnt < N ∧ rr.cnt ≤ N := by simp only [Blk.cnt] at hrc; omega
      have HA : Hid (∀ W, Only [] wr W → Calls Tryz.prog 21 #[.slice aa A.len ca] W fun e w' => e = .returned (.int .i64 (cntB A)) ∧ Only [] W w') :=
        Lib.hid (fun W hW => Ih.out A hcA.1 W _ fa (hA'.more (HO.out.plus hW)))
      have HB : Hid (∀ W, Only [] wr W → Calls Tryz.prog 21 #[.slice ab B.len cb] W fun e w' => e = .returned (.int .i64 (cntB B)) ∧ Only [] W w') :=
        Lib.hid (fun W hW => Ih.out B hcA.2.1 W _ fb (hB'.more (HO.out.plus hW)))
      have hcl : ∀ W, Only [] wr W → W.cell? ⟨g, j * 5 + 3, none⟩ = some (.slice aa A.len ca) ∧ W.cell? ⟨g, j * 5 + 4, none⟩ = some (.slice ab B.len cb) := fun W hW =>
        ⟨((HO.out.plus hW).cell (p := ⟨g, j * 5 + 3, none⟩) hg (by simp)).trans (hrx 3 _ rfl), ((HO.out.plus hW).cell (p := ⟨g, j * 5 + 4, none⟩) hg (by simp)).trans (hrx 4 _ rfl)⟩
      have hrx2 := Lib.hid (fun i u (hu : xr'[i]? = some u) => hrx (i + 5) u hu)
      have HE := Lib.hid hE'
      have Hcl := Lib.hid hcl
      have hsa : m + (1 + cntB A + cntB B + cntB rr) = cntB b := hs
      have hba : cntB b ≤ 1000000 := by omega
      have hbm : m + 1 + cntB A + cntB B ≤ 1000000 := by omega
      have Hsa := Lib.hid hsa
      clear hrx hE' hA' hB' hra hcl hA hB hs hsa hbc
      generalize cntB A = sa at *
      generalize cntB B = sb at *
      rw [hag]
      go_upto_region 5 with fail
      have hdr : Only [] wr wr.drew := (Only.refl [] wr).drew
      have hall := Hcl.out _ hdr
      go_region_held3 (fun W => W.cell? ⟨g, j * 5 + 3, none⟩ = some (.slice aa A.len ca) ∧ W.cell? ⟨g, j * 5 + 4, none⟩ = some (.slice ab B.len cb)) (first | exact hall | assumption)
        (first
          | (go_at_call 21
             with_reducible refine (HA.out _ ?_).mono ?_
             · assumption
             rintro e w5 ⟨rfl, hO5⟩
             have hOw5 : Only [] wr w5 := Only.plus (by assumption) hO5
             have hall5 := Hcl.out w5 hOw5)
          | (go_at_call 21
             with_reducible refine (HB.out _ ?_).mono ?_
             · assumption
             rintro e w5 ⟨rfl, hO5⟩
             have hOw5 : Only [] wr w5 := Only.plus (by assumption) hO5
             have hall5 := Hcl.out w5 hOw5))
      all_goals
        go_wp2
        rw [← hag]
        go_roundw
        case rel =>
          refine ⟨j + 1, m + 1 + sa + sb, rr, xr', fr', ?_, by go_num, by simp only [Blk.len] at hjl; omega, hcA.2.2, HE.out, fun h => ⟨g, hag, hg, fun i u hu => ?_⟩, by have := Hsa.out; omega, HO.out.plus (by assumption)⟩
          · rw [Go.IntWalk.i64_in ((m : Int) + 1) (by omega), Go.IntWalk.i64_in ((m : Int) + 1 + sa) (by omega), Go.IntWalk.i64_in ((m : Int) + 1 + sa + sb) (by omega)]; congr 1
          · have := hrx2.out i u hu
            rw [show (j + 1) * 5 + i = j * 5 + (i + 5) by omega]
            exact this
        case measure => simp [intOf]; simp only [Blk.len] at hjl; omega

theorem dcount_any : ∀ (N : Nat) (b : Blk), b.cnt ≤ N → N ≤ 1000000 → ∀ (w : World) (v : Value) (fp : List Nat), BlkAt w v b fp → Calls Tryz.prog 21 #[v] w fun e w' => e = .returned (.int .i64 (cntB b)) ∧ Only [] w w'
  | 0, b, hN, h2, w, v, fp, h => dcount_step 0 (fun b h => absurd h (by omega)) b hN h2 w v fp h
  | N + 1, b, hN, h2, w, v, fp, h => dcount_step (N + 1) (fun b h => dcount_any N b (by omega) (by omega)) b hN h2 w v fp h

set_option maxHeartbeats 4000000 in
theorem among_any (w : World) (v : Value) (l : List DeclM) (s : List UInt8) (h : DeclsAt w v l) (hln : l.length ≤ 1000000) : Calls Tryz.prog 34 #[v, .string ⟨s.toArray⟩] w fun e w' => e = .returned (.bool (l.any (fun d => d.name == s))) ∧ w = w' := by
  obtain ⟨a, c, rfl, hc, hl⟩ := h
  have Hl := Lib.hid hl
  clear hl
  go_enter Tryz.func34, Tryz.ntmps34
  go_wp2_with fail
  go_loopw [5] (fun iv wr => ∃ j : Nat, iv = .int .i64 j ∧ j ≤ l.length ∧ (l.take j).any (fun d => d.name == s) = false ∧ w = wr) (fun iv _ => l.length - (intOf iv).toNat)
  case atStart => exact ⟨0, rfl, Nat.zero_le _, by simp, rfl⟩
  case round =>
    obtain ⟨j, rfl, hj, hno, rfl⟩ := hrel
    have Hno := Lib.hid hno
    clear hno
    by_cases hlt : j < l.length
    · have hji : (j : Int) < (l.length : Int) := by omega
      obtain ⟨g, rfl, hg, hr⟩ := Hl.out (by omega)
      obtain ⟨d, hd⟩ : ∃ d, l[j]? = some d := ⟨l[j], by simp [hlt]⟩
      have hdc : (dcells l)[j * 2]? = some (encStr d.name) := by
        have hx : ∀ (l : List DeclM) (i : Nat) (x : DeclM), l[i]? = some x → (dcells l)[i * 2]? = some (encStr x.name) := by
          intro l
          induction l with
          | nil => intro i x h; simp at h
          | cons y l ih =>
            intro i x h
            cases i with
            | zero => simp at h; subst h; simp [dcells]
            | succ i =>
              have := ih i x (by simpa using h)
              rw [show (i + 1) * 2 = i * 2 + 2 by omega]
              simpa [dcells] using this
        exact hx l j d hd
      have hcl := hr _ _ hdc
      rw [Nat.zero_add] at hcl
      have Htk := Lib.hid (show l.take (j + 1) = l.take j ++ [d] by rw [List.take_add_one, hd]; rfl)
      have Hd := Lib.hid hd
      unfold encStr at hcl
      clear hdc hr hd
      by_cases hs : d.name = s
      · have hsb : (d.name == s) = true := by simpa using hs
        go_wp2
        go_ret
        refine ⟨?_, rfl⟩
        have : l.any (fun d => d.name == s) = true := List.any_eq_true.2 ⟨d, List.mem_of_getElem? Hd.out, hsb⟩
        rw [this]
        rfl
      · have hsb : (d.name == s) = false := by simpa using hs
        go_wp2
        go_roundw
        case rel => exact ⟨j + 1, by go_num, by omega, by rw [Htk.out, List.any_append, Hno.out]; simp [hsb], trivial⟩
        case measure => simp [intOf]; omega
    · have hji : ¬ (j : Int) < (l.length : Int) := by omega
      obtain rfl : j = l.length := by omega
      go_wp2
      go_ret
      refine ⟨?_, rfl⟩
      have := Hno.out
      rw [List.take_length] at this
      rw [this]
      rfl

end Go.Proofs.YtildkedplmjdaaaGreatDoor
