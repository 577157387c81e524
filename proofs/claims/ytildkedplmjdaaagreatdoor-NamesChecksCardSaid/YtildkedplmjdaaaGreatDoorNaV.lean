/-
  joined of the package names: the program of files.
-/
import Derived.Test.YtildkedplmjdaaaGreatDoorNaU
namespace Go.Proofs.YtildkedplmjdaaaGreatDoor
set_option maxRecDepth 100000
set_option linter.unusedVariables false
open Go.RowKit Go.Sort Go.Stop

theorem ret_join {fn : Func} {p q : Tmp} (h : fn.results = #[.cell p 30, .tmp q]) (tmps : Array Value) (w : World) (g : Nat) (x0 x1 x2 y : Value)
    (hp : tmps.getD p undef = .pointer (some ⟨g, 0, none⟩)) (hq : tmps.getD q undef = y) (h0 : IsBlk w g (.cells #[x0, x1, x2] 30)) :
    (results fn tmps).run Tryz.prog w = .ok (.tuple #[.agg #[x0, x1, x2], y]) w := by
  have hp' : tmps[p]?.getD undef = .pointer (some ⟨g, 0, none⟩) := by simpa using hp
  have hq' : tmps[q]?.getD undef = y := by simpa using hq
  have k0 : w.cell? ⟨g, 0, none⟩ = some x0 := h0.cell 0
  have k1 : w.cell? ⟨g, 1, none⟩ = some x1 := h0.cell 1
  have k2 : w.cell? ⟨g, 2, none⟩ = some x2 := h0.cell 2
  simp [results, h, hp', hq', asAddr, k0, k1, k2, go_sem]

/-- What joined leaves of files. -/
def JoinTo (w : World) (zs : List FilM) (r : Ending) (w' : World) : Prop :=
  ∃ X : ProgM × Nat × Nat, (soundN zs = false ∧ X = (⟨[], [], []⟩, 0, 1) ∨ soundN zs = true ∧ ∃ zs', zs'.Perm zs ∧ OrdF zs' ∧ X = allM (zs'.map (·.2))) ∧
    ∃ vv vl vf ev, r = .returned (.tuple #[.agg #[vv, vl, vf], ev]) ∧ ErrIs ev X.2 ∧ ProgNew w w' vv vl vf X.1 ∧ Only [] w w'

theorem PlB.mono {e e' n n' : Nat} (he : e ≤ e') (hn : n ≤ n') : ∀ {b : Blk}, PlB e n b → PlB e' n' b
  | .nil, _ => trivial
  | .cons _ _ _ _ _ _, h => ⟨Nat.le_trans h.1 he, Nat.le_trans h.2.1 hn, h.2.2.1.mono he hn, h.2.2.2.1.mono he hn, h.2.2.2.2.mono he hn⟩
theorem PlP.mono {e e' n n' : Nat} {P : ProgM} (h : PlP e n P) (he : e ≤ e') (hn : n ≤ n') : PlP e' n' P :=
  ⟨fun d hd => ⟨Nat.le_trans (h.1 d hd).1 he, Nat.le_trans (h.1 d hd).2 hn⟩, fun d hd => ⟨Nat.le_trans (h.2.1 d hd).1 he, Nat.le_trans (h.2.1 d hd).2 hn⟩,
    fun d hd => ⟨Nat.le_trans (h.2.2 d hd).1 he, Nat.le_trans (h.2.2 d hd).2.1 hn, (h.2.2 d hd).2.2.mono he hn⟩⟩
theorem PlB.moved {e n k : Nat} : ∀ {b : Blk}, PlB e n b → PlB (e + k) n (moveB k b)
  | .nil, _ => trivial
  | .cons _ _ _ _ _ _, h => ⟨Nat.add_le_add_right h.1 k, h.2.1, h.2.2.1.moved, h.2.2.2.1.moved, h.2.2.2.2.moved⟩
theorem PlP.moved {e n k : Nat} {P : ProgM} (h : PlP e n P) : PlP (e + k) n (moveP k P) := by
  refine ⟨fun d hd => ?_, fun d hd => ?_, fun d hd => ?_⟩
  · obtain ⟨x, hx, rfl⟩ := List.mem_map.1 hd
    exact ⟨Nat.add_le_add_right (h.1 x hx).1 k, (h.1 x hx).2⟩
  · obtain ⟨x, hx, rfl⟩ := List.mem_map.1 hd
    exact ⟨Nat.add_le_add_right (h.2.1 x hx).1 k, (h.2.1 x hx).2⟩
  · obtain ⟨x, hx, rfl⟩ := List.mem_map.1 hd
    exact ⟨Nat.add_le_add_right (h.2.2 x hx).1 k, (h.2.2 x hx).2.1, (h.2.2 x hx).2.2.moved⟩
theorem PlP.add {e n : Nat} {P Q : ProgM} (h : PlP e n P) (k : PlP e n Q) : PlP e n (add7P P Q) := by
  refine ⟨fun d hd => ?_, fun d hd => ?_, fun d hd => ?_⟩
  · rcases List.mem_append.1 hd with hd | hd
    · exact h.1 d hd
    · exact k.1 d hd
  · rcases List.mem_append.1 hd with hd | hd
    · exact h.2.1 d hd
    · exact k.2.1 d hd
  · rcases List.mem_append.1 hd with hd | hd
    · exact h.2.2 d hd
    · exact k.2.2 d hd
theorem cntF_move (k : Nat) : ∀ l : List FuncM, cntF (l.map (moveF k)) = cntF l
  | [] => rfl
  | f :: r => by rw [List.map_cons, cntF, cntF, cntF_move k r]; simp only [moveF, moveB_cnt]
theorem how_move (k : Nat) (P : ProgM) : howM (moveP k P) = howM P := by simp only [howM, moveP, List.length_map, cntF_move]
theorem how_add (P Q : ProgM) : howM (add7P P Q) = howM P + howM Q := by simp only [howM, add7P, List.length_append, cntF_app]; omega

theorem good_name : ∀ (s l : List FilM), goodF s l = true → ∀ f ∈ l, f.1.length ≤ 12 ∧ f.2.length ≤ 2000
  | _, [], _, f, hf => by cases hf
  | s, g :: r, h, f, hf => by
    simp only [goodF, Bool.and_eq_true, decide_eq_true_eq] at h
    rcases List.mem_cons.1 hf with rfl | hf
    · refine ⟨?_, h.2.2.1⟩
      have := h.2.1
      unfold nameM at this
      simp at this
      omega
    · exact good_name _ r h.2.2.2 f hf

set_option maxHeartbeats 16000000 in
theorem joined_any (w : World) (a : Option Addr) (c : Nat) (zs : List FilM) (h : FilAt w a zs) (hc : zs.length ≤ c) (hn : ∀ f ∈ zs, f.1.length ≤ 100000) (hg : ErrT w) :
    Calls Tryz.prog 37 #[.slice a zs.length c] w (JoinTo w zs) := by
  have hnot : ∀ (x : Bool) (w : World), (Op.unary .not (.bool x)).run Tryz.prog w = .ok (.bool (!x)) w := fun _ _ => rfl
  have hOa := (Only.refl [] w).alloc (.cells #[.slice none 0 0, .slice none 0 0, .slice none 0 0] 30)
  have hR := Lib.hid (IsBlk.made w (.cells #[.slice none 0 0, .slice none 0 0, .slice none 0 0] 30))
  have HO := Lib.hid hOa
  have H := Lib.hid (h.more hOa)
  have Hn := Lib.hid hn
  clear h hn hOa
  go_enter Tryz.func37, Tryz.ntmps37
  go_wp2_with fail
  generalize hW : w.alloc (.cells #[.slice none 0 0, .slice none 0 0, .slice none 0 0] 30) = w1 at *
  clear hW
  refine (sound_any w1 a c zs H.out hc Hn.out).mono ?_
  rintro e w2 ⟨rfl, hO2⟩
  have hR2 := hR.out.only hO2 (by simp)
  have HO2 := Lib.hid (HO.out.plus hO2)
  have H2 := Lib.hid (H.out.more hO2)
  clear hO2
  cases hso : soundN zs with
  | false =>
    have y0 := hR2.cell 0
    have y1 := hR2.cell 1
    have y2 := hR2.cell 2
    have f0 := hR2.notFrozen 0
    have f1 := hR2.notFrozen 1
    have f2 := hR2.notFrozen 2
    have HR2 := Lib.hid hR2
    clear hR2
    go_wp2
    obtain ⟨s0, hE0⟩ := three_world HR2.out (.slice none 0 0) (.slice none 0 0) (.slice none 0 0)
    refine bodyPost_ret_by (ret_join rfl _ _ w.heap.size _ _ _ _ rfl rfl s0) rfl ?_
    exact ⟨_, .inl ⟨hso, rfl⟩, _, _, _, _, rfl, .alone 1, fun _ _ _ _ => ProgAt.nil _, HO2.out.then hE0 [] (by simp) (by simp)⟩
  | true =>
    have h8 : zs.length ≤ 8 ∧ goodF [] zs = true := by unfold soundN at hso; simpa using hso
    have hgood := good_name [] zs h8.2
    have hOb := (Only.refl [] w2).alloc (.cells #[.slice none 0 0, .slice none 0 0, .slice none 0 0] 30)
    have hA := IsBlk.made w2 (.cells #[.slice none 0 0, .slice none 0 0, .slice none 0 0] 30)
    have hRA : w.heap.size < w2.heap.size := hR2.lt
    have HA := Lib.hid (And.intro hA (And.intro (hR2.only hOb (by simp)) (H2.out.more hOb)))
    have HOb := Lib.hid (HO2.out.plus hOb)
    have Hgood := Lib.hid hgood
    clear hOb hA hR2 hgood
    go_wp2_with fail
    generalize hWb : w2.alloc (.cells #[.slice none 0 0, .slice none 0 0, .slice none 0 0] 30) = wb at *
    clear hWb
    generalize hgA : w2.heap.size = gA at *
    have hgAb : gA < wb.heap.size := HA.out.1.lt
    refine (byNames_any wb a c zs HA.out.2.2 h8.1).mono ?_
    rintro e w3 ⟨v, zs', rfl, hperm, hord, hrow, hO3⟩
    have hlen' : zs'.length = zs.length := hperm.length_eq
    obtain ⟨av, cv, rfl⟩ := owns_slice hrow
    have Hperm := Lib.hid (And.intro hperm hord)
    have Hgood' : Hid (∀ f ∈ zs', f.1.length ≤ 12 ∧ f.2.length ≤ 2000) := Lib.hid (fun f hf => Hgood.out f (hperm.mem_iff.1 hf))
    have hA3 := HA.out.1.only hO3 (by simp)
    have hR3 := HA.out.2.1.only hO3 (by simp)
    have HA3 := Lib.hid (And.intro hA3 hR3)
    have HO3 := Lib.hid (HOb.out.plus hO3)
    have hA3l := hA3.lt
    have hrl := World.ownsRow.lt hrow
    have Hrl := Lib.hid hrl
    have Hrow := Lib.hid hrow
    have HG3 := Lib.hid (hg.only HO3.out (by simp))
    clear hO3 hperm hord hrow hA3 hR3 hrl hg HA
    generalize hX : allM (zs'.map (·.2)) = X at *
    have HX := Lib.hid hX.symm
    clear hX
    go_wp2_with fail
    go_loopw [19] (fun iv wr => ∃ (j : Nat) (rs : List FilM) (P : ProgM) (vv vl vf : Value) (fp : List Nat), iv = .int .i64 j ∧ j + rs.length = zs.length ∧ zs'.drop j = rs ∧ GrowP w3 wr vv vl vf P fp ∧
        IsBlk wr gA (.cells #[vv, vl, vf] 30) ∧ manyM 0 (zs'.map (·.2)) ⟨[], [], []⟩ = manyM j (rs.map (·.2)) P ∧ PlP 1000000 12 P ∧ howM P ≤ 2000 * j ∧ Only [gA] w3 wr) (fun iv _ => zs.length - (intOf iv).toNat)
    case atStart => exact ⟨0, zs', ⟨[], [], []⟩, _, _, _, [], rfl, by omega, rfl, GrowP.nil _ _, HA3.out.1, rfl, ⟨by simp, by simp, by simp⟩, by simp [howM, cntF], Only.refl _ _⟩
    case round =>
      obtain ⟨j, rs, P, vv, vl, vf, fp, rfl, hjl, hdr, hG, hB, hmany, hpl, how, hO⟩ := hrel
      have HG := Lib.hid hG
      have HB := Lib.hid hB
      have Hm := Lib.hid hmany
      have Hpl := Lib.hid hpl
      have HOr := Lib.hid hO
      have Hdr := Lib.hid hdr
      have HR := Lib.hid (HA3.out.2.only hO (by simp; omega))
      have HGr := Lib.hid (HG3.out.only hO (by simp; omega))
      have HOw := Lib.hid (HO3.out.then hO [] (by simp) (by simp; omega))
      obtain ⟨a1, c1, rfl⟩ := owns_slice hG.vars
      obtain ⟨a2, c2, rfl⟩ := owns_slice hG.locks
      obtain ⟨a3, c3, rfl⟩ : ∃ a c, vf = .slice a P.funcs.length c := by obtain ⟨xs, h3, _⟩ := hG.funcs; exact owns_slice h3
      have b0 := hB.cell 0
      have b1 := hB.cell 1
      have b2 := hB.cell 2
      have bl := hB.lt
      clear hG hB hmany hpl hO hdr
      cases rs with
      | nil =>
        have hji : ¬ (j : Int) < (zs.length : Int) := by simp only [List.length_nil] at hjl; omega
        have hj8 : j ≤ 8 := by simp only [List.length_nil] at hjl; omega
        have hcn : cntF P.funcs ≤ 1000000 := by unfold howM at how; omega
        have HXs : Hid (X = if (checkM P).2 ≠ 0 then (⟨[], [], []⟩, checkM P) else (P, 0, 0)) := Lib.hid (by
          rw [HX.out]
          have e : manyM 0 (zs'.map (·.2)) ⟨[], [], []⟩ = (P, 0, 0) := Hm.out
          unfold allM
          rw [e]
          simp)
        have HP := Lib.hid HG.out.done
        go_wp2_with fail
        refine (faultOf_any wr _ _ _ P HP.out hcn (Hpl.out.mono (Nat.le_refl _) (by omega)).short).mono ?_
        rintro e w4 ⟨rfl, hO4⟩
        have hR4 := HR.out.only hO4 (by simp)
        have hB4 := HB.out.only hO4 (by simp)
        have HG4 := Lib.hid (HG.out.more hO4)
        have HO4 := Lib.hid (HOw.out.plus hO4)
        have HR4 := Lib.hid hR4
        clear hO4 b0 b1 b2
        have b0 := hB4.cell 0
        have b1 := hB4.cell 1
        have b2 := hB4.cell 2
        have y0 := hR4.cell 0
        have y1 := hR4.cell 1
        have y2 := hR4.cell 2
        have f0 := hR4.notFrozen 0
        have f1 := hR4.notFrozen 1
        have f2 := hR4.notFrozen 2
        have yl := hR4.lt
        clear hR4 hB4
        have Hev := Lib.hid (errV_is P)
        by_cases hk : (checkM P).2 = 0
        · have hfx : faultX P = none := by unfold faultX; rw [if_pos hk]
          rw [if_neg (by omega)] at HXs
          rw [hfx]
          rw [hfx] at Hev
          unfold errV at *
          clear hfx
          go_wp2
          obtain ⟨s0, hE0⟩ := three_world HR4.out (.slice a1 P.vars.length c1) (.slice a2 P.locks.length c2) (.slice a3 P.funcs.length c3)
          refine bodyPost_ret_by (ret_join rfl _ _ w.heap.size _ _ _ _ rfl rfl s0) rfl ?_
          exact ⟨X, .inr ⟨hso, zs', Hperm.out.1, Hperm.out.2, HX.out⟩, _, _, _, _, rfl, by rw [HXs.out]; exact .none, by rw [HXs.out]; exact fun S w9 h9 hS => ((HG4.out.keep hE0 (by simp; omega)).keep h9 (fun k hk => by have := hS k hk; omega)).done, HO4.out.then hE0 [] (by simp) (by simp)⟩
        · have hfx : faultX P = some (checkM P) := by unfold faultX; rw [if_neg hk]
          rw [if_pos hk] at HXs
          rw [hfx] at Hev
          rw [hfx]
          obtain ⟨T, z, hv⟩ : ∃ T z, faultV (checkM P) = .iface T z := by unfold faultV; split <;> exact ⟨_, _, rfl⟩
          simp only [errV] at *
          rw [hv] at Hev
          rw [hv]
          clear hfx hv
          go_wp2
          obtain ⟨s0, hE0⟩ := three_world HR4.out (.slice none 0 0) (.slice none 0 0) (.slice none 0 0)
          refine bodyPost_ret_by (ret_join rfl _ _ w.heap.size _ _ _ _ rfl rfl s0) rfl ?_
          exact ⟨X, .inr ⟨hso, zs', Hperm.out.1, Hperm.out.2, HX.out⟩, _, _, _, _, rfl, by rw [HXs.out]; exact Hev.out, by rw [HXs.out]; exact fun _ _ _ _ => ProgAt.nil _, HO4.out.then hE0 [] (by simp) (by simp)⟩
      | cons f rr =>
        have hji : (j : Int) < (zs.length : Int) := by simp only [List.length_cons] at hjl; omega
        have hj8 : j < 8 := by simp only [List.length_cons] at hjl; omega
        have hjz : j < zs.length := by simp only [List.length_cons] at hjl; omega
        have hf : zs'[j]? = some f := by
          have := congrArg (fun l => l[0]?) Hdr.out
          simp only [List.getElem?_drop, Nat.add_zero] at this
          simpa using this
        have hfm : f ∈ zs' := List.mem_of_getElem? hf
        obtain ⟨hf1, hf2⟩ := Hgood'.out f hfm
        have hdr1 : zs'.drop (j + 1) = rr := by have := congrArg List.tail Hdr.out; rw [List.tail_drop] at this; exact this
        obtain ⟨g, c', cs, hva, hgb, hgk, hra, -⟩ := own_open Hrow.out (by omega)
        injection hva with hva _ hvc
        subst hva
        subst hvc
        have hgA' : g ≠ gA := by omega
        have hra2 := rangeAt_only hra HOr.out hgk.lt (by simp; exact hgA')
        have hgr := (hgk.only HOr.out (by simp; exact hgA')).lt
        obtain ⟨m0, m1⟩ := filCells_at zs' j f hf
        have k0 : wr.cell? ⟨g, j * 2, none⟩ = some (encStr f.1) := by have := hra2 (j * 2) _ m0; rwa [Nat.zero_add] at this
        have k1 : wr.cell? ⟨g, j * 2 + 1, none⟩ = some (encStr f.2) := by have := hra2 (j * 2 + 1) _ m1; rwa [Nat.zero_add] at this
        have Hjl : Hid (j + (rr.length + 1) = zs.length) := Lib.hid hjl
        have Hdr1 := Lib.hid hdr1
        have Hmm : Hid (manyM 0 (zs'.map (·.2)) ⟨[], [], []⟩ = if (parseM f.2).2.2 ≠ 0 then (⟨[], [], []⟩, 10000 * j + (parseM f.2).2.1, (parseM f.2).2.2) else manyM (j + 1) (rr.map (·.2)) (add7P P (moveP (10000 * j) (parseM f.2).1))) := Lib.hid Hm.out
        have Hpg := Lib.hid (parseM_good f.2)
        have hOa := (Only.refl [] wr).alloc (.cells #[encStr f.1, encStr f.2] 46)
        have hfb := IsBlk.made wr (.cells #[encStr f.1, encStr f.2] 46)
        have HGlt := Lib.hid HG.out.lt
        have hs4 := hOa.size
        unfold encStr at hs4
        have HG4 := Lib.hid (HG.out.more hOa)
        have HB4 := Lib.hid (HB.out.only hOa (by simp))
        have HR4 := Lib.hid (HR.out.only hOa (by simp))
        have HOr4 := Lib.hid (HOr.out.plus hOa)
        have HOw4 := Lib.hid (HOw.out.plus hOa)
        have h34 : w3.heap.size ≤ wr.heap.size := HOr.out.size
        clear hra hra2 hgk m0 m1 hdr1 hjl hOa hfb Hm HG HB HR HOr HOw
        unfold encStr at k0 k1
        unfold encStr at HG4 HB4 HR4 HOr4 HOw4
        go_wp2_with fail
        generalize hW4 : wr.alloc (.cells #[.string ⟨f.1.toArray⟩, .string ⟨f.2.toArray⟩] 46) = w4 at *
        clear hW4
        refine (pparse_own w4 f.2 (by omega)).mono ?_
        rintro r w5 ⟨uv, ul, uf, fq, rfl, hQ, hO5⟩
        generalize hM : parseM f.2 = M at *
        obtain ⟨Q, pos, er⟩ := M
        simp only at hQ Hpg Hmm
        obtain ⟨b1', c1', rfl⟩ := owns_slice hQ.vars
        obtain ⟨b2', c2', rfl⟩ := owns_slice hQ.locks
        obtain ⟨b3', c3', rfl⟩ : ∃ a c, uf = .slice a Q.funcs.length c := by obtain ⟨xs, h3, _⟩ := hQ.funcs; exact owns_slice h3
        have HG5 := Lib.hid (HG4.out.more hO5)
        have HB5 := Lib.hid (HB4.out.only hO5 (by simp))
        have HR5 := Lib.hid (HR4.out.only hO5 (by simp))
        have HOr5 := Lib.hid (HOr4.out.plus hO5)
        have HOw5 := Lib.hid (HOw4.out.plus hO5)
        have hOc := (Only.refl [] w5).alloc (.cells #[.slice b1' Q.vars.length c1', .slice b2' Q.locks.length c2', .slice b3' Q.funcs.length c3'] 30)
        have hB7 := Lib.hid (IsBlk.made w5 (.cells #[.slice b1' Q.vars.length c1', .slice b2' Q.locks.length c2', .slice b3' Q.funcs.length c3'] 30))
        have HG6 := Lib.hid (HG5.out.more hOc)
        have HB6 := Lib.hid (HB5.out.only hOc (by simp))
        have HR6 := Lib.hid (HR5.out.only hOc (by simp))
        have HOr6 := Lib.hid (HOr5.out.plus hOc)
        have HOw6 := Lib.hid (HOw5.out.plus hOc)
        have HQ6 := Lib.hid (hQ.more hOc)
        have HQlt := Lib.hid hQ.lt
        have hs45 := hO5.size
        clear hQ hO5 hOc HG4 HB4 HR4 HOr4 HOw4 HG5 HB5 HR5 HOr5 HOw5 k0 k1
        by_cases he : er = 0
        · subst he
          have hwr1 : IntKind.i64.wrap ((j : Int) * 10000) = (j : Int) * 10000 := Go.IntWalk.i64_in _ (by omega)
          rw [if_neg (by simp)] at Hmm
          have q0 := hB7.out.cell 0
          have q1 := hB7.out.cell 1
          have q2 := hB7.out.cell 2
          have ql := hB7.out.lt
          go_wp2_with fail
          generalize hW6 : w5.alloc (.cells #[.slice b1' Q.vars.length c1', .slice b2' Q.locks.length c2', .slice b3' Q.funcs.length c3'] 30) = w6 at *
          clear hW6
          have ej : (j : Int) * 10000 = ((10000 * j : Nat) : Int) := by omega
          rw [ej]
          have hplQ : PlP 1000000 1000000 Q := Hpg.out.1.mono (by omega) (by omega)
          have hhQ : howM Q ≤ 2000 := by have := Hpg.out.2.1; omega
          have hs46 : w4.heap.size ≤ w6.heap.size := by omega
          refine (move_any w4 w6 (10000 * j) (by omega) _ _ _ Q fq HQ6.out hs46 hplQ (by omega)).mono ?_
          rintro r w7 ⟨rfl, hQ7, hO7⟩
          generalize hB7a : w5.heap.size = g7 at *
          have hfar : ∀ g ∈ blksP (.slice a1 P.vars.length c1) (.slice a2 P.locks.length c2) (.slice a3 P.funcs.length c3) fp, g ∉ blksP (.slice b1' Q.vars.length c1') (.slice b2' Q.locks.length c2') (.slice b3' Q.funcs.length c3') fq := fun g hg hm => by
            have := (HGlt.out g hg).2
            have := (HQlt.out g hm).1
            omega
          have hS7 : ∀ k, k < w4.heap.size → k ∉ blksP (.slice b1' Q.vars.length c1') (.slice b2' Q.locks.length c2') (.slice b3' Q.funcs.length c3') fq := fun k hk hm => by have := (HQlt.out k hm).1; omega
          have hg7 : g7 ∉ blksP (.slice b1' Q.vars.length c1') (.slice b2' Q.locks.length c2') (.slice b3' Q.funcs.length c3') fq := fun hm => by have := (HQlt.out g7 hm).2; omega
          have HQ7 := Lib.hid hQ7
          have HG7 := Lib.hid (HG6.out.off hO7 hfar)
          have HB7 := Lib.hid (HB6.out.only hO7 (hS7 gA (by omega)))
          have HR7 := Lib.hid (HR6.out.only hO7 (hS7 w.heap.size (by omega)))
          have hX7 := Lib.hid (hB7.out.only hO7 hg7)
          have HOr7 := Lib.hid (HOr6.out.then hO7 [gA] (fun i hi => .inl hi) (fun i hi => .inr (by have := (HQlt.out i hi).1; omega)))
          have HFar7 : Hid (FarP (blksP (.slice a1 P.vars.length c1) (.slice a2 P.locks.length c2) (.slice a3 P.funcs.length c3) fp) (blksP (.slice b1' Q.vars.length c1') (.slice b2' Q.locks.length c2') (.slice b3' Q.funcs.length c3') fq)) := Lib.hid hfar
          have H7all7 : Hid (g7 ∉ blksP (.slice a1 P.vars.length c1) (.slice a2 P.locks.length c2) (.slice a3 P.funcs.length c3) fp) := Lib.hid (fun hm => by have := (HGlt.out g7 hm).2; omega)
          have HOs7 : Hid (w7.heap.size ≤ w7.heap.size) := Lib.hid (Nat.le_refl _)
          have hg7A : g7 ≠ gA := by omega
          have hg7b : g7 < w6.heap.size := hB7.out.lt
          have hs67 := hO7.size
          have Hg7 := Lib.hid hg7
          generalize hq1 : moveP (10000 * j) Q = Q1 at *
          have hh1 : howM Q1 ≤ 2000 := by rw [← hq1, how_move]; exact hhQ
          have hpl1 : PlP 1000000 12 Q1 := by rw [← hq1]; exact (Hpg.out.1.moved (k := 10000 * j)).mono (by omega) (Nat.le_refl _)
          have hlP : P.vars.length ≤ 20000 ∧ P.locks.length ≤ 20000 ∧ P.funcs.length ≤ 20000 := by unfold howM at how; omega
          have hlQ : Q1.vars.length ≤ 2000 ∧ Q1.locks.length ≤ 2000 ∧ Q1.funcs.length ≤ 2000 := by unfold howM at hh1; omega
          clear hq1 hQ7 hO7 HG6 HB6 HR6 HOr6 HOw6 HQ6 q0 q1 q2 b0 b1 b2 bl hfar hS7 hg7 ql hplQ hhQ
          obtain ⟨iD, hiD, hzD0, hzD1, hzD2⟩ := info_parts infoD
          obtain ⟨iF, hiF, hzF0, hzF1, hzF2⟩ := info_parts infoFn
          have u0 := HB7.out.cell 0
          have u1 := HB7.out.cell 1
          have u2 := HB7.out.cell 2
          have ul := HB7.out.lt
          have x0 := hX7.out.cell 0
          have x1 := hX7.out.cell 1
          have x2 := hX7.out.cell 2
          have xl := hX7.out.lt
          go_upto_region 12 with (at_builtin; refine wpList_append_all rfl _ _ 27 rfl w3.heap.size 59 iD _ 2 24 Tryz.underlying27 hiD hzD0 hzD1 hzD2 rfl (by decide) (.slice a1 P.vars.length c1) P.vars.length (dcells P.vars) rfl HG7.out.vars w4.heap.size (.slice b1' Q.vars.length c1') Q1.vars.length (dcells Q1.vars) rfl HQ7.out.vars (dcells_ones _) (by unfold maxLen; omega) (by omega) (by have := HOr7.out.size; omega) ?_; intro vn W1 hownn hOn hbn; obtain ⟨avn, cvn, rfl⟩ := owns_slice hownn; have hBn := HB7.out.only hOn (fun hm => by have := (HG7.out.lt gA (List.mem_append_left _ hm)).1; omega); have fn0 := hBn.notFrozen 0; have cn0 := hBn.cell 0; have ln0 := hBn.lt)
          have hsetn : Only [gA] W1 (W1.setCell ⟨gA, 0, none⟩ (.slice avn (P.vars.length + Q1.vars.length) cvn)) := (Only.refl [gA] W1).setCell (p := ⟨gA, 0, none⟩) (.inl (by simp)) _
          have hBs := IsBlk.put hBn 0 (.slice avn (P.vars.length + Q1.vars.length) cvn)
          generalize hWn : W1.setCell ⟨gA, 0, none⟩ (.slice avn (P.vars.length + Q1.vars.length) cvn) = w8 at *
          clear hWn
          obtain ⟨av8, hav⟩ : ∃ x, x = avn := ⟨_, rfl⟩
          obtain ⟨cv8, hcv⟩ : ∃ x, x = cvn := ⟨_, rfl⟩
          subst hav
          subst hcv
          have HB8 : Hid (IsBlk w8 gA (.cells #[.slice av8 (P.vars.length + Q1.vars.length) cv8, .slice a2 P.locks.length c2, .slice a3 P.funcs.length c3] 30)) := Lib.hid hBs
          have hGa : GrowP w3 W1 (.slice av8 (P.vars.length + Q1.vars.length) cv8) (.slice a2 P.locks.length c2) (.slice a3 P.funcs.length c3) (⟨P.vars ++ Q1.vars, P.locks, P.funcs⟩ : ProgM) fp := HG7.out.vars_ (by rw [List.length_append, dcells_app]; exact hownn) hOn hbn
          have HG8 : Hid (GrowP w3 w8 (.slice av8 (P.vars.length + Q1.vars.length) cv8) (.slice a2 P.locks.length c2) (.slice a3 P.funcs.length c3) (⟨P.vars ++ Q1.vars, P.locks, P.funcs⟩ : ProgM) fp) := Lib.hid (hGa.off hsetn (fun i hi hm => by simp only [List.mem_singleton] at hm; have := (hGa.lt i hi).1; omega))
          have HOr8 : Hid (Only [gA] w3 w8) := Lib.hid ((HOr7.out.then hOn [gA] (fun i hi => .inl hi) (fun i hi => .inr (HG7.out.lt i (List.mem_append_left _ hi)).1)).then hsetn [gA] (fun i hi => .inl hi) (fun i hi => .inl hi))
          have HR8 : Hid (IsBlk w8 w.heap.size (.cells #[.slice none 0 0, .slice none 0 0, .slice none 0 0] 30)) := Lib.hid ((HR7.out.only hOn (fun hi => by have := (HG7.out.lt _ (List.mem_append_left _ hi)).1; omega)).only hsetn (by simp; omega))
          have HX8 : Hid (IsBlk w8 g7 (.cells #[.slice b1' Q.vars.length c1', .slice b2' Q.locks.length c2', .slice b3' Q.funcs.length c3'] 30)) := Lib.hid ((hX7.out.only hOn (fun hi => H7all7.out (List.mem_append_left _ hi))).only hsetn (by simp; exact hg7A))
          have hX8 := HX8
          have HQ8 : Hid (GrowP w4 w8 (.slice b1' Q.vars.length c1') (.slice b2' Q.locks.length c2') (.slice b3' Q.funcs.length c3') Q1 fq) := Lib.hid ((HQ7.out.off hOn (fun i hi hm => HFar7.out i (List.mem_append_left _ hm) hi)).off hsetn (fun i hi hm => by simp only [List.mem_singleton] at hm; have := (HQlt.out i hi).1; omega))
          have hmem : ∀ i, i ∈ blksP (.slice av8 (P.vars.length + Q1.vars.length) cv8) (.slice a2 P.locks.length c2) (.slice a3 P.funcs.length c3) fp → i ∈ blksP (.slice a1 P.vars.length c1) (.slice a2 P.locks.length c2) (.slice a3 P.funcs.length c3) fp ∨ i = w7.heap.size := fun i hi => by
            unfold blksP at hi ⊢
            simp only [List.mem_append] at hi ⊢
            have hn : i ∈ ownL (.slice av8 (P.vars.length + Q1.vars.length) cv8) → i ∈ ownL (.slice a1 P.vars.length c1) ∨ i = w7.heap.size := fun h => by
              have h2 := mem_ownL.1 h
              rcases hbn with hb | hb
              · exact .inl (mem_ownL.2 (hb ▸ h2))
              · rw [hb] at h2; injection h2 with h2; exact .inr h2.symm
            rcases hi with hi | hi | hi | hi
            · exact (hn hi).imp (fun h => .inl h) id
            · exact .inl (.inr (.inl hi))
            · exact .inl (.inr (.inr (.inl hi)))
            · exact .inl (.inr (.inr (.inr hi)))
          have H7all8 : Hid (g7 ∉ blksP (.slice av8 (P.vars.length + Q1.vars.length) cv8) (.slice a2 P.locks.length c2) (.slice a3 P.funcs.length c3) fp) := Lib.hid (fun hi => by
            rcases hmem g7 hi with h | h
            · exact H7all7.out h
            · have := hs67; have := HOs7.out; omega)
          have HFar8 : Hid (FarP (blksP (.slice av8 (P.vars.length + Q1.vars.length) cv8) (.slice a2 P.locks.length c2) (.slice a3 P.funcs.length c3) fp) (blksP (.slice b1' Q.vars.length c1') (.slice b2' Q.locks.length c2') (.slice b3' Q.funcs.length c3') fq)) := Lib.hid (fun i hi hq => by
            rcases hmem i hi with h | h
            · exact HFar7.out i h hq
            · have := (HQ7.out.lt i hq).2; omega)
          have HOs8 : Hid (w7.heap.size ≤ w8.heap.size) := Lib.hid (Nat.le_trans HOs7.out (Nat.le_trans hOn.size hsetn.size))
          clear hmem
          clear hGa hsetn hBs hBn fn0 cn0 ln0 hownn hOn hbn u0 u1 u2 ul x0 x1 x2 xl
          have u0 := HB8.out.cell 0
          have u1 := HB8.out.cell 1
          have u2 := HB8.out.cell 2
          have ul := HB8.out.lt
          have x0 := hX8.out.cell 0
          have x1 := hX8.out.cell 1
          have x2 := hX8.out.cell 2
          have xl := hX8.out.lt
          go_upto_region 13 with (at_builtin; refine wpList_append_all rfl _ _ 27 rfl w3.heap.size 59 iD _ 2 24 Tryz.underlying27 hiD hzD0 hzD1 hzD2 rfl (by decide) (.slice a2 P.locks.length c2) P.locks.length (dcells P.locks) rfl HG8.out.locks w4.heap.size (.slice b2' Q.locks.length c2') Q1.locks.length (dcells Q1.locks) rfl HQ8.out.locks (dcells_ones _) (by unfold maxLen; omega) (by omega) (by have := HOr8.out.size; omega) ?_; intro vn W1 hownn hOn hbn; obtain ⟨avn, cvn, rfl⟩ := owns_slice hownn; have hBn := HB8.out.only hOn (fun hm => by have := (HG8.out.lt gA (List.mem_append_right _ (List.mem_append_left _ hm))).1; omega); have fn0 := hBn.notFrozen 1; have cn0 := hBn.cell 1; have ln0 := hBn.lt)
          have hsetn : Only [gA] W1 (W1.setCell ⟨gA, 1, none⟩ (.slice avn (P.locks.length + Q1.locks.length) cvn)) := (Only.refl [gA] W1).setCell (p := ⟨gA, 1, none⟩) (.inl (by simp)) _
          have hBs := IsBlk.put hBn 1 (.slice avn (P.locks.length + Q1.locks.length) cvn)
          generalize hWn : W1.setCell ⟨gA, 1, none⟩ (.slice avn (P.locks.length + Q1.locks.length) cvn) = w9 at *
          clear hWn
          obtain ⟨av9, hav⟩ : ∃ x, x = avn := ⟨_, rfl⟩
          obtain ⟨cv9, hcv⟩ : ∃ x, x = cvn := ⟨_, rfl⟩
          subst hav
          subst hcv
          have HB9 : Hid (IsBlk w9 gA (.cells #[.slice av8 (P.vars.length + Q1.vars.length) cv8, .slice av9 (P.locks.length + Q1.locks.length) cv9, .slice a3 P.funcs.length c3] 30)) := Lib.hid hBs
          have hGa : GrowP w3 W1 (.slice av8 (P.vars.length + Q1.vars.length) cv8) (.slice av9 (P.locks.length + Q1.locks.length) cv9) (.slice a3 P.funcs.length c3) (⟨P.vars ++ Q1.vars, P.locks ++ Q1.locks, P.funcs⟩ : ProgM) fp := HG8.out.locks_ (by rw [List.length_append, dcells_app]; exact hownn) hOn hbn
          have HG9 : Hid (GrowP w3 w9 (.slice av8 (P.vars.length + Q1.vars.length) cv8) (.slice av9 (P.locks.length + Q1.locks.length) cv9) (.slice a3 P.funcs.length c3) (⟨P.vars ++ Q1.vars, P.locks ++ Q1.locks, P.funcs⟩ : ProgM) fp) := Lib.hid (hGa.off hsetn (fun i hi hm => by simp only [List.mem_singleton] at hm; have := (hGa.lt i hi).1; omega))
          have HOr9 : Hid (Only [gA] w3 w9) := Lib.hid ((HOr8.out.then hOn [gA] (fun i hi => .inl hi) (fun i hi => .inr (HG8.out.lt i (List.mem_append_right _ (List.mem_append_left _ hi))).1)).then hsetn [gA] (fun i hi => .inl hi) (fun i hi => .inl hi))
          have HR9 : Hid (IsBlk w9 w.heap.size (.cells #[.slice none 0 0, .slice none 0 0, .slice none 0 0] 30)) := Lib.hid ((HR8.out.only hOn (fun hi => by have := (HG8.out.lt _ (List.mem_append_right _ (List.mem_append_left _ hi))).1; omega)).only hsetn (by simp; omega))
          have HX9 : Hid (IsBlk w9 g7 (.cells #[.slice b1' Q.vars.length c1', .slice b2' Q.locks.length c2', .slice b3' Q.funcs.length c3'] 30)) := Lib.hid ((hX8.out.only hOn (fun hi => H7all8.out (List.mem_append_right _ (List.mem_append_left _ hi)))).only hsetn (by simp; exact hg7A))
          have hX9 := HX9
          have HQ9 : Hid (GrowP w4 w9 (.slice b1' Q.vars.length c1') (.slice b2' Q.locks.length c2') (.slice b3' Q.funcs.length c3') Q1 fq) := Lib.hid ((HQ8.out.off hOn (fun i hi hm => HFar8.out i (List.mem_append_right _ (List.mem_append_left _ hm)) hi)).off hsetn (fun i hi hm => by simp only [List.mem_singleton] at hm; have := (HQlt.out i hi).1; omega))
          have hmem : ∀ i, i ∈ blksP (.slice av8 (P.vars.length + Q1.vars.length) cv8) (.slice av9 (P.locks.length + Q1.locks.length) cv9) (.slice a3 P.funcs.length c3) fp → i ∈ blksP (.slice av8 (P.vars.length + Q1.vars.length) cv8) (.slice a2 P.locks.length c2) (.slice a3 P.funcs.length c3) fp ∨ i = w8.heap.size := fun i hi => by
            unfold blksP at hi ⊢
            simp only [List.mem_append] at hi ⊢
            have hn : i ∈ ownL (.slice av9 (P.locks.length + Q1.locks.length) cv9) → i ∈ ownL (.slice a2 P.locks.length c2) ∨ i = w8.heap.size := fun h => by
              have h2 := mem_ownL.1 h
              rcases hbn with hb | hb
              · exact .inl (mem_ownL.2 (hb ▸ h2))
              · rw [hb] at h2; injection h2 with h2; exact .inr h2.symm
            rcases hi with hi | hi | hi | hi
            · exact .inl (.inl hi)
            · exact (hn hi).imp (fun h => .inr (.inl h)) id
            · exact .inl (.inr (.inr (.inl hi)))
            · exact .inl (.inr (.inr (.inr hi)))
          have H7all9 : Hid (g7 ∉ blksP (.slice av8 (P.vars.length + Q1.vars.length) cv8) (.slice av9 (P.locks.length + Q1.locks.length) cv9) (.slice a3 P.funcs.length c3) fp) := Lib.hid (fun hi => by
            rcases hmem g7 hi with h | h
            · exact H7all8.out h
            · have := hs67; have := HOs8.out; omega)
          have HFar9 : Hid (FarP (blksP (.slice av8 (P.vars.length + Q1.vars.length) cv8) (.slice av9 (P.locks.length + Q1.locks.length) cv9) (.slice a3 P.funcs.length c3) fp) (blksP (.slice b1' Q.vars.length c1') (.slice b2' Q.locks.length c2') (.slice b3' Q.funcs.length c3') fq)) := Lib.hid (fun i hi hq => by
            rcases hmem i hi with h | h
            · exact HFar8.out i h hq
            · have := (HQ8.out.lt i hq).2; omega)
          have HOs9 : Hid (w7.heap.size ≤ w9.heap.size) := Lib.hid (Nat.le_trans HOs8.out (Nat.le_trans hOn.size hsetn.size))
          clear hmem
          clear hGa hsetn hBs hBn fn0 cn0 ln0 hownn hOn hbn u0 u1 u2 ul x0 x1 x2 xl
          have u0 := HB9.out.cell 0
          have u1 := HB9.out.cell 1
          have u2 := HB9.out.cell 2
          have ul := HB9.out.lt
          have x0 := hX9.out.cell 0
          have x1 := hX9.out.cell 1
          have x2 := hX9.out.cell 2
          have xl := hX9.out.lt
          obtain ⟨xsP, hxP, hEP⟩ := HG9.out.funcs
          obtain ⟨xsQ, hxQ, hEQ⟩ := HQ9.out.funcs
          go_upto_region 14 with (at_builtin; refine wpList_append_all rfl _ _ 28 rfl w3.heap.size 51 iF _ 3 48 Tryz.underlying28 hiF hzF0 hzF1 hzF2 rfl (by decide) (.slice a3 P.funcs.length c3) P.funcs.length xsP rfl hxP w4.heap.size (.slice b3' Q.funcs.length c3') Q1.funcs.length xsQ rfl hxQ (encF_one hEQ) (by unfold maxLen; omega) (by omega) (by have := HOr9.out.size; omega) ?_; intro vn W1 hownn hOn hbn; obtain ⟨avn, cvn, rfl⟩ := owns_slice hownn; have hBn := HB9.out.only hOn (fun hm => by have := (HG9.out.lt gA (List.mem_append_right _ (List.mem_append_right _ (List.mem_append_left _ hm)))).1; omega); have fn0 := hBn.notFrozen 2; have cn0 := hBn.cell 2; have ln0 := hBn.lt)
          have hsetn : Only [gA] W1 (W1.setCell ⟨gA, 2, none⟩ (.slice avn (P.funcs.length + Q1.funcs.length) cvn)) := (Only.refl [gA] W1).setCell (p := ⟨gA, 2, none⟩) (.inl (by simp)) _
          have hBs := IsBlk.put hBn 2 (.slice avn (P.funcs.length + Q1.funcs.length) cvn)
          generalize hWn : W1.setCell ⟨gA, 2, none⟩ (.slice avn (P.funcs.length + Q1.funcs.length) cvn) = w10 at *
          clear hWn
          obtain ⟨av10, hav⟩ : ∃ x, x = avn := ⟨_, rfl⟩
          obtain ⟨cv10, hcv⟩ : ∃ x, x = cvn := ⟨_, rfl⟩
          subst hav
          subst hcv
          have HB10 : Hid (IsBlk w10 gA (.cells #[.slice av8 (P.vars.length + Q1.vars.length) cv8, .slice av9 (P.locks.length + Q1.locks.length) cv9, .slice av10 (P.funcs.length + Q1.funcs.length) cv10] 30)) := Lib.hid hBs
          have hGa : GrowP w3 W1 (.slice av8 (P.vars.length + Q1.vars.length) cv8) (.slice av9 (P.locks.length + Q1.locks.length) cv9) (.slice av10 (P.funcs.length + Q1.funcs.length) cv10) (⟨P.vars ++ Q1.vars, P.locks ++ Q1.locks, P.funcs ++ Q1.funcs⟩ : ProgM) (fp ++ fq) := HG9.out.funcs_ HQ9.out (by omega) HFar9.out hEP hEQ (by rw [List.length_append]; exact hownn) hOn hbn
          have HG10 : Hid (GrowP w3 w10 (.slice av8 (P.vars.length + Q1.vars.length) cv8) (.slice av9 (P.locks.length + Q1.locks.length) cv9) (.slice av10 (P.funcs.length + Q1.funcs.length) cv10) (⟨P.vars ++ Q1.vars, P.locks ++ Q1.locks, P.funcs ++ Q1.funcs⟩ : ProgM) (fp ++ fq)) := Lib.hid (hGa.off hsetn (fun i hi hm => by simp only [List.mem_singleton] at hm; have := (hGa.lt i hi).1; omega))
          have HOr10 : Hid (Only [gA] w3 w10) := Lib.hid ((HOr9.out.then hOn [gA] (fun i hi => .inl hi) (fun i hi => .inr (HG9.out.lt i (List.mem_append_right _ (List.mem_append_right _ (List.mem_append_left _ hi)))).1)).then hsetn [gA] (fun i hi => .inl hi) (fun i hi => .inl hi))
          have HR10 : Hid (IsBlk w10 w.heap.size (.cells #[.slice none 0 0, .slice none 0 0, .slice none 0 0] 30)) := Lib.hid ((HR9.out.only hOn (fun hi => by have := (HG9.out.lt _ (List.mem_append_right _ (List.mem_append_right _ (List.mem_append_left _ hi)))).1; omega)).only hsetn (by simp; omega))
          clear hGa hsetn hBs hBn fn0 cn0 ln0 hownn hOn hbn u0 u1 u2 ul x0 x1 x2 xl
          have hmm := Hmm.out
          go_wp2
          go_roundw
          case rel =>
            refine ⟨j + 1, rr, add7P P Q1, _, _, _, fp ++ fq, by go_num, by have := Hjl.out; omega, Hdr1.out, HG10.out, HB10.out, Hmm.out, Hpl.out.add hpl1, ?_, HOr10.out⟩
            rw [how_add]; omega
          case measure => have h9 := Hjl.out; simp [intOf]; omega
        · have hei : ¬ (er : Int) = 0 := by omega
          have y0 := HR6.out.cell 0
          have y1 := HR6.out.cell 1
          have y2 := HR6.out.cell 2
          have f0 := HR6.out.notFrozen 0
          have f1 := HR6.out.notFrozen 1
          have f2 := HR6.out.notFrozen 2
          have hwr1 : IntKind.i64.wrap ((j : Int) * 10000) = (j : Int) * 10000 := Go.IntWalk.i64_in _ (by omega)
          have hps : pos ≤ 2000 := by have := Hpg.out.2.2; omega
          have hwr2 : IntKind.i64.wrap ((j : Int) * 10000 + (pos : Int)) = (j : Int) * 10000 + (pos : Int) := Go.IntWalk.i64_in _ (by omega)
          rw [if_pos he] at Hmm
          go_wp2
          obtain ⟨s0, hE0⟩ := three_world HR6.out (.slice none 0 0) (.slice none 0 0) (.slice none 0 0)
          refine bodyPost_ret_by (ret_join rfl _ _ w.heap.size _ _ _ _ rfl rfl s0) rfl ?_
          have hXe : X = (⟨[], [], []⟩, 10000 * j + pos, er) := by rw [HX.out]; unfold allM; rw [Hmm.out, if_pos he]
          have ec : ((10000 * j + pos : Nat) : Int) = (j : Int) * 10000 + (pos : Int) := by omega
          refine ⟨X, .inr ⟨hso, zs', Hperm.out.1, Hperm.out.2, HX.out⟩, _, _, _, _, rfl, ?_, by rw [hXe]; exact fun _ _ _ _ => ProgAt.nil _, HOw6.out.then hE0 [] (by simp) (by simp)⟩
          rw [hXe, ← ec]
          exact .placed _ _

end Go.Proofs.YtildkedplmjdaaaGreatDoor
