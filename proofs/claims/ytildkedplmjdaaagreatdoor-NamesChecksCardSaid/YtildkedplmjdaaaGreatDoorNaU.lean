/-
  Two programs in memory, the one's rows appended to the other's. No walk is here.
-/
import Derived.Test.YtildkedplmjdaaaGreatDoorNaR
import Derived.Test.YtildkedplmjdaaaGreatDoorNaO
import Derived.Maps.AppendAt
namespace Go.Proofs.YtildkedplmjdaaaGreatDoor
set_option maxRecDepth 100000
set_option linter.unusedVariables false
open Go.RowKit Go.Sort Go.Shelf

theorem only_below {w w' : World} (h : Below w.heap.size w w') : Only [] w w' := ⟨h.os, h.tape, h.output, h.size, fun j hj _ => h.block j hj⟩

theorem appF_any (w : World) (q : Nat) (a : Option Addr) (c : Nat) (zs : List FilM) (h : FilAt w a zs) (hz : zs.length ≤ 1000) (hq : q < w.heap.size) (hc : w.cell? ⟨q, 0, none⟩ = some (.slice a zs.length c)) :
    Calls Tryz.prog 105 #[.slice none 0 0, .func (.func 95) #[] #[.pointer (some ⟨q, 0, none⟩)]] w fun e w' =>
      ∃ v, e = .returned v ∧ w'.ownsRow w.heap.size 46 2 v zs.length (filCells zs) ∧ Only [] w w' :=
  ((callsIn_wide (n := 6)).1 (appseqF_in Fence.wide 6 trivial trivial rfl (by omega) q w.heap.size _ zs (by omega) w hq (Nat.le_refl _) hc ⟨a, c, rfl, h⟩)).mono fun e w' ⟨v, h1, h2, h3⟩ => ⟨v, h1, h2, only_below h3⟩

theorem valsF_any (w : World) (a : Option Addr) (n c : Nat) : Calls Tryz.prog 78 #[.slice a n c] w fun e w' => e = .returned (.func (.func 95) #[] #[.pointer (some ⟨w.heap.size, 0, none⟩)]) ∧ w' = w.alloc (.cells #[.slice a n c] 43) := by
  have hmf : ∀ (fn : Fn) (first cap : Array Value) (w : World), (Instr.makeFunc fn first cap).run Tryz.prog w = .ok (.func fn first cap) w := fun _ _ _ _ => rfl
  go_enter Tryz.func78, Tryz.ntmps78
  go_wp2
  go_ret
  exact ⟨rfl, rfl⟩
theorem collF_any (w : World) (q : Nat) (a : Option Addr) (c : Nat) (zs : List FilM) (h : FilAt w a zs) (hz : zs.length ≤ 1000) (hq : q < w.heap.size) (hc : w.cell? ⟨q, 0, none⟩ = some (.slice a zs.length c)) :
    Calls Tryz.prog 93 #[.func (.func 95) #[] #[.pointer (some ⟨q, 0, none⟩)]] w fun e w' =>
      ∃ v, e = .returned v ∧ w'.ownsRow w.heap.size 46 2 v zs.length (filCells zs) ∧ Only [] w w' := by
  have hcon := appF_any w q a c zs h hz hq hc
  clear h hc
  go_enter Tryz.func93, Tryz.ntmps93
  go_wp2_with fail
  refine hcon.mono ?_
  rintro e w' ⟨v, rfl, hr, hO⟩
  go_wp2
  go_ret
  exact ⟨_, rfl, hr, hO⟩

set_option maxHeartbeats 4000000 in
theorem sortedF_any (w : World) (q : Nat) (a : Option Addr) (c : Nat) (zs : List FilM) (h : FilAt w a zs) (hz : zs.length ≤ 8) (hq : q < w.heap.size) (hc : w.cell? ⟨q, 0, none⟩ = some (.slice a zs.length c)) :
    Calls Tryz.prog 77 #[.func (.func 95) #[] #[.pointer (some ⟨q, 0, none⟩)], .func (.func 79) #[] #[]] w fun e w' =>
      ∃ v zs', e = .returned v ∧ zs'.Perm zs ∧ OrdF zs' ∧ w'.ownsRow w.heap.size 46 2 v zs.length (filCells zs') ∧ Only [] w w' := by
  have hcon := collF_any w q a c zs h (by omega) hq hc
  clear h hc
  go_enter Tryz.func77, Tryz.ntmps77
  go_wp2_with fail
  refine hcon.mono ?_
  rintro e w1 ⟨v, rfl, hr, hO⟩
  obtain ⟨av, cv, rfl⟩ := owns_slice hr
  have hlt := World.ownsRow.lt hr
  go_wp2_with fail
  refine (sortF_any w1 w.heap.size _ zs hr hz).mono ?_
  rintro e w2 ⟨rfl, zs', hp, ho, hr2, hO2⟩
  go_wp2
  go_ret
  exact ⟨_, zs', rfl, hp, ho, hr2, hO.then hO2 [] (by simp) (fun g hg => .inr (hlt g (mem_ownL.1 hg)).1)⟩

set_option maxHeartbeats 4000000 in
theorem byNames_any (w : World) (a : Option Addr) (c : Nat) (zs : List FilM) (h : FilAt w a zs) (hz : zs.length ≤ 8) :
    Calls Tryz.prog 57 #[.slice a zs.length c] w fun e w' =>
      ∃ v zs', e = .returned v ∧ zs'.Perm zs ∧ OrdF zs' ∧ w'.ownsRow w.heap.size 46 2 v zs.length (filCells zs') ∧ Only [] w w' := by
  have hmf : ∀ (fn : Fn) (first cap : Array Value) (w : World), (Instr.makeFunc fn first cap).run Tryz.prog w = .ok (.func fn first cap) w := fun _ _ _ _ => rfl
  have hb := IsBlk.made w (.cells #[.slice a zs.length c] 43)
  have hO := (Only.refl [] w).alloc (.cells #[.slice a zs.length c] 43)
  have HO := Lib.hid hO
  have H := Lib.hid (h.more hO)
  have hbl := hb.lt
  have hbc := hb.cell 0
  have hsz := hO.size
  have Hb := Lib.hid (And.intro hbl hbc)
  clear h hb hO hbl hbc
  go_enter Tryz.func57, Tryz.ntmps57
  go_wp2_with fail
  refine (valsF_any _ _ _ _).mono ?_
  rintro e w1 ⟨rfl, rfl⟩
  generalize hW : w.alloc (.cells #[.slice a zs.length c] 43) = w1 at *
  clear hW
  go_wp2_with fail
  refine (sortedF_any w1 w.heap.size a c zs H.out hz Hb.out.1 Hb.out.2).mono ?_
  rintro e w2 ⟨v, zs', rfl, hp, ho, hr, hO2⟩
  go_wp2
  go_ret
  exact ⟨_, zs', rfl, hp, ho, owns_base hr HO.out.size, HO.out.plus hO2⟩


/-! ### sound -/
def goodF : List FilM → List FilM → Bool
  | _, [] => true
  | s, f :: r => !(s.any (fun g => g.1 == f.1)) && (nameM f.1 && (decide (f.2.length ≤ 2000) && goodF (s ++ [f]) r))
def soundN (l : List FilM) : Bool := decide (l.length ≤ 8) && goodF [] l

set_option maxHeartbeats 8000000 in
theorem sound_any (w : World) (a : Option Addr) (c : Nat) (zs : List FilM) (h : FilAt w a zs) (hc : zs.length ≤ c) (hn : ∀ f ∈ zs, f.1.length ≤ 100000) :
    Calls Tryz.prog 56 #[.slice a zs.length c] w fun e w' => e = .returned (.bool (soundN zs)) ∧ Only [] w w' := by
  have hmf : ∀ (fn : Fn) (first cap : Array Value) (w : World), (Instr.makeFunc fn first cap).run Tryz.prog w = .ok (.func fn first cap) w := fun _ _ _ _ => rfl
  have hnot : ∀ (x : Bool) (w : World), (Op.unary .not (.bool x)).run Tryz.prog w = .ok (.bool (!x)) w := fun _ _ => rfl
  have H := Lib.hid h
  have Hn := Lib.hid hn
  clear h hn
  unfold soundN
  by_cases h8 : 8 < zs.length
  · have hi : (8 : Int) < (zs.length : Int) := by omega
    have hd : decide (zs.length ≤ 8) = false := by simp; omega
    rw [hd]
    go_enter Tryz.func56, Tryz.ntmps56
    go_wp2
    go_ret
    exact ⟨rfl, Only.refl _ _⟩
  · have hi : ¬ (8 : Int) < (zs.length : Int) := by omega
    have hd : decide (zs.length ≤ 8) = true := by simp; omega
    rw [hd, Bool.true_and]
    clear hd
    generalize hG : goodF [] zs = G at *
    have HG := Lib.hid hG.symm
    clear hG
    go_enter Tryz.func56, Tryz.ntmps56
    go_wp2_with fail
    go_loopw [11] (fun iv wr => ∃ (j : Nat) (rs : List FilM), iv = .int .i64 j ∧ j + rs.length = zs.length ∧ zs.drop j = rs ∧ G = goodF (zs.take j) rs ∧ Only [] w wr) (fun iv _ => zs.length - (intOf iv).toNat)
    case atStart => exact ⟨0, zs, rfl, by omega, rfl, HG.out, Only.refl _ _⟩
    case round =>
      obtain ⟨j, rs, rfl, hjl, hdr, hg, hO⟩ := hrel
      have HO := Lib.hid hO
      have Hg := Lib.hid hg
      have Hdr := Lib.hid hdr
      clear hO hg hdr
      cases rs with
      | nil =>
        have hji : ¬ (j : Int) < (zs.length : Int) := by simp only [List.length_nil] at hjl; omega
        go_wp2_with fail
        go_ret
        exact ⟨by rw [Hg.out]; rfl, HO.out⟩
      | cons f rr =>
        have hji : (j : Int) < (zs.length : Int) := by simp only [List.length_cons] at hjl; omega
        have hjc : j ≤ c := by simp only [List.length_cons] at hjl; omega
        have hjz : j < zs.length := by omega
        have hf : zs[j]? = some f := by
          have := congrArg (fun l => l[0]?) Hdr.out
          simp only [List.getElem?_drop, Nat.add_zero] at this
          simpa using this
        have hfm : f ∈ zs := List.mem_of_getElem? hf
        have hfn := Hn.out f hfm
        obtain ⟨b, off, rfl, hb, hcl⟩ := (H.out.more HO.out) (by omega)
        obtain ⟨k0, k1⟩ := hcl j f hf
        have htk : zs.take (j + 1) = zs.take j ++ [f] := by rw [List.take_add_one, hf]; rfl
        have hdr1 : zs.drop (j + 1) = rr := by have := congrArg List.tail Hdr.out; rw [List.tail_drop] at this; exact this
        have htl : (zs.take j).length = j := by rw [List.length_take]; omega
        have Hjl : Hid (j + (rr.length + 1) = zs.length) := Lib.hid hjl
        have Hgc : Hid (G = (!((zs.take j).any (fun g => g.1 == f.1)) && (nameM f.1 && (decide (f.2.length ≤ 2000) && goodF (zs.take (j + 1)) rr)))) := Lib.hid (by rw [Hg.out, htk]; rfl)
        have Hdr1 := Lib.hid hdr1
        have hOa := (Only.refl [] wr).alloc (.cells #[encStr f.1, encStr f.2] 46)
        have hfb := IsBlk.made wr (.cells #[encStr f.1, encStr f.2] 46)
        have HO2 := Lib.hid (HO.out.plus hOa)
        have Hfb := Lib.hid hfb
        clear hcl htk hdr1 hOa hfb Hg hjl
        have hcon := containsF_any (wr.alloc (.cells #[encStr f.1, encStr f.2] 46)) (some ⟨b, off, none⟩) c wr.heap.size (zs.take j) f ((H.out.more HO2.out).take j) (by omega) Hfb.out
        rw [htl] at hcon
        have Hcon := Lib.hid hcon
        clear hcon
        unfold encStr at k0 k1 Hcon Hfb HO2
        go_wp2_with fail
        refine Hcon.out.mono ?_
        rintro e w2 ⟨rfl, hO2⟩
        have hfb2 := Hfb.out.only hO2 (by simp)
        have HO3 := Lib.hid (HO2.out.plus hO2)
        have q0 := hfb2.cell 0
        have q1 := hfb2.cell 1
        have ql := hfb2.lt
        have Hfb2 := Lib.hid hfb2
        clear hO2 hfb2 k0 k1 Hcon
        generalize hr1 : (zs.take j).any (fun g => g.1 == f.1) = r1 at *
        cases r1 with
        | true =>
          go_wp2_with fail
          go_ret
          exact ⟨by rw [Hgc.out]; rfl, HO3.out⟩
        | false =>
          go_wp2_with fail
          refine (name_any _ f.1 hfn).mono ?_
          rintro e w3 ⟨rfl, hO4⟩
          have hfb3 := Hfb2.out.only hO4 (by simp)
          have HO4 := Lib.hid (HO3.out.plus hO4)
          clear q0 q1 ql hO4
          have q1 := hfb3.cell 1
          have ql := hfb3.lt
          clear hfb3
          cases hnm : nameM f.1 with
          | false =>
            go_wp2_with fail
            go_ret
            exact ⟨by rw [Hgc.out, hnm]; rfl, HO4.out⟩
          | true =>
            by_cases h2 : f.2.length ≤ 2000
            · have h2i : ¬ (2000 : Int) < (f.2.length : Int) := by omega
              have hd : decide (f.2.length ≤ 2000) = true := by simpa using h2
              go_wp2
              go_roundw
              case rel => exact ⟨j + 1, rr, by go_num, by have := Hjl.out; omega, Hdr1.out, by rw [Hgc.out, hnm, hd]; rfl, HO4.out⟩
              case measure => have h9 := Hjl.out; simp [intOf]; omega
            · have h2i : (2000 : Int) < (f.2.length : Int) := by omega
              have hd : decide (f.2.length ≤ 2000) = false := by simpa using h2
              go_wp2_with fail
              go_ret
              exact ⟨by rw [Hgc.out, hnm, hd]; rfl, HO4.out⟩

end Go.Proofs.YtildkedplmjdaaaGreatDoor
namespace Go.Proofs.YtildkedplmjdaaaGreatDoor
set_option maxRecDepth 100000
set_option linter.unusedVariables false
open Go.RowKit Go.Sort

theorem run_append_void {P : Program} (w : World) (t ty e : TypeId) (i : TypeInfo) (ht : P.underlying t = some (.slice e)) (hi : P.info? e = some i) (a : Option Addr) (n c : Nat) (h : n ≤ c) :
    (Builtin.append_ #[t, t] ty #[.slice a n c, .slice none 0 0]).run P w = .ok (.slice a n c) w := by
  cases a with
  | none => simp [Builtin.append_, run_underlying ht, sizeOf, typeInfo, hi, Builtin.lenOf, Builtin.firstCells, Result.andThen, h]
  | some a => simp [Builtin.append_, run_underlying ht, sizeOf, typeInfo, hi, Builtin.lenOf, Builtin.firstCells, Result.andThen, h, storeCells]

/-- append(row of one's own, row of one's own...). -/
theorem wpList_append_all {w : World} {ops : Array Oper} {rest : List Oper} {o : Oper} {a : Act} {Q : Exit → Act → World → Prop} (hgd : o.guard = none) (s x : Operand) (t : TypeId)
    (ho : o.op = .call { callee := .builtin .append, args := #[s, x], argTypes := #[t, t] })
    (base e : Nat) (i : TypeInfo) (z : Value) (size bytes : Nat) (ht : Tryz.prog.underlying t = some (.slice e)) (hi : Tryz.prog.info? e = some i) (hz : i.zero = some z)
    (hsize : i.size = size) (hby : i.bytes = bytes) (hzs : z.cells.size = size) (hsz : 0 < size)
    (v : Value) (n : Nat) (xs : List Value) (hs : a.eval s = v) (hown : w.ownsRow base e size v n xs)
    (base' : Nat) (u : Value) (m : Nat) (news : List Value) (hx : a.eval x = u) (hu : w.ownsRow base' e size u m news) (h1 : ∀ y ∈ news, y.oneCell' = true)
    (h63 : n + m ≤ maxLen) (hbytes : (n + m) * bytes ≤ 140737488355328) (hbase : base ≤ w.heap.size)
    (h : ∀ v' w', w'.ownsRow base e size v' (n + m) (xs ++ news) → Only (ownL v) w w' → (v'.ownBlock = v.ownBlock ∨ v'.ownBlock = some w.heap.size) → wpList Tryz.prog ops Q rest (a.put o.dst v') w') :
    wpList Tryz.prog ops Q (o :: rest) a w := by
  have hu' := hu
  rcases hu.2 with ⟨hn, h0⟩ | ⟨g, cap, cur, hu0, hb, hg, hc, hm, hsz', ht'⟩
  · subst h0
    have hnw : news = [] := by have := hu.1; simp at this; exact this
    subst hnw
    obtain ⟨av, cv, rfl⟩ := owns_slice hown
    have hcv : n ≤ cv := by
      rcases hown.2 with ⟨e1, e2⟩ | ⟨g, cap, cur, e1, -, -, hc, -⟩
      · injection e1 with _ _ e3; omega
      · injection e1 with _ _ e3; omega
    refine wpList_plain hgd fun K hK => ?_
    have hr := run_append_void (P := Tryz.prog) w t o.type e i ht hi av n cv hcv
    unfold Oper.wp execOp
    simp only [ho, resolve, invoke, builtin, Sem.run_bind, Sem.run_pure, Result.andThen_ok, List.map_toArray, List.map_cons, List.map_nil, hs, hx, hn, hr]
    exact hK _ _ (h _ w (by simpa using hown) (Only.refl _ _) (.inl rfl))
  · refine wpList_append_own_at w hgd s x t ho base e i z size bytes ht hi hz hsize hby hzs hsz v n xs hs hown ⟨g, 0, none⟩ m cap news (by rw [hx, hu0]) hu.1 (fun j y hy => World.ownsRow.cells hu' (g := g) (by rw [hu0]; rfl) j y hy) h1 h63 hbytes hbase (fun v' w' k2 k3 k4 k5 => h v' w' k2 (grown_only k3) k5)

end Go.Proofs.YtildkedplmjdaaaGreatDoor
namespace Go.Proofs.YtildkedplmjdaaaGreatDoor
set_option maxRecDepth 100000
set_option linter.unusedVariables false
open Go.RowKit Go.Sort

/-- All blocks of a program. -/
def blksP (vv vl vf : Value) (fp : List Nat) : List Nat := ownL vv ++ (ownL vl ++ (ownL vf ++ fp))
def FarP (l m : List Nat) : Prop := ∀ g ∈ l, g ∉ m

theorem GrowP.off {w0 w w' : World} {S : List Nat} {vv vl vf : Value} {p : ProgM} {fp : List Nat} (h : GrowP w0 w vv vl vf p fp) (hO : Only S w w') (hS : ∀ g ∈ blksP vv vl vf fp, g ∉ S) : GrowP w0 w' vv vl vf p fp := by
  obtain ⟨h1, h2, ⟨xs, h3, h4⟩, h5, h6, h7, h8, h9⟩ := h
  have a1 : ∀ g, vv.ownBlock = some g → g ∉ S := fun g hg => hS g (by unfold blksP; simp [mem_ownL.2 hg])
  have a2 : ∀ g, vl.ownBlock = some g → g ∉ S := fun g hg => hS g (by unfold blksP; simp [mem_ownL.2 hg])
  have a3 : ∀ g, vf.ownBlock = some g → g ∉ S := fun g hg => hS g (by unfold blksP; simp [mem_ownL.2 hg])
  have a4 : ∀ g ∈ fp, g ∉ S := fun g hg => hS g (by unfold blksP; simp [hg])
  exact ⟨owns_off h1 hO a1, owns_off h2 hO a2, ⟨xs, owns_off h3 hO a3, h4.keep hO a4⟩, h5.more hO.size, h6, h7, h8, h9⟩
theorem GrowP.lt {w0 w : World} {vv vl vf : Value} {p : ProgM} {fp : List Nat} (h : GrowP w0 w vv vl vf p fp) : ∀ g ∈ blksP vv vl vf fp, w0.heap.size ≤ g ∧ g < w.heap.size := by
  obtain ⟨h1, h2, ⟨xs, h3, h4⟩, h5, -⟩ := h
  intro g hg
  unfold blksP at hg
  simp only [List.mem_append] at hg
  rcases hg with hg | hg | hg | hg
  · exact World.ownsRow.lt h1 g (mem_ownL.1 hg)
  · exact World.ownsRow.lt h2 g (mem_ownL.1 hg)
  · exact World.ownsRow.lt h3 g (mem_ownL.1 hg)
  · exact h5.2 g hg

theorem GrowP.vars_ {w0 w w' : World} {vv vl vf v' : Value} {p : ProgM} {fp : List Nat} {l : List DeclM} (h : GrowP w0 w vv vl vf p fp) (hr : w'.ownsRow w0.heap.size 59 2 v' (p.vars ++ l).length (dcells (p.vars ++ l)))
    (hO : Only (ownL vv) w w') (hb : v'.ownBlock = vv.ownBlock ∨ v'.ownBlock = some w.heap.size) : GrowP w0 w' v' vl vf { p with vars := p.vars ++ l } fp := by
  have hlt := h.lt
  obtain ⟨h1, h2, ⟨xs, h3, h4⟩, h5, h6, h7, h8, h9⟩ := h
  refine ⟨hr, owns_off h2 hO (fun g hg hm => h6 g (mem_ownL.1 hm) hg), ⟨xs, owns_off h3 hO (fun g hg hm => apart_type h3 h1 (by decide) g hg (mem_ownL.1 hm)), h4.keep hO (fun k hk hm => h7 k (mem_ownL.1 hm) hk)⟩, h5.more hO.size, fun g hg hv => ?_, fun g hg hm => ?_, h8, h9⟩
  · rcases hb with hb | hb
    · exact h6 g (hb ▸ hg) hv
    · rw [hb] at hg; injection hg with hg; have := (World.ownsRow.lt h2 g hv).2; omega
  · rcases hb with hb | hb
    · exact h7 g (hb ▸ hg) hm
    · rw [hb] at hg; injection hg with hg; have := (h5.2 g hm).2; omega
theorem GrowP.locks_ {w0 w w' : World} {vv vl vf v' : Value} {p : ProgM} {fp : List Nat} {l : List DeclM} (h : GrowP w0 w vv vl vf p fp) (hr : w'.ownsRow w0.heap.size 59 2 v' (p.locks ++ l).length (dcells (p.locks ++ l)))
    (hO : Only (ownL vl) w w') (hb : v'.ownBlock = vl.ownBlock ∨ v'.ownBlock = some w.heap.size) : GrowP w0 w' vv v' vf { p with locks := p.locks ++ l } fp := by
  obtain ⟨h1, h2, ⟨xs, h3, h4⟩, h5, h6, h7, h8, h9⟩ := h
  refine ⟨owns_off h1 hO (fun g hg hm => h6 g hg (mem_ownL.1 hm)), hr, ⟨xs, owns_off h3 hO (fun g hg hm => apart_type h3 h2 (by decide) g hg (mem_ownL.1 hm)), h4.keep hO (fun k hk hm => h8 k (mem_ownL.1 hm) hk)⟩, h5.more hO.size, fun g hg hv => ?_, h7, fun g hg hm => ?_, h9⟩
  · rcases hb with hb | hb
    · exact h6 g hg (hb ▸ hv)
    · rw [hb] at hv; injection hv with hv; have := (World.ownsRow.lt h1 g hg).2; omega
  · rcases hb with hb | hb
    · exact h8 g (hb ▸ hg) hm
    · rw [hb] at hg; injection hg with hg; have := (h5.2 g hm).2; omega
theorem encF_app {w : World} : ∀ {l m : List FuncM} {xs ys : List Value} {fp fq : List Nat}, EncF w l xs fp → EncF w m ys fq → EncF w (l ++ m) (xs ++ ys) (fp ++ fq)
  | [], m, xs, ys, fp, fq, h, k => by obtain ⟨rfl, rfl⟩ := h; exact k
  | f :: r, m, xs, ys, fp, fq, h, k => by
    obtain ⟨va, fa, fr, xr, rfl, rfl, h1, hn, h3⟩ := h
    exact ⟨va, fa, fr ++ fq, xr ++ ys, by simp, by simp, h1, hn, encF_app h3 k⟩
theorem encF_one {w : World} : ∀ {l : List FuncM} {xs : List Value} {fp : List Nat}, EncF w l xs fp → ∀ u ∈ xs, u.oneCell' = true
  | [], xs, fp, h => by rw [h.1]; simp
  | f :: r, xs, fp, h => by
    obtain ⟨va, fa, fr, xr, rfl, rfl, h1, _, h3⟩ := h
    intro u hu
    simp only [List.mem_cons] at hu
    rcases hu with rfl | rfl | rfl | hu
    · rfl
    · rfl
    · exact RowE.one h1
    · exact encF_one h3 u hu
theorem dcells_ones (l : List DeclM) : ∀ u ∈ dcells l, u.oneCell' = true := by
  intro u hu
  obtain ⟨d, -, hd⟩ := List.mem_flatMap.1 hu
  simp only [List.mem_cons, List.not_mem_nil, or_false] at hd
  rcases hd with rfl | rfl <;> rfl
theorem dcells_app (a b : List DeclM) : dcells (a ++ b) = dcells a ++ dcells b := by simp [dcells]
theorem GrowP.funcs_ {w0 w1 w w' : World} {vv vl vf v' uv ul uf : Value} {p q : ProgM} {fp fq : List Nat} {xs ys : List Value} (h : GrowP w0 w vv vl vf p fp) (hq : GrowP w1 w uv ul uf q fq) (h01 : w0.heap.size ≤ w1.heap.size) (hF : FarP (blksP vv vl vf fp) (blksP uv ul uf fq))
    (hE : EncF w p.funcs xs fp) (hE' : EncF w q.funcs ys fq) (hr : w'.ownsRow w0.heap.size 51 3 v' (p.funcs ++ q.funcs).length (xs ++ ys))
    (hO : Only (ownL vf) w w') (hb : v'.ownBlock = vf.ownBlock ∨ v'.ownBlock = some w.heap.size) : GrowP w0 w' vv vl v' { p with funcs := p.funcs ++ q.funcs } (fp ++ fq) := by
  have hfar : ∀ g, g ∈ blksP vv vl vf fp → g ∉ fq := fun g hg hm => hF g hg (by unfold blksP; simp [hm])
  obtain ⟨h1, h2, ⟨zs, h3, h4⟩, h5, h6, h7, h8, h9⟩ := h
  obtain ⟨-, -, -, k5, -⟩ := hq
  have a1 : ∀ g, vv.ownBlock = some g → g ∉ fq := fun g hg => hfar g (by unfold blksP; simp [mem_ownL.2 hg])
  have a2 : ∀ g, vl.ownBlock = some g → g ∉ fq := fun g hg => hfar g (by unfold blksP; simp [mem_ownL.2 hg])
  have a3 : ∀ g, vf.ownBlock = some g → g ∉ fq := fun g hg => hfar g (by unfold blksP; simp [mem_ownL.2 hg])
  have a4 : ∀ g ∈ fp, g ∉ fq := fun g hg => hfar g (by unfold blksP; simp [hg])
  refine ⟨owns_off h1 hO (fun g hg hm => apart_type h1 h3 (by decide) g hg (mem_ownL.1 hm)), owns_off h2 hO (fun g hg hm => apart_type h2 h3 (by decide) g hg (mem_ownL.1 hm)), ⟨_, hr, encF_app (hE.keep hO (fun k hk hm => h9 k (mem_ownL.1 hm) hk)) (hE'.keep hO (fun k hk hm => a3 k (mem_ownL.1 hm) hk))⟩, ⟨?_, fun k hk => ?_⟩, h6, fun g hg hm => ?_, fun g hg hm => ?_, fun g hg hm => ?_⟩
  · rw [List.nodup_append]
    exact ⟨h5.1, k5.1, fun x hx y hy e => a4 x hx (e ▸ hy)⟩
  · have hs := hO.size
    rcases List.mem_append.1 hk with hk | hk
    · have := h5.2 k hk; omega
    · have := k5.2 k hk; omega
  · rcases List.mem_append.1 hm with hm | hm
    · exact h7 g hg hm
    · exact a1 g hg hm
  · rcases List.mem_append.1 hm with hm | hm
    · exact h8 g hg hm
    · exact a2 g hg hm
  · rcases hb with hb | hb
    · rcases List.mem_append.1 hm with hm | hm
      · exact h9 g (hb ▸ hg) hm
      · exact a3 g (hb ▸ hg) hm
    · rw [hb] at hg; injection hg with hg
      rcases List.mem_append.1 hm with hm | hm
      · have := (h5.2 g hm).2; omega
      · have := (k5.2 g hm).2; omega

end Go.Proofs.YtildkedplmjdaaaGreatDoor
