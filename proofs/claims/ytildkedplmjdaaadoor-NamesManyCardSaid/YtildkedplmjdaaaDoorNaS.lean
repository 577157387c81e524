/-
  byNames and sound of the package names.
-/
import Derived.Test.YtildkedplmjdaaaDoorNaR
import Derived.Test.YtildkedplmjdaaaDoorNaO
namespace Go.Proofs.YtildkedplmjdaaaDoor
set_option maxRecDepth 100000
set_option linter.unusedVariables false
open Go.RowKit Go.Sort Go.Shelf

theorem only_below {w w' : World} (h : Below w.heap.size w w') : Only [] w w' := ⟨h.os, h.tape, h.output, h.size, fun j hj _ => h.block j hj⟩

theorem appF_any (w : World) (q : Nat) (a : Option Addr) (c : Nat) (zs : List FilM) (h : FilAt w a zs) (hz : zs.length ≤ 1000) (hq : q < w.heap.size) (hc : w.cell? ⟨q, 0, none⟩ = some (.slice a zs.length c)) :
    Calls Tryd.prog 62 #[.slice none 0 0, .func (.func 52) #[] #[.pointer (some ⟨q, 0, none⟩)]] w fun e w' =>
      ∃ v, e = .returned v ∧ w'.ownsRow w.heap.size 41 2 v zs.length (filCells zs) ∧ Only [] w w' :=
  ((callsIn_wide (n := 6)).1 (appseqF_in Fence.wide 6 trivial trivial rfl (by omega) q w.heap.size _ zs (by omega) w hq (Nat.le_refl _) hc ⟨a, c, rfl, h⟩)).mono fun e w' ⟨v, h1, h2, h3⟩ => ⟨v, h1, h2, only_below h3⟩

theorem valsF_any (w : World) (a : Option Addr) (n c : Nat) : Calls Tryd.prog 36 #[.slice a n c] w fun e w' => e = .returned (.func (.func 52) #[] #[.pointer (some ⟨w.heap.size, 0, none⟩)]) ∧ w' = w.alloc (.cells #[.slice a n c] 42) := by
  have hmf : ∀ (fn : Fn) (first cap : Array Value) (w : World), (Instr.makeFunc fn first cap).run Tryd.prog w = .ok (.func fn first cap) w := fun _ _ _ _ => rfl
  go_enter Tryd.func36, Tryd.ntmps36
  go_wp2
  go_ret
  exact ⟨rfl, rfl⟩
theorem collF_any (w : World) (q : Nat) (a : Option Addr) (c : Nat) (zs : List FilM) (h : FilAt w a zs) (hz : zs.length ≤ 1000) (hq : q < w.heap.size) (hc : w.cell? ⟨q, 0, none⟩ = some (.slice a zs.length c)) :
    Calls Tryd.prog 50 #[.func (.func 52) #[] #[.pointer (some ⟨q, 0, none⟩)]] w fun e w' =>
      ∃ v, e = .returned v ∧ w'.ownsRow w.heap.size 41 2 v zs.length (filCells zs) ∧ Only [] w w' := by
  have hcon := appF_any w q a c zs h hz hq hc
  clear h hc
  go_enter Tryd.func50, Tryd.ntmps50
  go_wp2_with fail
  refine hcon.mono ?_
  rintro e w' ⟨v, rfl, hr, hO⟩
  go_wp2
  go_ret
  exact ⟨_, rfl, hr, hO⟩

set_option maxHeartbeats 4000000 in
theorem sortedF_any (w : World) (q : Nat) (a : Option Addr) (c : Nat) (zs : List FilM) (h : FilAt w a zs) (hz : zs.length ≤ 8) (hq : q < w.heap.size) (hc : w.cell? ⟨q, 0, none⟩ = some (.slice a zs.length c)) :
    Calls Tryd.prog 35 #[.func (.func 52) #[] #[.pointer (some ⟨q, 0, none⟩)], .func (.func 37) #[] #[]] w fun e w' =>
      ∃ v zs', e = .returned v ∧ zs'.Perm zs ∧ OrdF zs' ∧ w'.ownsRow w.heap.size 41 2 v zs.length (filCells zs') ∧ Only [] w w' := by
  have hcon := collF_any w q a c zs h (by omega) hq hc
  clear h hc
  go_enter Tryd.func35, Tryd.ntmps35
  go_wp2_with fail
  refine hcon.mono ?_
  rintro e w1 ⟨v, rfl, hr, hO⟩
  obtain ⟨av, cv, rfl⟩ := owns_slice hr
  have hlt := World.ownsRow.lt hr
  go_wp2_with fail
  refine (sortF_any w1 w.heap.size _ zs hr hz).mono ?_
  rintro e w2 ⟨rfl, zs', hp, ho, hr2, hO2⟩
  go_wp2
  go_ret
  exact ⟨_, zs', rfl, hp, ho, hr2, hO.then hO2 [] (by simp) (fun g hg => .inr (hlt g (mem_ownL.1 hg)).1)⟩

set_option maxHeartbeats 4000000 in
theorem byNames_any (w : World) (a : Option Addr) (c : Nat) (zs : List FilM) (h : FilAt w a zs) (hz : zs.length ≤ 8) :
    Calls Tryd.prog 20 #[.slice a zs.length c] w fun e w' =>
      ∃ v zs', e = .returned v ∧ zs'.Perm zs ∧ OrdF zs' ∧ w'.ownsRow w.heap.size 41 2 v zs.length (filCells zs') ∧ Only [] w w' := by
  have hmf : ∀ (fn : Fn) (first cap : Array Value) (w : World), (Instr.makeFunc fn first cap).run Tryd.prog w = .ok (.func fn first cap) w := fun _ _ _ _ => rfl
  have hb := IsBlk.made w (.cells #[.slice a zs.length c] 42)
  have hO := (Only.refl [] w).alloc (.cells #[.slice a zs.length c] 42)
  have HO := Lib.hid hO
  have H := Lib.hid (h.more hO)
  have hbl := hb.lt
  have hbc := hb.cell 0
  have hsz := hO.size
  have Hb := Lib.hid (And.intro hbl hbc)
  clear h hb hO hbl hbc
  go_enter Tryd.func20, Tryd.ntmps20
  go_wp2_with fail
  refine (valsF_any _ _ _ _).mono ?_
  rintro e w1 ⟨rfl, rfl⟩
  generalize hW : w.alloc (.cells #[.slice a zs.length c] 42) = w1 at *
  clear hW
  go_wp2_with fail
  refine (sortedF_any w1 w.heap.size a c zs H.out hz Hb.out.1 Hb.out.2).mono ?_
  rintro e w2 ⟨v, zs', rfl, hp, ho, hr, hO2⟩
  go_wp2
  go_ret
  exact ⟨_, zs', rfl, hp, ho, owns_base hr HO.out.size, HO.out.plus hO2⟩


/-! ### sound -/
def goodF : List FilM → List FilM → Bool
  | _, [] => true
  | s, f :: r => !(s.any (fun g => g.1 == f.1)) && (nameM f.1 && (decide (f.2.length ≤ 2000) && goodF (s ++ [f]) r))
def soundN (l : List FilM) : Bool := decide (l.length ≤ 8) && goodF [] l

set_option maxHeartbeats 8000000 in
theorem sound_any (w : World) (a : Option Addr) (c : Nat) (zs : List FilM) (h : FilAt w a zs) (hc : zs.length ≤ c) (hn : ∀ f ∈ zs, f.1.length ≤ 100000) :
    Calls Tryd.prog 19 #[.slice a zs.length c] w fun e w' => e = .returned (.bool (soundN zs)) ∧ Only [] w w' := by
  have hmf : ∀ (fn : Fn) (first cap : Array Value) (w : World), (Instr.makeFunc fn first cap).run Tryd.prog w = .ok (.func fn first cap) w := fun _ _ _ _ => rfl
  have hnot : ∀ (x : Bool) (w : World), (Op.unary .not (.bool x)).run Tryd.prog w = .ok (.bool (!x)) w := fun _ _ => rfl
  have H := Lib.hid h
  have Hn := Lib.hid hn
  clear h hn
  unfold soundN
  by_cases h8 : 8 < zs.length
  · have hi : (8 : Int) < (zs.length : Int) := by omega
    have hd : decide (zs.length ≤ 8) = false := by simp; omega
    rw [hd]
    go_enter Tryd.func19, Tryd.ntmps19
    go_wp2
    go_ret
    exact ⟨rfl, Only.refl _ _⟩
  · have hi : ¬ (8 : Int) < (zs.length : Int) := by omega
    have hd : decide (zs.length ≤ 8) = true := by simp; omega
    rw [hd, Bool.true_and]
    clear hd
    generalize hG : goodF [] zs = G at *
    have HG := Lib.hid hG.symm
    clear hG
    go_enter Tryd.func19, Tryd.ntmps19
    go_wp2_with fail
    go_loopw [11] (fun iv wr => ∃ (j : Nat) (rs : List FilM), iv = .int .i64 j ∧ j + rs.length = zs.length ∧ zs.drop j = rs ∧ G = goodF (zs.take j) rs ∧ Only [] w wr) (fun iv _ => zs.length - (intOf iv).toNat)
    case atStart => exact ⟨0, zs, rfl, by omega, rfl, HG.out, Only.refl _ _⟩
    case round =>
      obtain ⟨j, rs, rfl, hjl, hdr, hg, hO⟩ := hrel
      have HO := Lib.hid hO
      have Hg := Lib.hid hg
      have Hdr := Lib.hid hdr
      clear hO hg hdr
      cases rs with
      | nil =>
        have hji : ¬ (j : Int) < (zs.length : Int) := by simp only [List.length_nil] at hjl; omega
        go_wp2_with fail
        go_ret
        exact ⟨by rw [Hg.out]; rfl, HO.out⟩
      | cons f rr =>
        have hji : (j : Int) < (zs.length : Int) := by simp only [List.length_cons] at hjl; omega
        have hjc : j ≤ c := by simp only [List.length_cons] at hjl; omega
        have hjz : j < zs.length := by omega
        have hf : zs[j]? = some f := by
          have := congrArg (fun l => l[0]?) Hdr.out
          simp only [List.getElem?_drop, Nat.add_zero] at this
          simpa using this
        have hfm : f ∈ zs := List.mem_of_getElem? hf
        have hfn := Hn.out f hfm
        obtain ⟨b, off, rfl, hb, hcl⟩ := (H.out.more HO.out) (by omega)
        obtain ⟨k0, k1⟩ := hcl j f hf
        have htk : zs.take (j + 1) = zs.take j ++ [f] := by rw [List.take_add_one, hf]; rfl
        have hdr1 : zs.drop (j + 1) = rr := by have := congrArg List.tail Hdr.out; rw [List.tail_drop] at this; exact this
        have htl : (zs.take j).length = j := by rw [List.length_take]; omega
        have Hjl : Hid (j + (rr.length + 1) = zs.length) := Lib.hid hjl
        have Hgc : Hid (G = (!((zs.take j).any (fun g => g.1 == f.1)) && (nameM f.1 && (decide (f.2.length ≤ 2000) && goodF (zs.take (j + 1)) rr)))) := Lib.hid (by rw [Hg.out, htk]; rfl)
        have Hdr1 := Lib.hid hdr1
        have hOa := (Only.refl [] wr).alloc (.cells #[encStr f.1, encStr f.2] 41)
        have hfb := IsBlk.made wr (.cells #[encStr f.1, encStr f.2] 41)
        have HO2 := Lib.hid (HO.out.plus hOa)
        have Hfb := Lib.hid hfb
        clear hcl htk hdr1 hOa hfb Hg hjl
        have hcon := containsF_any (wr.alloc (.cells #[encStr f.1, encStr f.2] 41)) (some ⟨b, off, none⟩) c wr.heap.size (zs.take j) f ((H.out.more HO2.out).take j) (by omega) Hfb.out
        rw [htl] at hcon
        have Hcon := Lib.hid hcon
        clear hcon
        unfold encStr at k0 k1 Hcon Hfb HO2
        go_wp2_with fail
        refine Hcon.out.mono ?_
        rintro e w2 ⟨rfl, hO2⟩
        have hfb2 := Hfb.out.only hO2 (by simp)
        have HO3 := Lib.hid (HO2.out.plus hO2)
        have q0 := hfb2.cell 0
        have q1 := hfb2.cell 1
        have ql := hfb2.lt
        have Hfb2 := Lib.hid hfb2
        clear hO2 hfb2 k0 k1 Hcon
        generalize hr1 : (zs.take j).any (fun g => g.1 == f.1) = r1 at *
        cases r1 with
        | true =>
          go_wp2_with fail
          go_ret
          exact ⟨by rw [Hgc.out]; rfl, HO3.out⟩
        | false =>
          go_wp2_with fail
          refine (name_any _ f.1 hfn).mono ?_
          rintro e w3 ⟨rfl, hO4⟩
          have hfb3 := Hfb2.out.only hO4 (by simp)
          have HO4 := Lib.hid (HO3.out.plus hO4)
          clear q0 q1 ql hO4
          have q1 := hfb3.cell 1
          have ql := hfb3.lt
          clear hfb3
          cases hnm : nameM f.1 with
          | false =>
            go_wp2_with fail
            go_ret
            exact ⟨by rw [Hgc.out, hnm]; rfl, HO4.out⟩
          | true =>
            by_cases h2 : f.2.length ≤ 2000
            · have h2i : ¬ (2000 : Int) < (f.2.length : Int) := by omega
              have hd : decide (f.2.length ≤ 2000) = true := by simpa using h2
              go_wp2
              go_roundw
              case rel => exact ⟨j + 1, rr, by go_num, by have := Hjl.out; omega, Hdr1.out, by rw [Hgc.out, hnm, hd]; rfl, HO4.out⟩
              case measure => have h9 := Hjl.out; simp [intOf]; omega
            · have h2i : (2000 : Int) < (f.2.length : Int) := by omega
              have hd : decide (f.2.length ≤ 2000) = false := by simpa using h2
              go_wp2_with fail
              go_ret
              exact ⟨by rw [Hgc.out, hnm, hd]; rfl, HO4.out⟩

end Go.Proofs.YtildkedplmjdaaaDoor
