/-
  A disk and the tables that the law DiskLasts keeps beside it: behind its first calls, behind its second, and what is read behind the crash.
-/
import Derived.Test.YtlnmpbfalflbgaaLastsA
namespace Go.Proofs.Ytlnmpbfalflbgaa
open Go.RowKit

/-- Where the disk lies: behind what was there, ahead of the tables. -/
structure Rm (w0 : World) (B p bl bm : Nat) : Prop where
  p0 : w0.heap.size ≤ p
  l0 : w0.heap.size ≤ bl
  m0 : w0.heap.size ≤ bm
  p1 : p < B
  l1 : bl < B
  m1 : bm < B

/-- Behind the table's filling up to k. -/
structure FillAt (w0 w : World) (B p bl bm gW gN gF k : Nat) : Prop where
  t3 : T3 w B gW gN gF
  was : ∀ i, i < k → SecAt w B gW i zeros
  mark : BoT w gF (fun _ => false)
  disk : DiskAt w p bl bm (mkD 16 (fun _ => zeros) noF 0)
  only : Only [] w0 w

/-- Behind the first calls. -/
structure OldAt (w0 w : World) (B p bl bm gW gN gF : Nat) (last : Secs) (news : News) (was : Secs) (k : Nat) : Prop where
  disk : DiskAt w p bl bm (mkD 16 last news k)
  same : ∀ i, i < 16 → nowF last news i = was i
  tab : LTab w B gW gN gF was (fun _ => none)
  only : Only [] w0 w

/-- Behind the flush and some of the second calls. -/
structure NewAt (w0 w : World) (B p bl bm gW gN gF : Nat) (last : Secs) (was : Secs) (news : News) (fr : Nat → Option (List UInt8)) (k : Nat) : Prop where
  disk : DiskAt w p bl bm (mkD 16 last news k)
  old : ∀ i, i < 16 → last i = was i
  same : ∀ i : Nat, i < 16 → news i = fr i
  tab : LTab w B gW gN gF was fr
  only : Only [] w0 w

/-- Behind the crash. -/
structure EndAt (w0 w : World) (B p bl bm gW gN gF : Nat) (last : Secs) (was : Secs) (news : News) (fr : Nat → Option (List UInt8)) (l : List UInt8) (k : Nat) : Prop where
  disk : DiskAt w p bl bm (mkD 16 (crF last news l) noF k)
  old : ∀ i, i < 16 → last i = was i
  same : ∀ i : Nat, i < 16 → news i = fr i
  tab : LTab w B gW gN gF was fr
  only : Only [] w0 w

section
variable {w0 w w' : World} {B p bl bm gW gN gF k : Nat} {last was : Secs} {news : News} {fr : Nat → Option (List UInt8)} {l : List UInt8}

theorem only_three (hr : Rm w0 B p bl bm) (h : Only [] w0 w) (k : Only [p, bl, bm] w w') : Only [] w0 w' :=
  (h.trans k).into (fun i hi => .inr (by have := hr.p0; have := hr.l0; have := hr.m0; simp at hi; omega))

theorem FillAt.fill (h : FillAt w0 w B p bl bm gW gN gF k) (hr : Rm w0 B p bl bm) (hk : k < 16) (t : TypeId) :
    FillAt w0 ((w.setCell ⟨gW, k, none⟩ (.slice (some ⟨w.heap.size, 0, none⟩) 64 64)).alloc (.cells (bv zeros).toArray t)) B p bl bm gW gN gF (k + 1) := by
  rw [← World.setCell_alloc_past (w := w) _ _ _ _ h.t3.lW]
  have hO : Only [] w (w.alloc (.cells (bv zeros).toArray t)) := (Only.refl _ _).alloc _
  have hO2 : Only [gW] (w.alloc (.cells (bv zeros).toArray t)) ((w.alloc (.cells (bv zeros).toArray t)).setCell ⟨gW, k, none⟩ (.slice (some ⟨w.heap.size, 0, none⟩) 64 64)) := (Only.refl _ _).setCell (by simp) _
  have hT := h.t3.keep hO (by simp)
  have hb := IsBlk.made w (.cells (bv zeros).toArray t)
  have hp := hr.p1
  have hl := hr.l1
  have hm := hr.m1
  have hg := h.t3.geW
  have hlW := h.t3.lW
  refine ⟨hT.putW k hk _ _ _, fun i hi => ?_, fun i hi => ?_, (h.disk.more hO).keep hO2 (by simp; omega) (by simp; omega) (by simp; omega), (h.only.andMore hO).setCell (.inr ?_) _⟩
  · by_cases e : i = k
    · subst e; exact SecAt.put hT.sW hk (by omega) hb.lt (blk_range hb) rfl
    · exact ((h.was i (by omega)).keep hO h.t3.lW (by simp) (by simp)).other (.inr e) hT.sW.nb
  · have := (hO.cell (p := ⟨gF, i, none⟩) h.t3.lF (by simp)).trans (h.mark i hi)
    exact (cell_far _ h.t3.WF.symm).trans this
  · have := hr.p0; show w0.heap.size ≤ gW; omega

theorem FillAt.tab (h : FillAt w0 w B p bl bm gW gN gF 16) : OldAt w0 w B p bl bm gW gN gF (fun _ => zeros) noF (fun _ => zeros) 0 :=
  ⟨h.disk, fun _ _ => rfl, ⟨h.t3, h.was, fun _ _ _ e => (by cases e), h.mark⟩, h.only⟩

theorem OldAt.more (h : OldAt w0 w B p bl bm gW gN gF last news was k) (hO : Only [] w w') : OldAt w0 w' B p bl bm gW gN gF last news was k :=
  ⟨h.disk.more hO, h.same, h.tab.more hO, h.only.andMore hO⟩
theorem NewAt.more (h : NewAt w0 w B p bl bm gW gN gF last was news fr k) (hO : Only [] w w') : NewAt w0 w' B p bl bm gW gN gF last was news fr k :=
  ⟨h.disk.more hO, h.old, h.same, h.tab.more hO, h.only.andMore hO⟩
theorem EndAt.more (h : EndAt w0 w B p bl bm gW gN gF last was news fr l k) (hO : Only [] w w') : EndAt w0 w' B p bl bm gW gN gF last was news fr l k :=
  ⟨h.disk.more hO, h.old, h.same, h.tab.more hO, h.only.andMore hO⟩

/-- A sector into the first table and onto the disk. -/
theorem old_write (h : OldAt w0 w B p bl bm gW gN gF last news was k) (hr : Rm w0 B p bl bm) (x gs : Nat) (sb : List UInt8) (hx : x < 16) (hk : k < 1000) (hgs : B ≤ gs) (hb : IsBlk w gs (.cells (bv sb).toArray 5)) (hsb : sb.length = 64) :
    Calls Try.prog 25 #[.pointer (some ⟨p, 0, none⟩), .int .i64 x, .slice (some ⟨gs, 0, none⟩) 64 64] (w.setCell ⟨gW, x, none⟩ (.slice (some ⟨gs, 0, none⟩) 64 64))
      fun e w' => e = .returned (.int .i64 0) ∧ OldAt w0 w' B p bl bm gW gN gF last (putF news x sb) (fun i => if i = x then sb else was i) (k + 1) := by
  have hO : Only [gW] w (w.setCell ⟨gW, x, none⟩ (.slice (some ⟨gs, 0, none⟩) 64 64)) := (Only.refl _ _).setCell (by simp) _
  have hT := h.tab.putW (x := x) (c' := 64) hx hgs hb.lt (blk_range hb) hsb
  have hp := hr.p1
  have hl := hr.l1
  have hm := hr.m1
  have hg := h.tab.t3.geW
  have hp0 := hr.p0
  have hD := h.disk.keep hO (by simp; omega) (by simp; omega) (by simp; omega)
  obtain ⟨gi, ci, hc, hB, hlt, hra, _⟩ := hT.was_ x hx
  have hne : gs ≠ gW := fun e => by
    subst e
    obtain ⟨m, hm⟩ := byte_first (blk_range hb) hsb
    exact h.tab.t3.sW.nb m hm
  have hra' := rangeAt_only (blk_range hb) hO hb.lt (by simpa using hne)
  have hO0 : Only [] w0 (w.setCell ⟨gW, x, none⟩ (.slice (some ⟨gs, 0, none⟩) 64 64)) := h.only.setCell (.inr (by show w0.heap.size ≤ gW; omega)) _
  refine (v_write x gs 0 64 sb hD hx (by omega) (by omega) hsb hra' (by have := hb.lt; simpa using this) (by omega)).mono ?_
  rintro e w' ⟨rfl, hD', hO'⟩
  refine ⟨rfl, hD', fun i hi => ?_, hT.keep hO' (by simp; omega), only_three hr hO0 hO'⟩
  have hs := h.same i hi
  unfold nowF at hs ⊢
  unfold putF
  by_cases e : i = x
  · subst e; simp
  · have e' : ¬ (i : Int) = (x : Int) := by omega
    simp only [e, e', if_false]; exact hs

theorem old_flush (h : OldAt w0 w B p bl bm gW gN gF last news was k) (hr : Rm w0 B p bl bm) (hk : k < 1000) :
    Calls Try.prog 26 #[.pointer (some ⟨p, 0, none⟩)] w fun e w' => e = .returned (.int .i64 0) ∧ NewAt w0 w' B p bl bm gW gN gF (nowF last news) was noF (fun _ => none) (k + 1) := by
  have hp := hr.p1
  have hl := hr.l1
  have hm := hr.m1
  refine (v_flush h.disk (by omega) (by omega)).mono ?_
  rintro e w' ⟨rfl, hD', hO'⟩
  exact ⟨rfl, hD', h.same, fun _ _ => rfl, h.tab.keep hO' (by simp; omega), only_three hr h.only hO'⟩

/-- A sector into the second table and onto the disk. -/
theorem new_write (h : NewAt w0 w B p bl bm gW gN gF last was news fr k) (hr : Rm w0 B p bl bm) (x gs : Nat) (sb : List UInt8) (hx : x < 16) (hk : k < 1000) (hgs : B ≤ gs) (hb : IsBlk w gs (.cells (bv sb).toArray 5)) (hsb : sb.length = 64) :
    Calls Try.prog 25 #[.pointer (some ⟨p, 0, none⟩), .int .i64 x, .slice (some ⟨gs, 0, none⟩) 64 64] ((w.setCell ⟨gN, x, none⟩ (.slice (some ⟨gs, 0, none⟩) 64 64)).setCell ⟨gF, x, none⟩ (.bool true))
      fun e w' => e = .returned (.int .i64 0) ∧ NewAt w0 w' B p bl bm gW gN gF last was (putF news x sb) (fun i => if i = x then some sb else fr i) (k + 1) := by
  have hO : Only [gN, gF] w ((w.setCell ⟨gN, x, none⟩ (.slice (some ⟨gs, 0, none⟩) 64 64)).setCell ⟨gF, x, none⟩ (.bool true)) := ((Only.refl _ _).setCell (by simp) _).setCell (by simp) _
  have hT := h.tab.putN (x := x) (c' := 64) hx hgs hb.lt (blk_range hb) hsb
  have hp := hr.p1
  have hl := hr.l1
  have hm := hr.m1
  have hg := h.tab.t3.geN
  have hgf := h.tab.t3.geF
  have hp0 := hr.p0
  have hD := h.disk.keep hO (by simp; omega) (by simp; omega) (by simp; omega)
  obtain ⟨mb, hmb⟩ := byte_first (blk_range hb) hsb
  have hne : gs ≠ gN := fun e => by subst e; exact h.tab.t3.sN.nb mb hmb
  have hne2 : gs ≠ gF := fun e => by subst e; exact h.tab.t3.nbF mb hmb
  have hra' := rangeAt_only (blk_range hb) hO hb.lt (by simp; exact ⟨hne, hne2⟩)
  have hO0 : Only [] w0 ((w.setCell ⟨gN, x, none⟩ (.slice (some ⟨gs, 0, none⟩) 64 64)).setCell ⟨gF, x, none⟩ (.bool true)) := (h.only.setCell (.inr (by show w0.heap.size ≤ gN; omega)) _).setCell (.inr (by show w0.heap.size ≤ gF; omega)) _
  refine (v_write x gs 0 64 sb hD hx (by omega) (by omega) hsb hra' (by have := hb.lt; simpa using this) (by omega)).mono ?_
  rintro e w' ⟨rfl, hD', hO'⟩
  refine ⟨rfl, hD', h.old, fun i hi => ?_, hT.keep hO' (by simp; omega), only_three hr hO0 hO'⟩
  have hs := h.same i hi
  unfold putF
  by_cases e : i = x
  · subst e; simp
  · have e' : ¬ (i : Int) = (x : Int) := by omega
    simp only [e, e', if_false]; exact hs

theorem new_crash (h : NewAt w0 w B p bl bm gW gN gF last was news fr k) (hr : Rm w0 B p bl bm) (pa : Option Addr) (plen pcap : Nat) (hs : Src w0 pa plen l) :
    Calls Try.prog 18 #[.pointer (some ⟨p, 0, none⟩), .slice pa plen pcap] w fun e w' => e = .returned (.tuple #[]) ∧ EndAt w0 w' B p bl bm gW gN gF last was news fr l k := by
  have hp := hr.p1
  have hl := hr.l1
  have hm := hr.m1
  have hl0 := hr.l0
  have hm0 := hr.m0
  refine (v_crash pa plen pcap l h.disk (hs.more h.only) (fun hp x y e => by have := hs.lt hp e; omega)).mono ?_
  rintro e w' ⟨rfl, hD', hO'⟩
  exact ⟨rfl, hD', h.old, h.same, h.tab.keep hO' (by simp; omega), only_three hr h.only hO'⟩

theorem cntF_le (news : News) : ∀ i, cntF news i ≤ i
  | 0 => Nat.le_refl _
  | i + 1 => by have := cntF_le news i; simp only [cntF]; split <;> omega

/-- What is read behind the crash, where nothing was written since the flush, where it was kept, where it was lost. -/
theorem EndAt.read_old (h : EndAt w0 w B p bl bm gW gN gF last was news fr l k) (i : Nat) (hi : i < 16) (hf : fr i = none) :
    Calls Try.prog 21 #[.pointer (some ⟨p, 0, none⟩), .int .i64 i] w (Made w (was i) 0) := by
  have := v_read i h.disk hi
  have e : nowF (crF last news l) noF i = was i := by
    have h1 := h.same i hi
    have h2 := h.old i hi
    simp only [nowF, noF, crF, Option.getD_none, h1, hf, h2, ite_self]
  rwa [e] at this
theorem EndAt.read_kept (h : EndAt w0 w B p bl bm gW gN gF last was news fr l k) (i : Nat) (hi : i < 16) (b : List UInt8) (hf : fr i = some b) (hp : pickB l (cntF news i) = true) :
    Calls Try.prog 21 #[.pointer (some ⟨p, 0, none⟩), .int .i64 i] w (Made w b 0) := by
  have := v_read i h.disk hi
  have e : nowF (crF last news l) noF i = b := by
    have h1 := h.same i hi
    simp only [nowF, noF, crF, Option.getD_none, h1, hf, hp, if_true, Option.getD_some]
  rwa [e] at this
theorem EndAt.read_lost (h : EndAt w0 w B p bl bm gW gN gF last was news fr l k) (i : Nat) (hi : i < 16) (hp : pickB l (cntF news i) = false) :
    Calls Try.prog 21 #[.pointer (some ⟨p, 0, none⟩), .int .i64 i] w (Made w (was i) 0) := by
  have := v_read i h.disk hi
  have e : nowF (crF last news l) noF i = was i := by
    have h2 := h.old i hi
    simp only [nowF, noF, crF, Option.getD_none, hp, h2]; rfl
  rwa [e] at this
theorem cntF_none (h : EndAt w0 w B p bl bm gW gN gF last was news fr l k) (i : Nat) (hi : i < 16) (hf : fr i = none) : cntF news (i + 1) = cntF news i := by
  have h1 := h.same i hi
  simp [cntF, h1, hf]
theorem cntF_some (h : EndAt w0 w B p bl bm gW gN gF last was news fr l k) (i : Nat) (hi : i < 16) (b : List UInt8) (hf : fr i = some b) : cntF news (i + 1) = cntF news i + 1 := by
  have h1 := h.same i hi
  simp [cntF, h1, hf]
end

end Go.Proofs.Ytlnmpbfalflbgaa
