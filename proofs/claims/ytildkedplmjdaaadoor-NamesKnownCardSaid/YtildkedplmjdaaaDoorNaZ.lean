/-
  NamesKnown: these files are refused at just these places.
-/
import Derived.Test.YtildkedplmjdaaaDoorNaY
import Derived.Test.YtildkedplmjdaaaDoorLxG
namespace Go.Proofs.YtildkedplmjdaaaDoor
set_option maxRecDepth 100000
set_option linter.unusedVariables false
open Go.RowKit Go.Sort

def knZ0 : List FilM := [([97], [102, 117, 110, 99, 32, 109, 97, 105, 110, 32, 123, 32, 117, 115, 101, 32, 120, 32, 125])]
theorem knX0 {X : ProgM × Nat × Nat} (h : JoinX knZ0 X) : X.2 = (12, 10) := by
  rw [joinX_of (l := [([97], [102, 117, 110, 99, 32, 109, 97, 105, 110, 32, 123, 32, 117, 115, 101, 32, 120, 32, 125])]) h (by decide +kernel) (by decide +kernel) (by decide +kernel)]
  decide +kernel
def knZ1 : List FilM := [([98], [102, 117, 110, 99, 32, 109, 97, 105, 110, 32, 123, 32, 125]), ([97], [32, 118, 97, 114, 32, 109, 97, 105, 110])]
theorem knX1 {X : ProgM × Nat × Nat} (h : JoinX knZ1 X) : X.2 = (10000, 9) := by
  rw [joinX_of (l := [([97], [32, 118, 97, 114, 32, 109, 97, 105, 110]), ([98], [102, 117, 110, 99, 32, 109, 97, 105, 110, 32, 123, 32, 125])]) h (by decide +kernel) (by decide +kernel) (by decide +kernel)]
  decide +kernel
def knZ2 : List FilM := [([97], [118, 97, 114, 32, 120]), ([98], [108, 111, 99, 107, 32, 121, 32, 102, 117, 110, 99, 32, 109, 97, 105, 110, 32, 123, 32, 125, 32, 102, 117, 110, 99, 32, 120, 32, 123, 32, 125])]
theorem knX2 {X : ProgM × Nat × Nat} (h : JoinX knZ2 X) : X.2 = (10021, 9) := by
  rw [joinX_of (l := [([97], [118, 97, 114, 32, 120]), ([98], [108, 111, 99, 107, 32, 121, 32, 102, 117, 110, 99, 32, 109, 97, 105, 110, 32, 123, 32, 125, 32, 102, 117, 110, 99, 32, 120, 32, 123, 32, 125])]) h (by decide +kernel) (by decide +kernel) (by decide +kernel)]
  decide +kernel
def knZ3 : List FilM := [([97], [102, 117, 110, 99, 32, 102, 32, 123, 32, 125])]
theorem knX3 {X : ProgM × Nat × Nat} (h : JoinX knZ3 X) : X.2 = (0, 11) := by
  rw [joinX_of (l := [([97], [102, 117, 110, 99, 32, 102, 32, 123, 32, 125])]) h (by decide +kernel) (by decide +kernel) (by decide +kernel)]
  decide +kernel
def knZ4 : List FilM := [([98], [125]), ([97], [102, 117, 110, 99, 32, 109, 97, 105, 110, 32, 123, 32, 125])]
theorem knX4 {X : ProgM × Nat × Nat} (h : JoinX knZ4 X) : X.2 = (10000, 7) := by
  rw [joinX_of (l := [([97], [102, 117, 110, 99, 32, 109, 97, 105, 110, 32, 123, 32, 125]), ([98], [125])]) h (by decide +kernel) (by decide +kernel) (by decide +kernel)]
  decide +kernel
def knZ5 : List FilM := [([65], [])]
theorem knX5 {X : ProgM × Nat × Nat} (h : JoinX knZ5 X) : X.2 = (0, 1) := by rw [joinX_not h (by decide +kernel)]
def knZ6 : List FilM := [([97], [102, 117, 110, 99, 32, 109, 97, 105, 110, 32, 123, 32, 108, 111, 111, 112, 32, 123, 32, 105, 102, 32, 123, 32, 125, 32, 101, 108, 115, 101, 32, 123, 32, 115, 112, 97, 119, 110, 32, 120, 32, 125, 32, 125, 32, 125])]
theorem knX6 {X : ProgM × Nat × Nat} (h : JoinX knZ6 X) : X.2 = (33, 10) := by
  rw [joinX_of (l := [([97], [102, 117, 110, 99, 32, 109, 97, 105, 110, 32, 123, 32, 108, 111, 111, 112, 32, 123, 32, 105, 102, 32, 123, 32, 125, 32, 101, 108, 115, 101, 32, 123, 32, 115, 112, 97, 119, 110, 32, 120, 32, 125, 32, 125, 32, 125])]) h (by decide +kernel) (by decide +kernel) (by decide +kernel)]
  decide +kernel
def knZ7 : List FilM := [([97], [118, 97, 114, 32, 108, 32, 102, 117, 110, 99, 32, 109, 97, 105, 110, 32, 123, 32, 108, 111, 99, 107, 32, 108, 32, 125])]
theorem knX7 {X : ProgM × Nat × Nat} (h : JoinX knZ7 X) : X.2 = (18, 10) := by
  rw [joinX_of (l := [([97], [118, 97, 114, 32, 108, 32, 102, 117, 110, 99, 32, 109, 97, 105, 110, 32, 123, 32, 108, 111, 99, 107, 32, 108, 32, 125])]) h (by decide +kernel) (by decide +kernel) (by decide +kernel)]
  decide +kernel
def knZ8 : List FilM := [([97], [102, 117, 110, 99, 32, 109, 97, 105, 110, 32, 123, 32, 99, 97, 108, 108, 32, 109, 97, 105, 110, 32, 115, 112, 97, 119, 110, 32, 109, 97, 105, 110, 32, 125])]
theorem knX8 {X : ProgM × Nat × Nat} (h : JoinX knZ8 X) : X.2 = (0, 0) := by
  rw [joinX_of (l := [([97], [102, 117, 110, 99, 32, 109, 97, 105, 110, 32, 123, 32, 99, 97, 108, 108, 32, 109, 97, 105, 110, 32, 115, 112, 97, 119, 110, 32, 109, 97, 105, 110, 32, 125])]) h (by decide +kernel) (by decide +kernel) (by decide +kernel)]
  decide +kernel

theorem FilAt.two {w : World} {g : Nat} {s t s' t' : List UInt8} {T : TypeId} (h : IsBlk w g (.cells #[encStr s, encStr t, encStr s', encStr t'] T)) : FilAt w (some ⟨g, 0, Option.none⟩) [(s, t), (s', t')] := fun _ => by
  refine ⟨g, 0, rfl, h.lt, fun j f hf => ?_⟩
  match j, hf with
  | 0, hf => simp at hf; subst hf; exact ⟨h.cell 0, h.cell 1⟩
  | 1, hf => simp at hf; subst hf; exact ⟨h.cell 2, h.cell 3⟩
  | k + 2, hf => simp at hf

set_option maxHeartbeats 16000000 in
theorem nknown_walk (which : Int) (w : World) (hg : ErrT w) :
    Calls Tryd.prog 4 #[.int .i64 which] w fun e w' => e = .returned (.bool true) ∧ Only [] w w' := by
  go_enter Tryd.func4, Tryd.ntmps4
  go_wp2_with fail
  refine (known7_any _ hg).mono ?_
  rintro e w0 ⟨rfl, hO0⟩
  have HO0 := Lib.hid hO0
  have HG0 := Lib.hid (hg.only hO0 (by simp))
  clear hO0 hg
  obtain ⟨o0, ho0⟩ : ∃ o, o = Obj.cells #[.string ⟨#[97]⟩, .string ⟨#[102, 117, 110, 99, 32, 109, 97, 105, 110, 32, 123, 32, 117, 115, 101, 32, 120, 32, 125]⟩] 41 := ⟨_, rfl⟩
  obtain ⟨o1, ho1⟩ : ∃ o, o = Obj.cells #[.string ⟨#[98]⟩, .string ⟨#[102, 117, 110, 99, 32, 109, 97, 105, 110, 32, 123, 32, 125]⟩, .string ⟨#[97]⟩, .string ⟨#[32, 118, 97, 114, 32, 109, 97, 105, 110]⟩] 41 := ⟨_, rfl⟩
  obtain ⟨o2, ho2⟩ : ∃ o, o = Obj.cells #[.string ⟨#[97]⟩, .string ⟨#[118, 97, 114, 32, 120]⟩, .string ⟨#[98]⟩, .string ⟨#[108, 111, 99, 107, 32, 121, 32, 102, 117, 110, 99, 32, 109, 97, 105, 110, 32, 123, 32, 125, 32, 102, 117, 110, 99, 32, 120, 32, 123, 32, 125]⟩] 41 := ⟨_, rfl⟩
  obtain ⟨o3, ho3⟩ : ∃ o, o = Obj.cells #[.string ⟨#[97]⟩, .string ⟨#[102, 117, 110, 99, 32, 102, 32, 123, 32, 125]⟩] 41 := ⟨_, rfl⟩
  obtain ⟨o4, ho4⟩ : ∃ o, o = Obj.cells #[.string ⟨#[98]⟩, .string ⟨#[125]⟩, .string ⟨#[97]⟩, .string ⟨#[102, 117, 110, 99, 32, 109, 97, 105, 110, 32, 123, 32, 125]⟩] 41 := ⟨_, rfl⟩
  obtain ⟨o5, ho5⟩ : ∃ o, o = Obj.cells #[.string ⟨#[65]⟩, .string ⟨#[]⟩] 41 := ⟨_, rfl⟩
  obtain ⟨o6, ho6⟩ : ∃ o, o = Obj.cells #[.string ⟨#[97]⟩, .string ⟨#[102, 117, 110, 99, 32, 109, 97, 105, 110, 32, 123, 32, 108, 111, 111, 112, 32, 123, 32, 105, 102, 32, 123, 32, 125, 32, 101, 108, 115, 101, 32, 123, 32, 115, 112, 97, 119, 110, 32, 120, 32, 125, 32, 125, 32, 125]⟩] 41 := ⟨_, rfl⟩
  obtain ⟨o7, ho7⟩ : ∃ o, o = Obj.cells #[.string ⟨#[97]⟩, .string ⟨#[118, 97, 114, 32, 108, 32, 102, 117, 110, 99, 32, 109, 97, 105, 110, 32, 123, 32, 108, 111, 99, 107, 32, 108, 32, 125]⟩] 41 := ⟨_, rfl⟩
  obtain ⟨o8, ho8⟩ : ∃ o, o = Obj.cells #[.string ⟨#[97]⟩, .string ⟨#[102, 117, 110, 99, 32, 109, 97, 105, 110, 32, 123, 32, 99, 97, 108, 108, 32, 109, 97, 105, 110, 32, 115, 112, 97, 119, 110, 32, 109, 97, 105, 110, 32, 125]⟩] 41 := ⟨_, rfl⟩
  obtain ⟨o9, ho9⟩ : ∃ o, o = Obj.cells #[.slice (some ⟨w0.heap.size, 0, none⟩) 1 1, .slice (some ⟨w0.heap.size + 1, 0, none⟩) 2 2, .slice (some ⟨w0.heap.size + 1 + 1, 0, none⟩) 2 2, .slice (some ⟨w0.heap.size + 1 + 1 + 1, 0, none⟩) 1 1, .slice (some ⟨w0.heap.size + 1 + 1 + 1 + 1, 0, none⟩) 2 2, .slice (some ⟨w0.heap.size + 1 + 1 + 1 + 1 + 1, 0, none⟩) 1 1, .slice (some ⟨w0.heap.size + 1 + 1 + 1 + 1 + 1 + 1, 0, none⟩) 1 1, .slice (some ⟨w0.heap.size + 1 + 1 + 1 + 1 + 1 + 1 + 1, 0, none⟩) 1 1, .slice (some ⟨w0.heap.size + 1 + 1 + 1 + 1 + 1 + 1 + 1 + 1, 0, none⟩) 1 1] 42 := ⟨_, rfl⟩
  obtain ⟨o10, ho10⟩ : ∃ o, o = Obj.cells #[.int .i64 12, .int .i64 10000, .int .i64 10021, .int .i64 0, .int .i64 10000, .int .i64 0, .int .i64 33, .int .i64 18, .int .i64 0] 3 := ⟨_, rfl⟩
  obtain ⟨o11, ho11⟩ : ∃ o, o = Obj.cells #[.int .i64 10, .int .i64 9, .int .i64 9, .int .i64 11, .int .i64 7, .int .i64 1, .int .i64 10, .int .i64 10, .int .i64 0] 36 := ⟨_, rfl⟩
  obtain ⟨w1, hw1⟩ : ∃ x, x = ((((((((((((w0.alloc o0).alloc o1).alloc o2).alloc o3).alloc o4).alloc o5).alloc o6).alloc o7).alloc o8).alloc o9).alloc o10).alloc o11) := ⟨_, rfl⟩
  have hz : w1.heap.size = w0.heap.size + 12 := by rw [hw1]; simp
  have hO1 : Only [] w0 w1 := by rw [hw1]; exact (((((((((((((Only.refl [] w0).alloc o0).alloc o1).alloc o2).alloc o3).alloc o4).alloc o5).alloc o6).alloc o7).alloc o8).alloc o9).alloc o10).alloc o11)
  have b0 : IsBlk w1 (w0.heap.size + 0) o0 := by
    have h := ((((((((((((IsBlk.made w0 o0).alloc o1).alloc o2).alloc o3).alloc o4).alloc o5).alloc o6).alloc o7).alloc o8).alloc o9).alloc o10).alloc o11)
    rw [hw1]; exact h
  have b1 : IsBlk w1 (w0.heap.size + 1) o1 := by
    have h := (((((((((((IsBlk.made (w0.alloc o0) o1).alloc o2).alloc o3).alloc o4).alloc o5).alloc o6).alloc o7).alloc o8).alloc o9).alloc o10).alloc o11)
    rw [show (w0.alloc o0).heap.size = w0.heap.size + 1 from by simp] at h
    rw [hw1]; exact h
  have b2 : IsBlk w1 (w0.heap.size + 2) o2 := by
    have h := ((((((((((IsBlk.made ((w0.alloc o0).alloc o1) o2).alloc o3).alloc o4).alloc o5).alloc o6).alloc o7).alloc o8).alloc o9).alloc o10).alloc o11)
    rw [show ((w0.alloc o0).alloc o1).heap.size = w0.heap.size + 2 from by simp] at h
    rw [hw1]; exact h
  have b3 : IsBlk w1 (w0.heap.size + 3) o3 := by
    have h := (((((((((IsBlk.made (((w0.alloc o0).alloc o1).alloc o2) o3).alloc o4).alloc o5).alloc o6).alloc o7).alloc o8).alloc o9).alloc o10).alloc o11)
    rw [show (((w0.alloc o0).alloc o1).alloc o2).heap.size = w0.heap.size + 3 from by simp] at h
    rw [hw1]; exact h
  have b4 : IsBlk w1 (w0.heap.size + 4) o4 := by
    have h := ((((((((IsBlk.made ((((w0.alloc o0).alloc o1).alloc o2).alloc o3) o4).alloc o5).alloc o6).alloc o7).alloc o8).alloc o9).alloc o10).alloc o11)
    rw [show ((((w0.alloc o0).alloc o1).alloc o2).alloc o3).heap.size = w0.heap.size + 4 from by simp] at h
    rw [hw1]; exact h
  have b5 : IsBlk w1 (w0.heap.size + 5) o5 := by
    have h := (((((((IsBlk.made (((((w0.alloc o0).alloc o1).alloc o2).alloc o3).alloc o4) o5).alloc o6).alloc o7).alloc o8).alloc o9).alloc o10).alloc o11)
    rw [show (((((w0.alloc o0).alloc o1).alloc o2).alloc o3).alloc o4).heap.size = w0.heap.size + 5 from by simp] at h
    rw [hw1]; exact h
  have b6 : IsBlk w1 (w0.heap.size + 6) o6 := by
    have h := ((((((IsBlk.made ((((((w0.alloc o0).alloc o1).alloc o2).alloc o3).alloc o4).alloc o5) o6).alloc o7).alloc o8).alloc o9).alloc o10).alloc o11)
    rw [show ((((((w0.alloc o0).alloc o1).alloc o2).alloc o3).alloc o4).alloc o5).heap.size = w0.heap.size + 6 from by simp] at h
    rw [hw1]; exact h
  have b7 : IsBlk w1 (w0.heap.size + 7) o7 := by
    have h := (((((IsBlk.made (((((((w0.alloc o0).alloc o1).alloc o2).alloc o3).alloc o4).alloc o5).alloc o6) o7).alloc o8).alloc o9).alloc o10).alloc o11)
    rw [show (((((((w0.alloc o0).alloc o1).alloc o2).alloc o3).alloc o4).alloc o5).alloc o6).heap.size = w0.heap.size + 7 from by simp] at h
    rw [hw1]; exact h
  have b8 : IsBlk w1 (w0.heap.size + 8) o8 := by
    have h := ((((IsBlk.made ((((((((w0.alloc o0).alloc o1).alloc o2).alloc o3).alloc o4).alloc o5).alloc o6).alloc o7) o8).alloc o9).alloc o10).alloc o11)
    rw [show ((((((((w0.alloc o0).alloc o1).alloc o2).alloc o3).alloc o4).alloc o5).alloc o6).alloc o7).heap.size = w0.heap.size + 8 from by simp] at h
    rw [hw1]; exact h
  have b9 : IsBlk w1 (w0.heap.size + 9) o9 := by
    have h := (((IsBlk.made (((((((((w0.alloc o0).alloc o1).alloc o2).alloc o3).alloc o4).alloc o5).alloc o6).alloc o7).alloc o8) o9).alloc o10).alloc o11)
    rw [show (((((((((w0.alloc o0).alloc o1).alloc o2).alloc o3).alloc o4).alloc o5).alloc o6).alloc o7).alloc o8).heap.size = w0.heap.size + 9 from by simp] at h
    rw [hw1]; exact h
  have b10 : IsBlk w1 (w0.heap.size + 10) o10 := by
    have h := ((IsBlk.made ((((((((((w0.alloc o0).alloc o1).alloc o2).alloc o3).alloc o4).alloc o5).alloc o6).alloc o7).alloc o8).alloc o9) o10).alloc o11)
    rw [show ((((((((((w0.alloc o0).alloc o1).alloc o2).alloc o3).alloc o4).alloc o5).alloc o6).alloc o7).alloc o8).alloc o9).heap.size = w0.heap.size + 10 from by simp] at h
    rw [hw1]; exact h
  have b11 : IsBlk w1 (w0.heap.size + 11) o11 := by
    have h := (IsBlk.made (((((((((((w0.alloc o0).alloc o1).alloc o2).alloc o3).alloc o4).alloc o5).alloc o6).alloc o7).alloc o8).alloc o9).alloc o10) o11)
    rw [show (((((((((((w0.alloc o0).alloc o1).alloc o2).alloc o3).alloc o4).alloc o5).alloc o6).alloc o7).alloc o8).alloc o9).alloc o10).heap.size = w0.heap.size + 11 from by simp] at h
    rw [hw1]; exact h
  rw [ho0] at b0 hw1
  rw [ho1] at b1 hw1
  rw [ho2] at b2 hw1
  rw [ho3] at b3 hw1
  rw [ho4] at b4 hw1
  rw [ho5] at b5 hw1
  rw [ho6] at b6 hw1
  rw [ho7] at b7 hw1
  rw [ho8] at b8 hw1
  rw [ho9] at b9 hw1
  rw [ho10] at b10 hw1
  rw [ho11] at b11 hw1
  clear ho0 ho1 ho2 ho3 ho4 ho5 ho6 ho7 ho8 ho9 ho10 ho11 o0 o1 o2 o3 o4 o5 o6 o7 o8 o9 o10 o11
  have hin := inM_lt which 9 (by omega)
  have HO1 := Lib.hid (HO0.out.plus hO1)
  have HG1 := Lib.hid (HG0.out.only hO1 (by simp))
  have HB := Lib.hid (And.intro b0 (And.intro b1 (And.intro b2 (And.intro b3 (And.intro b4 (And.intro b5 (And.intro b6 (And.intro b7 (And.intro b8 (And.intro b9 (And.intro b10 b11)))))))))))
  clear b0 b1 b2 b3 b4 b5 b6 b7 b8 b9 b10 b11 hO1 HO0 HG0
  go_wp2_with fail
  rw [← hw1]
  clear hw1
  refine (within7_to w1 which 9 (by omega) (by omega)).mono ?_
  rintro e w' ⟨rfl, rfl⟩
  rw [show (9 : Int).toNat = 9 from rfl]
  generalize hk : inM which 9 = k at *
  clear hk
  have hz0 : w0.heap.size < w1.heap.size := by omega
  rcases (show k = 0 ∨ k = 1 ∨ k = 2 ∨ k = 3 ∨ k = 4 ∨ k = 5 ∨ k = 6 ∨ k = 7 ∨ k = 8 by omega) with rfl | rfl | rfl | rfl | rfl | rfl | rfl | rfl | rfl
  · have cO := (HB.out.2.2.2.2.2.2.2.2.2.1).cell 0
    have lO := (HB.out.2.2.2.2.2.2.2.2.2.1).lt
    have fA : FilAt w1 (some ⟨w0.heap.size + 0, 0, none⟩) knZ0 := FilAt.one (HB.out.1)
    have bI := Lib.hid (HB.out.2.2.2.2.2.2.2.2.2.2.1)
    have bE := Lib.hid (HB.out.2.2.2.2.2.2.2.2.2.2.2)
    clear HB
    go_wp2_with fail
    refine (join_any w1 _ 1 knZ0 fA (by decide) (by decide) HG1.out).mono ?_
    rintro e w2 ⟨X, hX, vv, vl, vf, rfl, hP, hO2⟩
    have hX2 := knX0 hX
    obtain ⟨P, at_, er⟩ := X
    obtain ⟨a1, c1, rfl, -⟩ := hP.1
    obtain ⟨a2, c2, rfl, -⟩ := hP.2.1
    obtain ⟨a3, c3, rfl, -⟩ := hP.2.2
    injection hX2 with hXa hXe
    subst hXa
    subst hXe
    have cI := (bI.out.only hO2 (by simp)).cell 0
    have cE := (bE.out.only hO2 (by simp)).cell 0
    have lI := (bI.out.only hO2 (by simp)).lt
    have lE := (bE.out.only hO2 (by simp)).lt
    have HO2 := Lib.hid (HO1.out.plus hO2)
    clear hX hP hO2 cO fA lO
    go_wp2
    go_ret
    exact ⟨rfl, HO2.out.alloc _⟩
  · have cO := (HB.out.2.2.2.2.2.2.2.2.2.1).cell 1
    have lO := (HB.out.2.2.2.2.2.2.2.2.2.1).lt
    have fA : FilAt w1 (some ⟨w0.heap.size + 1, 0, none⟩) knZ1 := FilAt.two (HB.out.2.1)
    have bI := Lib.hid (HB.out.2.2.2.2.2.2.2.2.2.2.1)
    have bE := Lib.hid (HB.out.2.2.2.2.2.2.2.2.2.2.2)
    clear HB
    go_wp2_with fail
    refine (join_any w1 _ 2 knZ1 fA (by decide) (by decide) HG1.out).mono ?_
    rintro e w2 ⟨X, hX, vv, vl, vf, rfl, hP, hO2⟩
    have hX2 := knX1 hX
    obtain ⟨P, at_, er⟩ := X
    obtain ⟨a1, c1, rfl, -⟩ := hP.1
    obtain ⟨a2, c2, rfl, -⟩ := hP.2.1
    obtain ⟨a3, c3, rfl, -⟩ := hP.2.2
    injection hX2 with hXa hXe
    subst hXa
    subst hXe
    have cI := (bI.out.only hO2 (by simp)).cell 1
    have cE := (bE.out.only hO2 (by simp)).cell 1
    have lI := (bI.out.only hO2 (by simp)).lt
    have lE := (bE.out.only hO2 (by simp)).lt
    have HO2 := Lib.hid (HO1.out.plus hO2)
    clear hX hP hO2 cO fA lO
    go_wp2
    go_ret
    exact ⟨rfl, HO2.out.alloc _⟩
  · have cO := (HB.out.2.2.2.2.2.2.2.2.2.1).cell 2
    have lO := (HB.out.2.2.2.2.2.2.2.2.2.1).lt
    have fA : FilAt w1 (some ⟨w0.heap.size + 2, 0, none⟩) knZ2 := FilAt.two (HB.out.2.2.1)
    have bI := Lib.hid (HB.out.2.2.2.2.2.2.2.2.2.2.1)
    have bE := Lib.hid (HB.out.2.2.2.2.2.2.2.2.2.2.2)
    clear HB
    go_wp2_with fail
    refine (join_any w1 _ 2 knZ2 fA (by decide) (by decide) HG1.out).mono ?_
    rintro e w2 ⟨X, hX, vv, vl, vf, rfl, hP, hO2⟩
    have hX2 := knX2 hX
    obtain ⟨P, at_, er⟩ := X
    obtain ⟨a1, c1, rfl, -⟩ := hP.1
    obtain ⟨a2, c2, rfl, -⟩ := hP.2.1
    obtain ⟨a3, c3, rfl, -⟩ := hP.2.2
    injection hX2 with hXa hXe
    subst hXa
    subst hXe
    have cI := (bI.out.only hO2 (by simp)).cell 2
    have cE := (bE.out.only hO2 (by simp)).cell 2
    have lI := (bI.out.only hO2 (by simp)).lt
    have lE := (bE.out.only hO2 (by simp)).lt
    have HO2 := Lib.hid (HO1.out.plus hO2)
    clear hX hP hO2 cO fA lO
    go_wp2
    go_ret
    exact ⟨rfl, HO2.out.alloc _⟩
  · have cO := (HB.out.2.2.2.2.2.2.2.2.2.1).cell 3
    have lO := (HB.out.2.2.2.2.2.2.2.2.2.1).lt
    have fA : FilAt w1 (some ⟨w0.heap.size + 3, 0, none⟩) knZ3 := FilAt.one (HB.out.2.2.2.1)
    have bI := Lib.hid (HB.out.2.2.2.2.2.2.2.2.2.2.1)
    have bE := Lib.hid (HB.out.2.2.2.2.2.2.2.2.2.2.2)
    clear HB
    go_wp2_with fail
    refine (join_any w1 _ 1 knZ3 fA (by decide) (by decide) HG1.out).mono ?_
    rintro e w2 ⟨X, hX, vv, vl, vf, rfl, hP, hO2⟩
    have hX2 := knX3 hX
    obtain ⟨P, at_, er⟩ := X
    obtain ⟨a1, c1, rfl, -⟩ := hP.1
    obtain ⟨a2, c2, rfl, -⟩ := hP.2.1
    obtain ⟨a3, c3, rfl, -⟩ := hP.2.2
    injection hX2 with hXa hXe
    subst hXa
    subst hXe
    have cI := (bI.out.only hO2 (by simp)).cell 3
    have cE := (bE.out.only hO2 (by simp)).cell 3
    have lI := (bI.out.only hO2 (by simp)).lt
    have lE := (bE.out.only hO2 (by simp)).lt
    have HO2 := Lib.hid (HO1.out.plus hO2)
    clear hX hP hO2 cO fA lO
    go_wp2
    go_ret
    exact ⟨rfl, HO2.out.alloc _⟩
  · have cO := (HB.out.2.2.2.2.2.2.2.2.2.1).cell 4
    have lO := (HB.out.2.2.2.2.2.2.2.2.2.1).lt
    have fA : FilAt w1 (some ⟨w0.heap.size + 4, 0, none⟩) knZ4 := FilAt.two (HB.out.2.2.2.2.1)
    have bI := Lib.hid (HB.out.2.2.2.2.2.2.2.2.2.2.1)
    have bE := Lib.hid (HB.out.2.2.2.2.2.2.2.2.2.2.2)
    clear HB
    go_wp2_with fail
    refine (join_any w1 _ 2 knZ4 fA (by decide) (by decide) HG1.out).mono ?_
    rintro e w2 ⟨X, hX, vv, vl, vf, rfl, hP, hO2⟩
    have hX2 := knX4 hX
    obtain ⟨P, at_, er⟩ := X
    obtain ⟨a1, c1, rfl, -⟩ := hP.1
    obtain ⟨a2, c2, rfl, -⟩ := hP.2.1
    obtain ⟨a3, c3, rfl, -⟩ := hP.2.2
    injection hX2 with hXa hXe
    subst hXa
    subst hXe
    have cI := (bI.out.only hO2 (by simp)).cell 4
    have cE := (bE.out.only hO2 (by simp)).cell 4
    have lI := (bI.out.only hO2 (by simp)).lt
    have lE := (bE.out.only hO2 (by simp)).lt
    have HO2 := Lib.hid (HO1.out.plus hO2)
    clear hX hP hO2 cO fA lO
    go_wp2
    go_ret
    exact ⟨rfl, HO2.out.alloc _⟩
  · have cO := (HB.out.2.2.2.2.2.2.2.2.2.1).cell 5
    have lO := (HB.out.2.2.2.2.2.2.2.2.2.1).lt
    have fA : FilAt w1 (some ⟨w0.heap.size + 5, 0, none⟩) knZ5 := FilAt.one (HB.out.2.2.2.2.2.1)
    have bI := Lib.hid (HB.out.2.2.2.2.2.2.2.2.2.2.1)
    have bE := Lib.hid (HB.out.2.2.2.2.2.2.2.2.2.2.2)
    clear HB
    go_wp2_with fail
    refine (join_any w1 _ 1 knZ5 fA (by decide) (by decide) HG1.out).mono ?_
    rintro e w2 ⟨X, hX, vv, vl, vf, rfl, hP, hO2⟩
    have hX2 := knX5 hX
    obtain ⟨P, at_, er⟩ := X
    obtain ⟨a1, c1, rfl, -⟩ := hP.1
    obtain ⟨a2, c2, rfl, -⟩ := hP.2.1
    obtain ⟨a3, c3, rfl, -⟩ := hP.2.2
    injection hX2 with hXa hXe
    subst hXa
    subst hXe
    have cI := (bI.out.only hO2 (by simp)).cell 5
    have cE := (bE.out.only hO2 (by simp)).cell 5
    have lI := (bI.out.only hO2 (by simp)).lt
    have lE := (bE.out.only hO2 (by simp)).lt
    have HO2 := Lib.hid (HO1.out.plus hO2)
    clear hX hP hO2 cO fA lO
    go_wp2
    go_ret
    exact ⟨rfl, HO2.out.alloc _⟩
  · have cO := (HB.out.2.2.2.2.2.2.2.2.2.1).cell 6
    have lO := (HB.out.2.2.2.2.2.2.2.2.2.1).lt
    have fA : FilAt w1 (some ⟨w0.heap.size + 6, 0, none⟩) knZ6 := FilAt.one (HB.out.2.2.2.2.2.2.1)
    have bI := Lib.hid (HB.out.2.2.2.2.2.2.2.2.2.2.1)
    have bE := Lib.hid (HB.out.2.2.2.2.2.2.2.2.2.2.2)
    clear HB
    go_wp2_with fail
    refine (join_any w1 _ 1 knZ6 fA (by decide) (by decide) HG1.out).mono ?_
    rintro e w2 ⟨X, hX, vv, vl, vf, rfl, hP, hO2⟩
    have hX2 := knX6 hX
    obtain ⟨P, at_, er⟩ := X
    obtain ⟨a1, c1, rfl, -⟩ := hP.1
    obtain ⟨a2, c2, rfl, -⟩ := hP.2.1
    obtain ⟨a3, c3, rfl, -⟩ := hP.2.2
    injection hX2 with hXa hXe
    subst hXa
    subst hXe
    have cI := (bI.out.only hO2 (by simp)).cell 6
    have cE := (bE.out.only hO2 (by simp)).cell 6
    have lI := (bI.out.only hO2 (by simp)).lt
    have lE := (bE.out.only hO2 (by simp)).lt
    have HO2 := Lib.hid (HO1.out.plus hO2)
    clear hX hP hO2 cO fA lO
    go_wp2
    go_ret
    exact ⟨rfl, HO2.out.alloc _⟩
  · have cO := (HB.out.2.2.2.2.2.2.2.2.2.1).cell 7
    have lO := (HB.out.2.2.2.2.2.2.2.2.2.1).lt
    have fA : FilAt w1 (some ⟨w0.heap.size + 7, 0, none⟩) knZ7 := FilAt.one (HB.out.2.2.2.2.2.2.2.1)
    have bI := Lib.hid (HB.out.2.2.2.2.2.2.2.2.2.2.1)
    have bE := Lib.hid (HB.out.2.2.2.2.2.2.2.2.2.2.2)
    clear HB
    go_wp2_with fail
    refine (join_any w1 _ 1 knZ7 fA (by decide) (by decide) HG1.out).mono ?_
    rintro e w2 ⟨X, hX, vv, vl, vf, rfl, hP, hO2⟩
    have hX2 := knX7 hX
    obtain ⟨P, at_, er⟩ := X
    obtain ⟨a1, c1, rfl, -⟩ := hP.1
    obtain ⟨a2, c2, rfl, -⟩ := hP.2.1
    obtain ⟨a3, c3, rfl, -⟩ := hP.2.2
    injection hX2 with hXa hXe
    subst hXa
    subst hXe
    have cI := (bI.out.only hO2 (by simp)).cell 7
    have cE := (bE.out.only hO2 (by simp)).cell 7
    have lI := (bI.out.only hO2 (by simp)).lt
    have lE := (bE.out.only hO2 (by simp)).lt
    have HO2 := Lib.hid (HO1.out.plus hO2)
    clear hX hP hO2 cO fA lO
    go_wp2
    go_ret
    exact ⟨rfl, HO2.out.alloc _⟩
  · have cO := (HB.out.2.2.2.2.2.2.2.2.2.1).cell 8
    have lO := (HB.out.2.2.2.2.2.2.2.2.2.1).lt
    have fA : FilAt w1 (some ⟨w0.heap.size + 8, 0, none⟩) knZ8 := FilAt.one (HB.out.2.2.2.2.2.2.2.2.1)
    have bI := Lib.hid (HB.out.2.2.2.2.2.2.2.2.2.2.1)
    have bE := Lib.hid (HB.out.2.2.2.2.2.2.2.2.2.2.2)
    clear HB
    go_wp2_with fail
    refine (join_any w1 _ 1 knZ8 fA (by decide) (by decide) HG1.out).mono ?_
    rintro e w2 ⟨X, hX, vv, vl, vf, rfl, hP, hO2⟩
    have hX2 := knX8 hX
    obtain ⟨P, at_, er⟩ := X
    obtain ⟨a1, c1, rfl, -⟩ := hP.1
    obtain ⟨a2, c2, rfl, -⟩ := hP.2.1
    obtain ⟨a3, c3, rfl, -⟩ := hP.2.2
    injection hX2 with hXa hXe
    subst hXa
    subst hXe
    have cI := (bI.out.only hO2 (by simp)).cell 8
    have cE := (bE.out.only hO2 (by simp)).cell 8
    have lI := (bI.out.only hO2 (by simp)).lt
    have lE := (bE.out.only hO2 (by simp)).lt
    have HO2 := Lib.hid (HO1.out.plus hO2)
    clear hX hP hO2 cO fA lO
    go_wp2
    go_ret
    exact ⟨rfl, HO2.out.alloc _⟩

end Go.Proofs.YtildkedplmjdaaaDoor
