/-
  The laws' helper Lay: raw Parts, laid on both disks.
-/
import Derived.Test.YtijhllgogmmgfaaWalAC
namespace Go.Proofs.Ytijhllgogmmgfaa
set_option maxRecDepth 100000
set_option linter.unusedVariables false
open Go.RowKit

theorem live_write {D : DS} {n x : Nat} {l : List UInt8} (hn : D.n = n) (hd : D.dead = false) (hf : D.fuse = -1) (hx : x < n) (hl : l.length = 64) : (D.writeR (x : Nat) l).2 = 0 ∧ (D.writeR (x : Nat) l).1.n = n ∧ (D.writeR (x : Nat) l).1.dead = false ∧ (D.writeR (x : Nat) l).1.fuse = -1 := by
  unfold DS.writeR
  rw [if_neg (by simp [hd]), if_neg (by simp [badW, hasB]; omega), if_neg (by rw [hf]; omega)]
  exact ⟨rfl, hn, hd, by show burnt D.fuse = -1; rw [hf]; rfl⟩
theorem live_flush {D : DS} {n : Nat} (hn : D.n = n) (hd : D.dead = false) (hf : D.fuse = -1) : D.flushR.2 = 0 ∧ D.flushR.1.n = n ∧ D.flushR.1.dead = false ∧ D.flushR.1.fuse = -1 := by
  unfold DS.flushR
  rw [if_neg (by simp [hd]), if_neg (by rw [hf]; omega)]
  exact ⟨rfl, hn, hd, by show burnt D.fuse = -1; rw [hf]; rfl⟩

/-- A byte of bytes of one's own, put. -/
theorem own_put {w : World} {base g cap m : Nat} {l : List UInt8} (h : OwnB w base (.slice (some ⟨g, 0, none⟩) l.length cap) l) (hm : m < l.length) :
    (∃ x : UInt8, w.cell? ⟨g, m, none⟩ = some (.int .u8 x.toNat)) ∧ w.frozen? ⟨g, m, none⟩ = false ∧ ∀ y : Int, 0 ≤ y → y < 256 → Src (w.setCell ⟨g, m, none⟩ (.int .u8 y)) (some ⟨g, 0, none⟩) l.length (l.set m (UInt8.ofNat y.toNat)) := by
  obtain ⟨a, c', e, hs, hb, -⟩ := h.shape
  injection e with e1 e2 e3
  subst e1
  obtain ⟨b, o, e, hlt, hr⟩ := hs.2 (by omega)
  injection e with e; injection e with e1 e2
  subst e1 e2
  rcases h.2 with ⟨h1, _⟩ | ⟨g', cap', cur, e', hbs, hgg, _, _, hsz, htake⟩
  · cases h1
  · injection e' with e1 e2 e3
    injection e1 with e1; injection e1 with e1 _
    subst e1
    have hblk : IsBlk w g (.cells cur 5) := hgg
    refine ⟨⟨l[m], by have := Src.cell hr m hm; simpa using this⟩, hblk.notFrozen m, fun y h0 h1 => ⟨by simp, fun _ => ⟨g, 0, rfl, (IsBlk.put hblk m _).lt, ?_⟩⟩⟩
    intro j u hu
    rw [bv_set] at hu
    have hp := IsBlk.put hblk m (.int .u8 y)
    have hy : ((UInt8.ofNat y.toNat).toNat : Int) = y := by simp; omega
    have hcs : m < cur.size := by rw [hsz]; omega
    by_cases ej : j = m
    · subst ej
      rw [List.getElem?_set] at hu
      simp [length_bv, hm] at hu
      have := hp.cell j
      simp only [Nat.zero_add]
      rw [this, ← hu]
      simp [hcs]
      omega
    · rw [List.getElem?_set_ne (fun e => ej e.symm)] at hu
      have h1 := hr j u hu
      have h2 := hp.cell j
      have h3 := hblk.cell j
      simp only [Nat.zero_add] at h1 ⊢
      rw [h2, ← h1, h3]
      simp [Array.getElem?_setIfInBounds]
      intro e
      exact absurd e.symm ej

theorem within3 (w : World) (x n : Int) (hn0 : 0 < n) (hn : n < 1000000) :
    Calls Try.prog 20 #[.int .i64 x, .int .i64 n] w fun e w' => e = .returned (.int .i64 (x % n)) ∧ w = w' := by
  obtain ⟨m, rfl⟩ := Int.eq_ofNat_of_zero_le (show 0 ≤ n by omega)
  exact within_nat w x m (by omega) (by omega)

def LayTo (w0 : World) (p bl bm B n : Nat) (R : RefP) (e : Ending) (w' : World) : Prop :=
  e = .returned (.bool true) ∧ ∃ E : DS, PairAt w' p bl bm B R E 5000 ∧ E.n = n ∧ E.dead = false ∧ E.fuse = -1 ∧ Only ([p, bl, bm] ++ R.own) w0 w'

set_option maxHeartbeats 8000000 in
theorem laying_any (w0 w : World) (p bl bm B : Nat) (R : RefP) (D : DS) (K : Int) (a : Option Addr) (len cap : Nat) (L : List CallR) (h : PairAt w p bl bm B R D K) (hK : K ≤ 1000) (hn : D.n ≤ 32) (hn8 : 8 ≤ D.n) (hdd : D.dead = false) (hdf : D.fuse = -1) (hc : CallsAt w0 a len L) (hO0 : Only ([p, bl, bm] ++ R.own) w0 w) (hge : ∀ k ∈ [p, bl, bm] ++ R.own, w0.heap.size ≤ k) (hf : ∀ (i : Nat) (c : CallR), L[i]? = some c → c.dlen ≤ 100) :
    Calls Try.prog 7 #[.pointer (some ⟨p, 0, none⟩), .pointer (some ⟨R.q, 0, none⟩), .slice a len cap] w (LayTo w0 p bl bm B D.n R) := by
  have hml := hc.2.1
  unfold maxLen at hml
  have H := Lib.hid h
  have Hc := Lib.hid hc
  have Hf := Lib.hid hf
  have HO0 := Lib.hid hO0
  have Hge := Lib.hid hge
  have Hdd := Lib.hid hdd
  have Hdf := Lib.hid hdf
  clear h hc hf hO0 hge hdd hdf
  go_enter Try.func7, Try.ntmps7
  go_wp2_with fail
  go_loopw [7] (fun i wr => ∃ (k : Nat) (E : DS), k ≤ 30 ∧ k ≤ len ∧ i = .int .i64 k ∧ PairAt wr p bl bm B R E (K + 40 * k) ∧ E.n = D.n ∧ E.dead = false ∧ E.fuse = -1 ∧ Only ([p, bl, bm] ++ R.own) w0 wr) (fun i _ => 30 - (intOf i).toNat)
  case atStart => exact ⟨0, D, by omega, by omega, rfl, by simpa using H.out, rfl, Hdd.out, Hdf.out, HO0.out⟩
  case round =>
    obtain ⟨k, E, hk30, hkl, rfl, hP, hEn, hEd, hEf, hO⟩ := hrel
    have HP := Lib.hid hP
    have HEn := Lib.hid hEn
    have HEd := Lib.hid hEd
    have HEf := Lib.hid hEf
    have HO := Lib.hid hO
    clear hP hEd hEf hO
    by_cases hlt : k < len
    · have hlti : (k : Int) < (len : Int) := by omega
      by_cases h30 : k < 30
      · have h30i : (k : Int) < 30 := by omega
        obtain ⟨b, o, c, rfl, hLc, hca, hbl, hdl⟩ := Hc.out.at_ HO.out Hge.out hlt
        have h100 := Hf.out k c hLc
        have hc0 := hca.c0
        have hc1 := hca.c1
        have hc2 := hca.c2
        have hc3 := hca.c3
        have hsrc := hca.src
        obtain ⟨kind, at0, n0, da, dlen, dcap, bytes⟩ := c
        simp only at h100 hc0 hc1 hc2 hc3 hsrc hdl
        obtain rfl := hsrc.1
        have Hsrc := Lib.hid hsrc
        have Hdl := Lib.hid hdl
        have hbwr : b < wr.heap.size := Nat.lt_of_lt_of_le hbl HO.out.size
        clear hca hsrc hdl hLc
        have hm0 := Int.emod_nonneg at0 (show (D.n : Int) ≠ 0 by omega)
        have hm1 := Int.emod_lt_of_pos at0 (show (0 : Int) < (D.n : Int) by omega)
        go_wp2_with fail
        go_region_held3 (fun W => W.cell? ⟨b, o + k * 4 + 1, none⟩ = some (.int .i64 at0)) (first | assumption | go_keep)
          (first
            | (go_at_call 22; refine (psize _ B R E (HP.out.ref.more (by repeat (first | exact Only.refl _ _ | refine Only.drew ?_)))).mono ?_; rintro e w' ⟨rfl, rfl⟩; rw [HEn.out])
            | (go_at_call 20; refine (within3 _ _ _ ?_ ?_).mono ?_; omega; omega; rintro e w' ⟨rfl, rfl⟩))
        have d0 : wr.drew.cell? ⟨b, o + k * 4, none⟩ = some (.int .i64 kind) := hc0
        have d1 : wr.drew.cell? ⟨b, o + k * 4 + 1, none⟩ = some (.int .i64 at0) := hc1
        have d2 : wr.drew.cell? ⟨b, o + k * 4 + 2, none⟩ = some (.int .i64 n0) := hc2
        have d3 : wr.drew.cell? ⟨b, o + k * 4 + 3, none⟩ = some (.slice da bytes.length dcap) := hc3
        have HP2 := Lib.hid (HP.out.more (Only.refl [] wr).drew)
        have HO2 := Lib.hid (HO.out.drew)
        have Hs2 := Lib.hid (Hsrc.out.more (Only.refl [] wr).drew)
        have hbw2 : b < wr.drew.heap.size := hbwr
        clear hc0 hc1 hc2 hc3 HP HO Hsrc hbwr
        obtain ⟨X0, hX0⟩ := Int.eq_ofNat_of_zero_le hm0
        have hX0n : X0 < D.n := by omega
        rw [hX0]
        clear hm0 hm1 hX0
        rename_i hheld
        clear hheld
        generalize wr.drew = w2 at *
        go_upto_if 39 with (go_at_call 20; refine (within3 _ _ _ ?_ ?_).mono ?_; omega; omega; rintro e w' ⟨rfl, rfl⟩)
        go_cut [8] (fun s8 wx => ∃ X : Nat, s8 = .int .i64 X ∧ X < D.n ∧ w2 = wx)
        case first =>
          by_cases h2 : (at0 % 2 == 0) = true
          · go_wp2_with (first
              | (go_at_call 22; refine (psize _ B R E HP2.out.ref).mono ?_; rintro e w' ⟨rfl, rfl⟩; rw [HEn.out])
              | (go_at_call 20; refine (within3 _ _ _ ?_ ?_).mono ?_; omega; omega; rintro e w' ⟨rfl, rfl⟩))
            go_meet
            generalize wrap64 (at0.tdiv 2) = y
            have y0 := Int.emod_nonneg y (show (2 : Int) ≠ 0 by omega)
            have y1 := Int.emod_lt_of_pos y (show (0 : Int) < 2 by omega)
            have hz : 0 ≤ y % 2 * ((D.n : Int) / 2) ∧ y % 2 * ((D.n : Int) / 2) < D.n := by
              rcases (show y % 2 = 0 ∨ y % 2 = 1 by omega) with e | e <;> rw [e] <;> omega
            generalize y % 2 * ((D.n : Int) / 2) = z at *
            obtain ⟨Z, rfl⟩ := Int.eq_ofNat_of_zero_le hz.1
            exact ⟨Z, by rw [show wrap64 (Z : Int) = (Z : Int) from IntWalk.wrap64_in _ (by omega)], by omega, rfl⟩
          · go_wp2_with fail
            go_meet
            exact ⟨X0, rfl, hX0n, rfl⟩
        case rest =>
          obtain ⟨X, rfl, hX, rfl⟩ := hcut
          have n3 := Int.emod_nonneg n0 (show (3 : Int) ≠ 0 by omega)
          have n4 := Int.emod_lt_of_pos n0 (show (0 : Int) < 3 by omega)
          have e2 : IntKind.i64.wrap (1 + n0 % 3) = 1 + n0 % 3 := IntWalk.i64_in _ (by omega)
          have hN2 : partsN bytes.length ≤ 255 := by unfold partsN; omega
          have hN0 := partsN_pos bytes.length
          go_upto_region 7 with fail
          go_cut [9, 10] (fun s9 s10 wx => ∃ gl cp g r, s9 = .slice (some ⟨gl, 0, none⟩) (partsN bytes.length) cp ∧ s10 = .int .i64 0 ∧ PartsN wx w2.heap.size gl (cutP g r bytes) ∧ mayB g r = true ∧ Only [] w2 wx)
          case first =>
            go_region_held3 (fun W => W.cell? ⟨b, o + k * 4 + 2, none⟩ = some (.int .i64 n0) ∧ W.cell? ⟨b, o + k * 4 + 3, none⟩ = some (.slice da bytes.length dcap)) (first | exact ⟨d2, d3⟩ | assumption)
              (first
                | (go_at_call 23
                   refine (refcut_any _ _ _ da dcap bytes (Hs2.out.more (Only.refl [] w2).drew) ?hmay (by omega)).mono ?_
                   case hmay => exact mayB_iff.2 ⟨by omega, by omega, by omega, by omega⟩
                   rintro e w1 hct
                   obtain ⟨gl, cp, rfl, hp1, hO1⟩ := hct.shape hN2 rfl
                   have hO1' := ((Only.refl [] w2).drew).plus hO1
                   have hS1 : w1.cell? ⟨b, o + k * 4 + 2, none⟩ = some (.int .i64 n0) ∧ w1.cell? ⟨b, o + k * 4 + 3, none⟩ = some (.slice da bytes.length dcap) := ⟨(hO1'.cell (p := ⟨b, _, none⟩) hbw2 (by simp)).trans d2, (hO1'.cell (p := ⟨b, _, none⟩) hbw2 (by simp)).trans d3⟩)
                | (go_at_call 20; refine (within3 _ _ _ ?_ ?_).mono ?_; omega; omega; rintro e w' ⟨rfl, rfl⟩))
            all_goals
              go_wp2_with fail
              go_meet
              exact ⟨gl, cp, _, _, rfl, rfl, hp1, mayB_iff.2 ⟨by omega, by omega, by omega, by omega⟩, hO1'⟩
          case rest =>
            obtain ⟨gl, cp, g, r, rfl, rfl, hp1, hm, hO1⟩ := hcut
            rename World => w3
            have HP3 := Lib.hid (HP2.out.more hO1)
            have HO3 := Lib.hid (HO2.out.andMore hO1)
            have f0 := (hO1.cell (p := ⟨b, _, none⟩) hbw2 (by simp)).trans d0
            have f2 := (hO1.cell (p := ⟨b, _, none⟩) hbw2 (by simp)).trans d2
            have hbw3 : b < w3.heap.size := Nat.lt_of_lt_of_le hbw2 hO1.size
            have HN : Hid (∀ k ∈ [p, bl, bm] ++ R.own, k < w2.heap.size) := Lib.hid (fun k hk => by
              rcases List.mem_append.1 hk with h1 | h1
              · have q1 := HP2.out.disk.plt; have q2 := HP2.out.disk.blt; have q3 := HP2.out.disk.mlt
                simp at h1; omega
              · exact own_lt HP2.out.ref k h1)
            have Hp1 := Lib.hid hp1
            have Hcut : Hid (∀ j : Nat, j < partsN bytes.length → okB ⟨g, r, (j : Int), (partsN bytes.length : Int), pieceB (wholeB bytes) j⟩ = true) := Lib.hid (fun j hj => cut_okB (b := bytes) hm hN2 hj)
            have Hget : Hid (∀ j : Nat, j < partsN bytes.length → (cutP g r bytes)[j]? = some ⟨g, r, (j : Int), (partsN bytes.length : Int), pieceB (wholeB bytes) j⟩) := Lib.hid (fun j hj => by
              simp only [cutP, List.getElem?_map, List.getElem?_range hj, Option.map_some])
            have hNb : ∀ S, Only ([p, bl, bm] ++ R.own) w3 S → S.cell? ⟨b, o + k * 4, none⟩ = some (.int .i64 kind) ∧ S.cell? ⟨b, o + k * 4 + 2, none⟩ = some (.int .i64 n0) := fun S hS => by
              have hnb : b ∉ [p, bl, bm] ++ R.own := fun hm => by have := Hge.out b hm; omega
              exact ⟨(hS.cell (p := ⟨b, _, none⟩) hbw3 hnb).trans f0, (hS.cell (p := ⟨b, _, none⟩) hbw3 hnb).trans f2⟩
            have HNb := Lib.hid hNb
            clear d0 d1 d2 d3 hp1 hm hO1 e2 n3 n4 Hs2 HP2 HO2 hNb f2
            generalize partsN bytes.length = N at *
            go_wp2_with (go_at_call 20; refine (within_to _ _ _ ?_ ?_).mono ?_; omega; omega; rintro e w' ⟨kk, rfl, hkk, -, rfl⟩)
            have hkk' : kk < N := by omega
            clear f0
            go_loopw [12] (fun jv wj => ∃ (j : Nat) (F : DS), j ≤ D.n ∧ jv = .int .i64 j ∧ PairAt wj p bl bm B R F (K + 40 * k + j) ∧ F.n = D.n ∧ F.dead = false ∧ F.fuse = -1 ∧ Only ([p, bl, bm] ++ R.own) w3 wj) (fun jv _ => D.n - (intOf jv).toNat)
            case atStart => exact ⟨0, E, by omega, rfl, by simpa using HP3.out, HEn.out, HEd.out, HEf.out, Only.refl _ _⟩
            case round =>
              obtain ⟨j, F, hj, rfl, hPj, hFn, hFd, hFf, hOj⟩ := hrel
              rename World => wj
              have HPj := Lib.hid hPj
              have HFn := Lib.hid hFn
              have HFd := Lib.hid hFd
              have HFf := Lib.hid hFf
              have HOj := Lib.hid hOj
              clear hPj hFd hFf hOj
              by_cases hjk : j ≤ kk
              · have hjki : (j : Int) ≤ (kk : Int) := by omega
                by_cases hjn : X + j < D.n
                · have hjni : (X : Int) + (j : Int) < (D.n : Int) := by omega
                  obtain ⟨hPg, hPl, hPa⟩ := Hp1.out.keep HOj.out HN.out
                  obtain ⟨gi, ci, hr, hsrc, hgi⟩ := hPa j _ (Hget.out j (by omega))
                  simp only at hr hsrc
                  have hokj := Hcut.out j (by omega)
                  have hl52 : (pieceB (wholeB bytes) j).length = 52 := (okB_iff.1 hokj).2.2.2.2.2
                  rw [hl52] at hr hsrc
                  have k0 : wj.cell? ⟨gl, j * 5, none⟩ = some (.int .i64 g) := hr 0 _ rfl
                  have k1 : wj.cell? ⟨gl, j * 5 + 1, none⟩ = some (.int .i64 r) := hr 1 _ rfl
                  have k2 : wj.cell? ⟨gl, j * 5 + 2, none⟩ = some (.int .i64 j) := hr 2 _ rfl
                  have k3 : wj.cell? ⟨gl, j * 5 + 3, none⟩ = some (.int .i64 N) := hr 3 _ rfl
                  have k4 : wj.cell? ⟨gl, j * 5 + 4, none⟩ = some (.slice (some ⟨gi, 0, none⟩) 52 ci) := hr 4 _ rfl
                  have Hsrc := Lib.hid hsrc
                  have hblen : Hid ((bytesB ⟨g, r, j, N, pieceB (wholeB bytes) j⟩).length = 64) := Lib.hid (length_bytesB hl52)
                  clear hsrc hr hPa hl52
                  go_wp2_with (go_at_call 22; refine (psize _ B R F HPj.out.ref).mono ?_; rintro e w' ⟨rfl, rfl⟩; rw [HFn.out])
                  refine (refbytes_okI _ g r j N _ 52 ci _ hokj Hsrc.out).mono ?_
                  rintro e w4 ⟨v1, rfl, hb4, hO4⟩
                  obtain ⟨q0, q2⟩ := HNb.out w4 ((HOj.out).andMore hO4)
                  have HP4 := Lib.hid (HPj.out.more hO4)
                  obtain ⟨a4, c4, rfl, hs4, hn4, -⟩ := hb4.shape
                  have hlt4 : wj.heap.size ≤ w4.heap.size := hO4.size
                  generalize hXX : bytesB ⟨g, r, j, N, pieceB (wholeB bytes) j⟩ = XX at *
                  have hl64 := hblen.out
                  obtain ⟨b4, o4, rfl, hb4lt, hr4⟩ := hs4.2 (by omega)
                  obtain ⟨hg4, -, rfl⟩ := hn4 b4 o4 rfl
                  rw [hl64] at hb4 hs4 ⊢
                  have Hl64 := Lib.hid hl64
                  have Hb4 := Lib.hid hb4
                  have Hs4 := Lib.hid hs4
                  have HO4 := Lib.hid hO4
                  clear hb4 hs4 hr4 hn4 hO4 hXX k0 k1 k2 k3 k4 Hsrc hokj hl64
                  go_upto_if 109 with (go_at_call 20; refine (within3 _ _ _ ?_ ?_).mono ?_; omega; omega; rintro e w' ⟨rfl, rfl⟩)
                  go_cut [13] (fun s13 wx => s13 = .slice (some ⟨b4, 0, none⟩) 64 c4 ∧ ∃ l : List UInt8, l.length = 64 ∧ Src wx (some ⟨b4, 0, none⟩) 64 l ∧ Only [] wj wx)
                  case first =>
                    by_cases h11 : (kind % 11 == 0) = true
                    · go_wp2_with fail
                      refine (within_to _ _ _ ?_ ?_).mono ?_
                      omega
                      omega
                      rintro e w' ⟨m, rfl, hm64, -, rfl⟩
                      obtain ⟨⟨x, hx⟩, hfz, hput⟩ := own_put (w := w4) (base := wj.heap.size) (g := b4) (cap := c4) (l := XX) (m := m) (by rw [Hl64.out]; exact Hb4.out) (by rw [Hl64.out]; omega)
                      rw [Hl64.out] at hput
                      have Hput := Lib.hid hput
                      clear hput
                      have hx255 := x.toNat_lt
                      go_wp2_with fail
                      go_meet
                      exact ⟨rfl, _, by rw [List.length_set]; exact Hl64.out, Hput.out _ (by omega) (by omega), (HO4.out.trans (only_put (p := b4) (i := m) w4 _)).into (fun j hj => .inr (by simp at hj; omega))⟩
                    · go_wp2_with fail
                      go_meet
                      exact ⟨rfl, XX, Hl64.out, Hs4.out, HO4.out⟩
                  case rest =>
                    obtain ⟨rfl, l, hl, hs5, hO5⟩ := hcut
                    rename World => w5
                    have HP5 := Lib.hid (HPj.out.more hO5)
                    have Hs5 := Lib.hid hs5
                    have HO5 := Lib.hid hO5
                    have hlw := live_write (x := X + j) (l := l) HFn.out HFd.out HFf.out hjn hl
                    have hcw := writeR_calm HPj.out.calm ((X + j : Nat) : Int) l
                    clear hs5 hO5 q0 q2 HP4 Hb4 Hs4 HO4
                    go_wp2_with fail
                    have ex : (X : Int) + (j : Int) = ((X + j : Nat) : Int) := by omega
                    rw [ex]
                    clear ex
                    refine (write_any _ p bl bm F _ _ 64 c4 l _ HP5.out.disk HP5.out.calm (by omega) Hs5.out ?hne).mono ?_
                    case hne => intro _ b' o' e; injection e with e; injection e with e1 e2; have := HPj.out.disk.plt; omega
                    rintro e w6 ⟨rfl, hD6, hO6⟩
                    rw [hlw.1]
                    have HH6 := Lib.hid (HP5.out.half hD6 hO6)
                    have HO6 := Lib.hid hO6
                    have Hs6 : Hid (Src w6 (some ⟨b4, 0, none⟩) 64 l) := Lib.hid (Hs5.out.keep hO6 (fun _ b' o' e => by
                      injection e with e; injection e with e1 e2; have h1 := HPj.out.disk.plt; have h2 := HPj.out.disk.blt; have h3 := HPj.out.disk.mlt; simp; omega))
                    clear hD6 hO6
                    go_wp2_with fail
                    have ex : (X : Int) + (j : Int) = ((X + j : Nat) : Int) := by omega
                    rw [ex]
                    clear ex
                    refine (rwrite_any _ B R F _ _ 64 c4 l _ HH6.out.ref HP5.out.calm (by omega) Hs6.out ?hne).mono ?_
                    case hne => intro _ b' o' e hm; injection e with e; injection e with e1 e2; have := own_lt HPj.out.ref b' hm; omega
                    rintro e w7 ⟨rfl, hR7, hO7⟩
                    rw [hlw.1]
                    have HP7 := Lib.hid (HH6.out.whole hR7 hO7 hcw HP5.out.pB HP5.out.lB HP5.out.mB)
                    have HO7 := Lib.hid hO7
                    clear hR7 hO7
                    go_wp2
                    go_roundw
                    case rel =>
                      refine ⟨j + 1, _, by omega, by go_num, ⟨HP7.out.disk, HP7.out.ref, calm_le HP7.out.calm (by push_cast; omega), HP7.out.pB, HP7.out.lB, HP7.out.mB⟩, hlw.2.1, hlw.2.2.1, hlw.2.2.2, ?_⟩
                      exact (((HOj.out.andMore HO5.out).trans HO6.out).trans HO7.out).into (fun j hj => .inl (by simpa [or_assoc, or_comm, or_left_comm] using hj))
                    case measure => simp [intOf]; omega
                · have hjni : ¬ (X : Int) + (j : Int) < (D.n : Int) := by omega
                  go_wp2_with (go_at_call 22; refine (psize _ B R F HPj.out.ref).mono ?_; rintro e w' ⟨rfl, rfl⟩; rw [HFn.out])
                  go_roundw
                  case rel => exact ⟨k + 1, F, by omega, by omega, by go_num, ⟨HPj.out.disk, HPj.out.ref, calm_le HPj.out.calm (by push_cast; omega), HPj.out.pB, HPj.out.lB, HPj.out.mB⟩, HFn.out, HFd.out, HFf.out, (HO3.out.trans HOj.out).into (fun j hj => .inl (by simpa [or_assoc, or_comm, or_left_comm] using hj))⟩
                  case measure => simp [intOf]; omega
              · have hjki : ¬ (j : Int) ≤ (kk : Int) := by omega
                go_wp2
                go_roundw
                case rel => exact ⟨k + 1, F, by omega, by omega, by go_num, ⟨HPj.out.disk, HPj.out.ref, calm_le HPj.out.calm (by push_cast; omega), HPj.out.pB, HPj.out.lB, HPj.out.mB⟩, HFn.out, HFd.out, HFf.out, (HO3.out.trans HOj.out).into (fun j hj => .inl (by simpa [or_assoc, or_comm, or_left_comm] using hj))⟩
                case measure => simp [intOf]; omega
      · have h30i : ¬ (k : Int) < 30 := by omega
        go_wp2_with fail
        have hf0 := live_flush HEn.out HEd.out HEf.out
        refine (flush_any _ p bl bm E _ HP.out.disk HP.out.calm (by omega)).mono ?_
        rintro e w4 ⟨rfl, hD4, hO4⟩
        rw [hf0.1]
        have HH4 := Lib.hid (HP.out.half hD4 hO4)
        have HO4 := Lib.hid hO4
        clear hD4 hO4
        go_wp2_with fail
        refine (rflush_any _ B R E _ HH4.out.ref HP.out.calm (by omega)).mono ?_
        rintro e w5 ⟨rfl, hR5, hO5⟩
        rw [hf0.1]
        have HP5 := Lib.hid (HH4.out.whole hR5 hO5 (flushR_calm HP.out.calm) HP.out.pB HP.out.lB HP.out.mB)
        have HO5 := Lib.hid hO5
        clear hR5 hO5
        go_wp2
        go_ret
        refine ⟨rfl, _, ⟨HP5.out.disk, HP5.out.ref, calm_le HP5.out.calm (by omega), HP5.out.pB, HP5.out.lB, HP5.out.mB⟩, hf0.2.1, hf0.2.2.1, hf0.2.2.2, ?_⟩
        exact ((HO.out.trans HO4.out).trans HO5.out).into (fun j hj => .inl (by simpa [or_assoc, or_comm, or_left_comm] using hj))
    · have hge2 : ¬ (k : Int) < (len : Int) := by omega
      go_wp2_with fail
      have hf0 := live_flush HEn.out HEd.out HEf.out
      refine (flush_any _ p bl bm E _ HP.out.disk HP.out.calm (by omega)).mono ?_
      rintro e w4 ⟨rfl, hD4, hO4⟩
      rw [hf0.1]
      have HH4 := Lib.hid (HP.out.half hD4 hO4)
      have HO4 := Lib.hid hO4
      clear hD4 hO4
      go_wp2_with fail
      refine (rflush_any _ B R E _ HH4.out.ref HP.out.calm (by omega)).mono ?_
      rintro e w5 ⟨rfl, hR5, hO5⟩
      rw [hf0.1]
      have HP5 := Lib.hid (HH4.out.whole hR5 hO5 (flushR_calm HP.out.calm) HP.out.pB HP.out.lB HP.out.mB)
      have HO5 := Lib.hid hO5
      clear hR5 hO5
      go_wp2
      go_ret
      refine ⟨rfl, _, ⟨HP5.out.disk, HP5.out.ref, calm_le HP5.out.calm (by omega), HP5.out.pB, HP5.out.lB, HP5.out.mB⟩, hf0.2.1, hf0.2.2.1, hf0.2.2.2, ?_⟩
      exact ((HO.out.trans HO4.out).trans HO5.out).into (fun j hj => .inl (by simpa [or_assoc, or_comm, or_left_comm] using hj))

end Go.Proofs.Ytijhllgogmmgfaa
