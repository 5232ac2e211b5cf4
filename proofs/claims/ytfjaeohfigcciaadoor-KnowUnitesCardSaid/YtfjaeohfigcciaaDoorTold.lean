/- The contract of the reference's told: the runs of a set that is that of some runs, without one pair. -/
import Derived.Test.YtfjaeohfigcciaaDoorPut
import Derived.Test.YtfjaeohfigcciaaDoorToldMath
import Derived.Test.YtfjaeohfigcciaaDoorRefHas
import Derived.Test.YtfjaeohfigcciaaDoorDrop
namespace Go.Proofs.YtfjaeohfigcciaaDoor
open Go.RowKit Go.Sort

/-- runs and 0, or none and a code, come back -/
def RefPost (w : World) (res : Except Int (List Rn)) (e : Ending) (w' : World) : Prop :=
  match res with
  | .ok l => ∃ v, e = .returned (.tuple #[v, .int .i64 0]) ∧ Sl w' w'.heap.size v l ∧ Below w.heap.size w w'
  | .error c => e = .returned (.tuple #[.slice none 0 0, .int .i64 c]) ∧ Below w.heap.size w w'

/-- where the loop over the runs stands: the marks so far -/
def MarkRel (zs : List Rn) (r : Nat) (wr : World) (k : Nat) (s : Value) (wx : World) : Prop :=
  ∃ ms, Strict ms ∧ (∀ x, x ∈ ms ↔ IsMark (zs.take k) 0 0 r x) ∧ ms.length ≤ 2 * k ∧ (∀ m ∈ ms, 0 ≤ m ∧ m ≤ 4294967296) ∧ OwnM wx wr.heap.size s ms ∧ Below wr.heap.size wr wx
theorem MarkRel.start (zs : List Rn) (r : Nat) (wr : World) : MarkRel zs r wr 0 (.slice none 0 0) wr :=
  ⟨[], List.Pairwise.nil, fun x => by simp [IsMark], by simp, by simp, OwnM.nil _ _, Below.refl _ _⟩
theorem isMark_take {zs : List Rn} {k : Nat} {y : Rn} {r x : Int} (h : zs[k]? = some y) : IsMark (zs.take (k + 1)) 0 0 r x ↔ IsMark (zs.take k) 0 0 r x ∨ (y.r = r ∧ (x = y.lo ∨ x = y.hi + 1)) := by
  obtain ⟨hk, rfl⟩ := List.getElem?_eq_some_iff.1 h
  unfold IsMark
  simp only [List.take_succ_eq_append_getElem hk, List.mem_append, List.mem_singleton]
  constructor
  · rintro (⟨z, hz | rfl, h1, h2⟩ | ⟨⟨_, h3⟩, _⟩)
    · exact .inl (.inl ⟨z, hz, h1, h2⟩)
    · exact .inr ⟨h1, h2⟩
    · omega
  · rintro ((⟨z, hz, h1, h2⟩ | ⟨⟨_, h3⟩, _⟩) | ⟨h1, h2⟩)
    · exact .inl ⟨z, .inl hz, h1, h2⟩
    · omega
    · exact .inl ⟨_, .inr rfl, h1, h2⟩
theorem MarkRel.skip {zs : List Rn} {r : Nat} {wr wx : World} {k : Nat} {s : Value} {y : Rn} (h : MarkRel zs r wr k s wx) (hy : zs[k]? = some y) (hr : y.r ≠ r) : MarkRel zs r wr (k + 1) s wx := by
  obtain ⟨ms, h1, h2, h3, h4⟩ := h
  refine ⟨ms, h1, fun x => ?_, by omega, h4⟩
  rw [h2, isMark_take hy]
  exact ⟨.inl, fun h => h.elim id (fun h => absurd h.1 hr)⟩
theorem MarkRel.two {zs : List Rn} {r : Nat} {wr wx : World} {k : Nat} {s : Value} {y : Rn} {ms o1 o2 : List Int} (hs : Strict ms) (hm : ∀ x, x ∈ ms ↔ IsMark (zs.take k) 0 0 r x) (hl : ms.length ≤ 2 * k)
    (hy : zs[k]? = some y) (hr : y.r = r) (p1 : PutOut ms o1 y.lo) (p2 : PutOut o1 o2 (y.hi + 1)) (hok : ∀ m ∈ o2, 0 ≤ m ∧ m ≤ 4294967296) (ho : OwnM wx wr.heap.size s o2) (hb : Below wr.heap.size wr wx) : MarkRel zs r wr (k + 1) s wx := by
  refine ⟨o2, p2.1 (p1.1 hs), fun x => ?_, by have := p1.2.2; have := p2.2.2; omega, hok, ho, hb⟩
  rw [p2.2.1, p1.2.1, hm, isMark_take hy]
  constructor
  · rintro (h | h | h)
    · exact .inr ⟨hr, .inr h⟩
    · exact .inr ⟨hr, .inl h⟩
    · exact .inl h
  · rintro (h | ⟨_, h | h⟩)
    · exact .inr (.inr h)
    · exact .inr (.inl h)
    · exact .inl h

/-- where the loop over the replicas stands -/
def RepRel (zs : List Rn) (p wo : Int) (w : World) (r : Nat) (s : Value) (wr : World) : Prop :=
  ∃ P, Told zs p wo r P ∧ (∀ x ∈ P, x.ok) ∧ P.length ≤ r * 500 ∧ DropRel w P s wr

/-- the marks of a replica, ready to be scanned -/
def Ready (zs : List Rn) (p wo : Int) (r : Nat) (L : Nat) (s : Value) (ms : List Int) (wx : World) : Prop :=
  Marked zs p wo r ms ∧ ms.length ≤ 450 ∧ (∀ m ∈ ms, 1 ≤ m ∧ m ≤ 4294967296) ∧ OwnM wx L s ms

theorem isMark_pos {zs : List Rn} {p wo r x : Int} (hz : ∀ y ∈ zs, rrB y = true) (h : IsMark zs p wo r x) : 1 ≤ x := by
  rcases h with ⟨y, hy, _, h | h⟩ | ⟨⟨_, h1⟩, h | h⟩
  · have := (rr_iff y).1 (hz y hy); omega
  · have := (rr_iff y).1 (hz y hy); omega
  · omega
  · omega
theorem MarkRel.ready {zs : List Rn} {p wo : Int} {r : Nat} {wr wx : World} {k : Nat} {s : Value} (h : MarkRel zs r wr k s wx) (hk : zs.length ≤ k) (hk2 : k ≤ 200) (hz : ∀ y ∈ zs, rrB y = true) (hn : ¬ (p = r ∧ 0 < wo)) : (∃ ms, Ready zs p wo r wr.heap.size s ms wx) ∧ Below wr.heap.size wr wx := by
  obtain ⟨ms, h1, h2, h3, h4, h5, h6⟩ := h
  rw [List.take_of_length_le hk] at h2
  have hm : ∀ x, x ∈ ms ↔ IsMark zs p wo r x := fun x => by
    rw [h2]
    unfold IsMark
    constructor
    · rintro (h | ⟨⟨_, h⟩, _⟩)
      · exact .inl h
      · omega
    · rintro (h | ⟨h, _⟩)
      · exact .inl h
      · exact absurd h hn
  exact ⟨⟨ms, ⟨h1, hm⟩, by omega, fun m hm' => ⟨isMark_pos hz ((hm m).1 hm'), (h4 m hm').2⟩, h5⟩, h6⟩
theorem ready_two {zs : List Rn} {p wo : Int} {r : Nat} {L : Nat} {s : Value} {wx : World} {ms o1 o2 : List Int} (hz : ∀ y ∈ zs, rrB y = true) (hs : Strict ms) (hm : ∀ x, x ∈ ms ↔ IsMark zs 0 0 r x) (hl : ms.length ≤ 400) (hc : p = r ∧ 0 < wo)
    (p1 : PutOut ms o1 wo) (p2 : PutOut o1 o2 (wo + 1)) (hok : ∀ m ∈ o2, 0 ≤ m ∧ m ≤ 4294967296) (ho : OwnM wx L s o2) : ∃ ms, Ready zs p wo r L s ms wx := by
  have hm2 : ∀ x, x ∈ o2 ↔ IsMark zs p wo r x := fun x => by
    rw [p2.2.1, p1.2.1, hm]
    unfold IsMark
    constructor
    · rintro (h | h | h | ⟨⟨_, h⟩, _⟩)
      · exact .inr ⟨hc, .inr h⟩
      · exact .inr ⟨hc, .inl h⟩
      · exact .inl h
      · omega
    · rintro (h | ⟨_, h | h⟩)
      · exact .inr (.inr (.inl h))
      · exact .inr (.inl h)
      · exact .inl h
  exact ⟨o2, ⟨p2.1 (p1.1 hs), hm2⟩, by have := p1.2.2; have := p2.2.2; omega, fun m hm' => ⟨isMark_pos hz ((hm2 m).1 hm'), (hok m hm').2⟩, ho⟩

/-- where the scanning of the marks stands -/
def ScanRel (zs : List Rn) (p wo : Int) (w : World) (r : Nat) (L : Nat) (P : List Rn) (ms : List Int) (i : Nat) (s8 s10 s12 : Value) (wx : World) : Prop :=
  ∃ out, DropRel w out s8 wx ∧ OwnM wx L s10 ms ∧ (∀ x ∈ out, x.ok) ∧ out.length ≤ P.length + i ∧
    ((s12 = .bool false ∧ ∃ Y, out = P ++ Y ∧ Shut zs p wo r ms i Y) ∨ (s12 = .bool true ∧ ∃ Y f, out = P ++ Y ++ [⟨r, f, 0⟩] ∧ f ≤ 4294967295 ∧ Open zs p wo r ms i Y f))

theorem OwnM.at_ {w : World} {base : Nat} {v : Value} {ms : List Int} (h : OwnM w base v ms) (hne : 0 < ms.length) : ∃ g c, v = .slice (some ⟨g, 0, none⟩) ms.length c ∧ ∀ j m, ms[j]? = some m → w.cell? ⟨g, j, none⟩ = some (.int .u64 m) := by
  have h0 := h
  rcases h.2 with ⟨_, hn⟩ | ⟨g, cap, cur, hv, _⟩
  · omega
  · refine ⟨g, cap, hv, fun j m hj => ?_⟩
    have hl : j < ms.length := (List.getElem?_eq_some_iff.1 hj).1
    subst hv
    rw [World.ownsRow.cellAt h0 j (by omega), List.getElem?_map, hj]
    rfl
theorem inS_le {zs : List Rn} {p wo r m : Int} (hok : ∀ x ∈ zs, x.ok) (h : inS zs p wo r m = true) : m ≤ 4294967295 := by
  simp only [inS, Bool.and_eq_true] at h
  obtain ⟨y, hy, _, _, h3⟩ := (covs_iff _ _ _).1 h.1
  have := (hok y hy).2.2.2
  omega
theorem set_last (P : List Rn) (x y : Rn) : (P ++ [x]).set P.length y = P ++ [y] := by simp

set_option maxHeartbeats 4000000 in
set_option maxRecDepth 100000 in
theorem told_any (v : Value) (zs : List Rn) (p wo : Int) (w : World) (h : Sl w w.heap.size v zs) (hz : zs.length ≤ 200) (hrr : ∀ x ∈ zs, rrB x = true) (hp : 0 ≤ p ∧ p ≤ 255) (hwo : 0 ≤ wo ∧ wo ≤ 4294967295) :
    Calls Tryd.prog 31 #[v, .int .u8 p, .int .u32 wo] w fun e w' => ∃ out, Good out ∧ (∀ q m, covs out q m = inS zs p wo q m) ∧ RefPost w (lim out) e w' := by
  have H := Lib.hid h
  obtain ⟨A, c, rfl, _, hok, hA⟩ := h
  have HA := Lib.hid hA; clear hA
  have HK := Lib.hid hok; clear hok
  have HRR := Lib.hid hrr; clear hrr
  obtain ⟨p1, p2⟩ := hp
  obtain ⟨w1', w2'⟩ := hwo
  go_enter Tryd.func31, Tryd.ntmps31
  go_wp2
  go_loopw [8, 9] (fun s i wr => ∃ r : Nat, i = .int .i64 r ∧ r ≤ 8 ∧ RepRel zs p wo w r s wr) (fun _ i _ => 8 - (intOf i).toNat)
  case atStart => exact ⟨0, rfl, by omega, [], Told.start (fun x hx => (HK.out x hx).1.1), by simp, by simp, Own.nil _ _, Below.refl _ _⟩
  case round =>
    obtain ⟨r, rfl, hr8, HREL⟩ := hrel
    by_cases hr : r < 8
    · have HREL := Lib.hid HREL
      have hsz : w.heap.size ≤ wr.heap.size := by obtain ⟨_, _, _, _, hD⟩ := HREL.out; exact hD.2.size
      have HBW : Hid (Below w.heap.size w wr) := Lib.hid (by obtain ⟨_, _, _, _, hD⟩ := HREL.out; exact hD.2)
      have hr' : decide ((r : Int) < 8) = true := by simp; omega
      go_wp2
      obtain ⟨wo1, hwo1⟩ : ∃ wo1 : World, wo1 = wr := ⟨_, rfl⟩
      subst hwo1
      go_loopw [10, 11] (fun s i wx => ∃ k : Nat, i = .int .i64 k ∧ k ≤ zs.length ∧ MarkRel zs r wo1 k s wx) (fun _ i _ => zs.length - (intOf i).toNat)
      case atStart => exact ⟨0, rfl, by omega, MarkRel.start _ _ _⟩
      case round =>
        obtain ⟨k, rfl, hk, HM⟩ := hrel
        by_cases hlt : k < zs.length
        · obtain ⟨b, off, rfl, hbw, hc⟩ := HA.out (by intro h; simp [h] at hlt)
          have hxk : zs[k]? = some zs[k] := List.getElem?_eq_getElem hlt
          generalize zs[k] = x at hxk
          obtain ⟨⟨o1, o2⟩, ⟨o3, o4⟩, o5, o6⟩ := HK.out x (List.mem_of_getElem? hxk)
          have hbm : Below wo1.heap.size wo1 wr := by obtain ⟨_, _, _, _, _, _, hB⟩ := HM; exact hB
          have hbmw : Below w.heap.size w wr := HBW.out.trans (hbm.mono hsz)
          obtain ⟨c0, c1, c2⟩ := (hc k x hxk).keep hbmw hbw
          have HC := Lib.hid hc; clear hc
          have HX := Lib.hid hxk; clear hxk
          have HBM := Lib.hid hbm; clear hbm
          have HBMW := Lib.hid hbmw; clear hbmw
          have HM := Lib.hid HM
          by_cases q1 : x.r = r
          · have q1' : (x.r == (r : Int)) = true := by simp [q1]
            have HQ := Lib.hid q1; clear q1
            obtain ⟨ms, m1, m2, m3, m4, m5, _⟩ := HM.out
            have M1 := Lib.hid m1; clear m1
            have M2 := Lib.hid m2; clear m2
            have M4 := Lib.hid m4; clear m4
            have M5 := Lib.hid m5; clear m5
            go_wp2_with fail
            refine (put_any _ ms x.lo wr wo1.heap.size M5.out M4.out HBM.out.size (by omega) ⟨o3, by omega⟩).mono ?_
            rintro e wa ⟨va, oa, rfl, pa, ha4, ha5, hba⟩
            have PA := Lib.hid pa; clear pa
            have A4 := Lib.hid ha4; clear ha4
            have A5 := Lib.hid ha5; clear ha5
            have HBA := Lib.hid (HBM.out.trans (hba.mono HBM.out.size))
            have hla := PA.out.2.2
            obtain ⟨d0, d1, d2⟩ := (HC.out k x HX.out).keep (HBMW.out.trans (hba.mono HBMW.out.size)) hbw
            clear hba
            go_wp2_with fail
            refine (put_any _ oa (x.hi + 1) wa wo1.heap.size A5.out A4.out HBA.out.size (by omega) ⟨by omega, by omega⟩).mono ?_
            rintro e wb ⟨vb, ob, rfl, pb, hb4, hb5, hbb⟩
            have PB := Lib.hid pb; clear pb
            have B4 := Lib.hid hb4; clear hb4
            have B5 := Lib.hid hb5; clear hb5
            have HBB := Lib.hid (HBA.out.trans (hbb.mono HBA.out.size)); clear hbb
            go_wp2_with fail
            go_roundw
            case rel =>
              have hnew : MarkRel zs r wo1 (k + 1) vb wb := MarkRel.two M1.out M2.out m3 HX.out HQ.out PA.out PB.out B4.out B5.out HBB.out
              first
                | exact ⟨k + 1, by go_num, by omega, hnew⟩
                | ((repeat apply Exists.intro)
                   exact ⟨⟨k + 1, by go_num, by omega, hnew⟩, rfl⟩)
            case measure => simp [intOf]; omega
          · have q1' : (x.r == (r : Int)) = false := by simp [q1]
            have HQ := Lib.hid q1; clear q1
            go_wp2
            go_roundw
            case rel => exact ⟨k + 1, by go_num, by omega, HM.out.skip HX.out HQ.out⟩
            case measure => simp [intOf]; omega
        · have HM := Lib.hid HM
          have hkl : decide (k < zs.length) = false := by simp; omega
          have HKZ : Hid (zs.length ≤ k) := Lib.hid (by omega)
          go_upto_region 12 with fail
          go_cut [57] (fun s wx => s = .bool (decide (p = r) && decide (0 < wo)) ∧ wx = wr)
          case first =>
            by_cases e1 : p = r
            · have e1' : (p == (r : Int)) = true := by simp [e1]
              have E1 := Lib.hid e1; clear e1
              by_cases e2 : 0 < wo
              · go_wp2
                go_meet
                case rel => exact ⟨by simp [E1.out, e2], rfl⟩
              · have e2' : decide (0 < wo) = false := by simp; omega
                go_wp2
                go_meet
                case rel => exact ⟨by simp [E1.out, e2'], rfl⟩
            · have e1' : (p == (r : Int)) = false := by simp [e1]
              have E1 := Lib.hid e1; clear e1
              go_wp2
              go_meet
              case rel => exact ⟨by simp [E1.out], rfl⟩
          case rest =>
            obtain ⟨rfl, hw⟩ := hcut
            obtain rfl : wr = wc := hw.symm
            go_upto_if 57 with fail
            go_cut [10] (fun s wx => (∃ ms, Ready zs p wo r wo1.heap.size s ms wx) ∧ Below wo1.heap.size wo1 wx)
            case first =>
              by_cases hc : p = r ∧ 0 < wo
              · rw [show (decide (p = (r : Int)) && decide (0 < wo)) = true by simp [hc.1, hc.2]]
                obtain ⟨ms, m1, m2, m3, m4, m5, m6⟩ := HM.out
                rw [List.take_of_length_le HKZ.out] at m2
                have M1 := Lib.hid m1; clear m1
                have M2 := Lib.hid m2; clear m2
                have M4 := Lib.hid m4; clear m4
                have M5 := Lib.hid m5; clear m5
                have M6 := Lib.hid m6; clear m6
                have HCC := Lib.hid hc; clear hc
                go_wp2_with fail
                refine (put_any _ ms wo wr wo1.heap.size M5.out M4.out M6.out.size (by omega) ⟨w1', by omega⟩).mono ?_
                rintro e wa ⟨va, oa, rfl, pa, ha4, ha5, hba⟩
                have PA := Lib.hid pa; clear pa
                have A4 := Lib.hid ha4; clear ha4
                have A5 := Lib.hid ha5; clear ha5
                have HBA := Lib.hid (M6.out.trans (hba.mono M6.out.size)); clear hba
                have hla := PA.out.2.2
                go_wp2_with fail
                refine (put_any _ oa (wo + 1) wa wo1.heap.size A5.out A4.out HBA.out.size (by omega) ⟨by omega, by omega⟩).mono ?_
                rintro e wb ⟨vb, ob, rfl, pb, hb4, hb5, hbb⟩
                have PB := Lib.hid pb; clear pb
                have B4 := Lib.hid hb4; clear hb4
                have B5 := Lib.hid hb5; clear hb5
                have HBB := Lib.hid (HBA.out.trans (hbb.mono HBA.out.size)); clear hbb
                go_wp2_with fail
                go_meet
                case rel => exact ⟨ready_two HRR.out M1.out M2.out (by omega) HCC.out PA.out PB.out B4.out B5.out, HBB.out⟩
              · have HRD := Lib.hid (HM.out.ready (p := p) (wo := wo) HKZ.out (by omega) HRR.out hc)
                rw [show (decide (p = (r : Int)) && decide (0 < wo)) = false by
                  by_cases h1 : p = r
                  · simp [h1]; omega
                  · simp [h1]]
                clear hc
                go_wp2
                go_meet
                case rel => exact HRD.out
            case rest =>
              obtain ⟨⟨ms, hrd⟩, hbx⟩ := hcut
              have HRD := Lib.hid hrd; clear hrd
              have HBX := Lib.hid hbx; clear hbx
              obtain ⟨P, hT, hPo, hPl, hD⟩ := HREL.out
              have HT := Lib.hid hT; clear hT
              have hD2 : DropRel w P u8 wc := ⟨hD.1.below HBX.out, HBW.out.trans (HBX.out.mono hsz)⟩
              have HD := Lib.hid hD2; clear hD2 hD
              have HPO := Lib.hid hPo; clear hPo
              have hml : ms.length ≤ 450 := HRD.out.2.1
              go_wp2
              go_loopw [8, 12, 13] (fun s8 s12 i wx => ∃ j : Nat, i = .int .i64 j ∧ j ≤ ms.length ∧ ScanRel zs p wo w r wo1.heap.size P ms j s8 u10 s12 wx) (fun _ _ i _ => ms.length - (intOf i).toNat)
              case atStart => exact ⟨0, rfl, by omega, P, HD.out, HRD.out.2.2.2, HPO.out, by omega, .inl ⟨rfl, [], by simp, Shut.start HRD.out.1 (fun x hx => ((rr_iff x).1 (HRR.out x hx)).2.1)⟩⟩
              case round =>
                obtain ⟨j, rfl, hj, HSC⟩ := hrel
                have hbw3 : Below w.heap.size w wr := by obtain ⟨_, hD, _⟩ := HSC; exact hD.2
                have HBW3 := Lib.hid hbw3; clear hbw3
                have HSC := Lib.hid HSC
                by_cases hjl : j < ms.length
                · obtain ⟨out, hD, hM, hOk, hLen, hst⟩ := HSC.out
                  have HMO := Lib.hid hM
                  obtain ⟨g2, c2', rfl, hcm⟩ := hM.at_ (by omega)
                  clear hM
                  have hmj : ms[j]? = some ms[j] := List.getElem?_eq_getElem hjl
                  generalize ms[j] = m at hmj
                  obtain ⟨b1, b2⟩ := HRD.out.2.2.1 m (List.mem_of_getElem? hmj)
                  have cm := hcm j m hmj
                  clear hcm
                  have HMJ := Lib.hid hmj; clear hmj
                  have HDD := Lib.hid hD; clear hD
                  have HOK := Lib.hid hOk; clear hOk
                  have HST := Lib.hid hst; clear hst
                  have hin := refin_any _ zs r m wr ((H.out.below HBW3.out).more HBW3.out.size) (by omega) ⟨by omega, b2⟩
                  have HIN := Lib.hid hin; clear hin
                  go_upto_region 19 with fail
                  go_cut [14] (fun s wx => s = .bool (inS zs p wo r m) ∧ wx = wr)
                  case first =>
                    go_wp2_with fail
                    refine (HIN.out).mono ?_
                    rintro e wi ⟨rfl, rfl⟩
                    by_cases e0 : covs zs r m = true
                    · have E0 := Lib.hid e0
                      rw [e0]; clear e0
                      by_cases e1 : p = r
                      · have e1' : (p == (r : Int)) = true := by simp [e1]
                        have E1 := Lib.hid e1; clear e1
                        by_cases e2 : 0 < wo
                        · by_cases e3 : m = wo
                          · have e3' : (m == wo) = true := by simp [e3]
                            have E3 := Lib.hid e3; clear e3
                            go_wp2
                            go_meet
                            case rel => exact ⟨by simp [inS, E0.out, E1.out, E3.out, e2], rfl⟩
                          · have e3' : (m == wo) = false := by simp [e3]
                            have E3 := Lib.hid e3; clear e3
                            go_wp2
                            go_meet
                            case rel => exact ⟨by simp [inS, E0.out, E1.out, E3.out, e2], rfl⟩
                        · have e2' : decide (0 < wo) = false := by simp; omega
                          go_wp2
                          go_meet
                          case rel => exact ⟨by simp [inS, E0.out, E1.out, e2'], rfl⟩
                      · have e1' : (p == (r : Int)) = false := by simp [e1]
                        have E1 := Lib.hid e1; clear e1
                        go_wp2
                        go_meet
                        case rel => exact ⟨by simp [inS, E0.out, E1.out], rfl⟩
                    · have e0 : covs zs r m = false := by simpa using e0
                      have E0 := Lib.hid e0
                      rw [e0]; clear e0
                      go_wp2
                      go_meet
                      case rel => exact ⟨by simp [inS, E0.out], rfl⟩
                  case rest =>
                    obtain ⟨rfl, hw⟩ := hcut
                    obtain rfl : wr = wc := hw.symm
                    clear HIN
                    have hMK := HRD.out.1
                    have HMK := Lib.hid hMK; clear hMK
                    by_cases his : inS zs p wo r m = true
                    · have hm32 := inS_le HK.out his
                      have HIS := Lib.hid his
                      rw [his]; clear his
                      rcases HST.out with ⟨rfl, Y, hY, hS⟩ | ⟨rfl, Y, f, hY, hf, hS⟩
                      · have HS := Lib.hid hS; clear hS
                        subst hY
                        have how := HDD.out.1
                        have HOK1 : Hid (Rn.ok ⟨(r : Int), m, 0⟩) := Lib.hid ⟨⟨show (0 : Int) ≤ r by omega, show (r : Int) ≤ 255 by omega⟩, ⟨show (0 : Int) ≤ m by omega, show m ≤ 4294967295 by omega⟩, show (0 : Int) ≤ 0 by decide, show (0 : Int) ≤ 4294967295 by decide⟩
                        have hlen1 : (P ++ Y).length + [(⟨(r : Int), m, 0⟩ : Rn)].length ≤ 10000 := by
                          simp only [List.length_cons, List.length_nil]
                          omega
                        have hsz1 : w.heap.size ≤ (wr.alloc (.cells #[.int .u8 r, .int .u32 m, .int .u32 0] 51)).heap.size := by
                          have := HBW3.out.size
                          simp
                          omega
                        go_wp2_with (at_builtin; go_loud (refine append_runs rfl _ _ rfl w.heap.size _ _ rfl (how.alloc _) _ _ [⟨r, m, 0⟩] rfl (one_sl _ _ r m 0 (by simp) HOK1.out) hlen1 hsz1 ?_); intro v1 w5 ho1 hg1)
                        go_roundw
                        case rel =>
                          have hnew : ScanRel zs p wo w r wo1.heap.size P ms (j + 1) v1 (.slice (some ⟨g2, 0, none⟩) ms.length c2') (.bool true) w5 := by
                            refine ⟨_, HDD.out.step ((Below.refl _ _).alloc (Nat.le_refl _) _) hg1 ho1, OwnM.kept (HMO.out.alloc _) (how.alloc _) hg1, ?_, by rw [List.length_append]; simp only [List.length_cons, List.length_nil]; omega, .inr ⟨rfl, Y, m, rfl, hm32, HS.out.opens HMK.out HMJ.out HIS.out b1⟩⟩
                            intro x hx
                            rcases List.mem_append.1 hx with hx | hx
                            · exact HOK.out x hx
                            · simp at hx; subst hx; exact HOK1.out
                          first
                            | exact ⟨j + 1, by go_num, by omega, hnew⟩
                            | ((repeat apply Exists.intro)
                               exact ⟨⟨j + 1, by go_num, by omega, hnew⟩, rfl⟩)
                        case measure => simp [intOf]; omega
                      · have HS := Lib.hid hS; clear hS
                        have HY := Lib.hid hY; clear hY
                        go_wp2
                        go_roundw
                        case rel =>
                          have hnew : ScanRel zs p wo w r wo1.heap.size P ms (j + 1) u8 (.slice (some ⟨g2, 0, none⟩) ms.length c2') (.bool true) wr :=
                            ⟨out, HDD.out, HMO.out, HOK.out, by omega, .inr ⟨rfl, Y, f, HY.out, hf, HS.out.stays HMK.out HMJ.out HIS.out⟩⟩
                          first
                            | exact ⟨j + 1, by go_num, by omega, hnew⟩
                            | ((repeat apply Exists.intro)
                               exact ⟨⟨j + 1, by go_num, by omega, hnew⟩, rfl⟩)
                        case measure => simp [intOf]; omega
                    · have his : inS zs p wo r m = false := by simpa using his
                      have HIS := Lib.hid his
                      rw [his]; clear his
                      rcases HST.out with ⟨rfl, Y, hY, hS⟩ | ⟨rfl, Y, f, hY, hf, hS⟩
                      · have HS := Lib.hid hS; clear hS
                        have HY := Lib.hid hY; clear hY
                        go_wp2
                        go_roundw
                        case rel =>
                          have hnew : ScanRel zs p wo w r wo1.heap.size P ms (j + 1) u8 (.slice (some ⟨g2, 0, none⟩) ms.length c2') (.bool false) wr :=
                            ⟨out, HDD.out, HMO.out, HOK.out, by omega, .inl ⟨rfl, Y, HY.out, HS.out.stays HMK.out HMJ.out HIS.out⟩⟩
                          first
                            | exact ⟨j + 1, by go_num, by omega, hnew⟩
                            | ((repeat apply Exists.intro)
                               exact ⟨⟨j + 1, by go_num, by omega, hnew⟩, rfl⟩)
                        case measure => simp [intOf]; omega
                      · have HS := Lib.hid hS; clear hS
                        have HY := Lib.hid hY; clear hY
                        obtain ⟨A8, n8, c8, rfl, hn8, _, hA8⟩ := HDD.out.1.form'
                        obtain ⟨g8, rfl, hg8, hg8'⟩ := hA8 (by rw [HY.out]; simp)
                        have HQ8 : Hid (n8 = (P ++ Y).length + 1) := Lib.hid (by rw [hn8, HY.out, List.length_append]; rfl)
                        obtain ⟨q, rfl⟩ : ∃ q, n8 = q + 1 := ⟨n8 - 1, by have := HQ8.out; omega⟩
                        have HQ9 : Hid (q = (P ++ Y).length) := Lib.hid (by have := HQ8.out; omega)
                        have HOQ : Hid (out[q]? = some (⟨(r : Int), f, 0⟩ : Rn)) := Lib.hid (by rw [HY.out, HQ9.out]; simp)
                        have HN8 := Lib.hid hn8; clear hn8
                        have hq5 : q ≤ 10000 := by have := HN8.out; omega
                        obtain ⟨z0, z1, z2⟩ := HDD.out.1.cell HN8.out HOQ.out
                        have hfz := HDD.out.1.frozen HN8.out (q * 3 + 2)
                        have hset := HDD.out.1.set HN8.out HOQ.out (m - 1)
                        have HSET := Lib.hid hset; clear hset
                        clear hA8
                        go_wp2
                        go_roundw
                        case rel =>
                          have e1 : out.set q ⟨(r : Int), f, m - 1⟩ = P ++ (Y ++ [⟨(r : Int), f, m - 1⟩]) := by
                            rw [HY.out, HQ9.out, set_last, List.append_assoc]
                          have hD9 := HDD.out.step (Below.refl _ _) HSET.out.2 HSET.out.1
                          have hnew : ScanRel zs p wo w r wo1.heap.size P ms (j + 1) (.slice (some ⟨g8, 0, none⟩) (q + 1) c8) (.slice (some ⟨g2, 0, none⟩) ms.length c2') (.bool false) (wr.setCell ⟨g8, q * 3 + 2, none⟩ (.int .u32 (m - 1))) := by
                            refine ⟨out.set q ⟨(r : Int), f, m - 1⟩, hD9, OwnM.kept HMO.out HDD.out.1 HSET.out.2, ?_, by rw [List.length_set]; omega, .inl ⟨rfl, _, e1, HS.out.shuts HMK.out HMJ.out HIS.out (by omega)⟩⟩
                            intro x hx
                            rcases List.mem_or_eq_of_mem_set hx with hx | rfl
                            · exact HOK.out x hx
                            · have hf1 := HS.out.pos
                              exact ⟨⟨show (0 : Int) ≤ r by omega, show (r : Int) ≤ 255 by omega⟩, ⟨show (0 : Int) ≤ f by omega, show f ≤ 4294967295 by omega⟩, show (0 : Int) ≤ m - 1 by omega, show m - 1 ≤ 4294967295 by omega⟩
                          first
                            | exact ⟨j + 1, by go_num, by omega, hnew⟩
                            | ((repeat apply Exists.intro)
                               exact ⟨⟨j + 1, by go_num, by omega, hnew⟩, rfl⟩)
                        case measure => simp [intOf]; omega
                · have HJL : Hid (j = ms.length) := Lib.hid (by omega)
                  have hjl' : decide (j < ms.length) = false := by simp; omega
                  have hnext : RepRel zs p wo w (r + 1) u8 wr := by
                    obtain ⟨out, hD, hM, hOk, hLen, hst⟩ := HSC.out
                    rw [HJL.out] at hst
                    rcases hst with ⟨_, Y, hY, hS⟩ | ⟨_, Y, f, _, _, hS⟩
                    · subst hY
                      exact ⟨P ++ Y, HT.out.step hS, hOk, by omega, hD⟩
                    · exact hS.never.elim
                  have HNX := Lib.hid hnext; clear hnext
                  have hmz : 0 < ms.length → ∃ g c, u10 = .slice (some ⟨g, 0, none⟩) ms.length c := fun h => by
                    obtain ⟨_, _, hM, _⟩ := HSC.out
                    obtain ⟨g, c, h1, _⟩ := hM.at_ h
                    exact ⟨g, c, h1⟩
                  have hform : ∃ A c, u10 = .slice A ms.length c := by
                    rcases Nat.eq_zero_or_pos ms.length with h0 | h0
                    · obtain ⟨_, _, hM, _⟩ := HSC.out
                      rcases hM.2 with ⟨h1, h2⟩ | ⟨g, cap, _, h1, _⟩
                      · exact ⟨none, 0, by rw [h1, h2]⟩
                      · exact ⟨_, _, h1⟩
                    · obtain ⟨g, c, h1⟩ := hmz h0; exact ⟨_, _, h1⟩
                  clear hmz
                  obtain ⟨A10, c10, rfl⟩ := hform
                  go_wp2
                  go_roundw
                  case rel =>
                    first
                      | exact ⟨r + 1, by go_num, by omega, HNX.out⟩
                      | ((repeat apply Exists.intro)
                         exact ⟨⟨r + 1, by go_num, by omega, HNX.out⟩, rfl⟩)
                  case measure => simp [intOf]; omega
    · obtain rfl : r = 8 := by omega
      obtain ⟨P, hT, hPo, hPl, hD⟩ := HREL
      have HG := Lib.hid (And.intro hT.good (fun q m => hT.all (fun x hx => ((rr_iff x).1 (HRR.out x hx)).1) q m)); clear hT
      have HS := Lib.hid (hD.1.sl hPo)
      have HB := Lib.hid hD.2
      obtain ⟨A8, n8, c8, rfl, hn8, _, _⟩ := hD.1.form'
      clear hD hPo
      have HN := Lib.hid hn8
      by_cases h64 : 64 < n8
      · have h64' : 64 < P.length := by omega
        have hn9 : n8 ≤ 10000 := by omega
        clear hn8
        go_wp2
        go_ret2
        refine ⟨P, HG.out.1, HG.out.2, ?_⟩
        rw [lim, if_neg (by omega)]
        exact ⟨rfl, HB.out⟩
      · have h64' : P.length ≤ 64 := by omega
        clear hn8
        go_wp2
        go_ret2
        refine ⟨P, HG.out.1, HG.out.2, ?_⟩
        rw [lim, if_pos h64']
        exact ⟨_, rfl, HS.out, HB.out⟩
end Go.Proofs.YtfjaeohfigcciaaDoor

