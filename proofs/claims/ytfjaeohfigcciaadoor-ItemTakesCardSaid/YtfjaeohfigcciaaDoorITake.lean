/- The contract of item.Take. -/
import Derived.Test.YtfjaeohfigcciaaDoorIInsG
namespace Go.Proofs.YtfjaeohfigcciaaDoor
open Go.RowKit

def takeL (zs : List En) (e : En) : List En :=
  if (decide (posE zs e.id < zs.length) && decide (zs[posE zs e.id]!.id = e.id)) = true then (if repB e zs[posE zs e.id]! = true then zs.set (posE zs e.id) e else zs) else insL zs (posE zs e.id) e

theorem posE_le (zs : List En) (id : Int) : posE zs id ≤ zs.length := List.countP_le_length

theorem right_step {zs : List En} (h : erightB zs = true) {j : Nat} (hj : j + 1 < zs.length) : zs[j]!.id < zs[j + 1]!.id := by
  simp only [erightB, List.all_eq_true, List.mem_range] at h
  have := h (j + 1) hj
  simp only [eokAt, Bool.and_eq_true, Bool.or_eq_true, decide_eq_true_eq, Nat.add_sub_cancel] at this
  rcases this.2 with h | h
  · omega
  · exact h
theorem right_le {zs : List En} (h : erightB zs = true) (a : Nat) : ∀ d, a + d < zs.length → zs[a]!.id ≤ zs[a + d]!.id
  | 0, _ => Int.le_refl _
  | d + 1, hd => by
    have h1 := right_le h a d (by omega)
    have h2 := right_step h (j := a + d) (by omega)
    rw [show a + (d + 1) = a + d + 1 by omega]
    omega
theorem right_mono {zs : List En} (h : erightB zs = true) (id : Int) : ∀ a b, a ≤ b → b < zs.length → zs[b]!.id < id → zs[a]!.id < id := fun a b hab hb hlt => by
  have := right_le h a (b - a) (by omega)
  rw [show a + (b - a) = b by omega] at this
  omega

theorem set_step (a : List Value) (l : List Value) (j k : Nat) (v : Value) (ha : a.length = 7) : (a ++ l).set ((j + 1) * 7 + k) v = a ++ l.set (j * 7 + k) v := by
  rw [List.set_append_right _ _ (by omega), ha, show (j + 1) * 7 + k - 7 = j * 7 + k by omega]
theorem flatE_set (zs : List En) (j : Nat) (x : En) (hj : j < zs.length) :
    (((((((flatE zs).set (j * 7) (.int .u8 x.id)).set (j * 7 + 1) (.int .u8 x.rep)).set (j * 7 + 2) (.int .u32 x.seq)).set (j * 7 + 3) (.int .u32 x.stamp)).set (j * 7 + 4) (.int .i64 x.kind)).set (j * 7 + 5) (.int .u8 x.cls)).set (j * 7 + 6) (.int .u32 x.val) = flatE (zs.set j x) := by
  induction zs generalizing j with
  | nil => simp at hj
  | cons y l ih =>
    match j, hj with
    | 0, _ => simp [flatE, En.enc]
    | j + 1, hj =>
      have := ih j (by simpa using hj)
      rw [List.set_cons_succ, flatE_cons, flatE_cons, ← this]
      have e0 := set_step y.enc (flatE l) j 0 (.int .u8 x.id) rfl
      simp only [Nat.add_zero] at e0
      rw [e0, set_step _ _ _ _ _ rfl, set_step _ _ _ _ _ rfl, set_step _ _ _ _ _ rfl, set_step _ _ _ _ _ rfl, set_step _ _ _ _ _ rfl, set_step _ _ _ _ _ rfl]

/-- the world with an entry stored at a place -/
def putEn (w : World) (g o : Nat) (x : En) : World := ((((((w.setCell ⟨g, o, none⟩ (.int .u8 x.id)).setCell ⟨g, o + 1, none⟩ (.int .u8 x.rep)).setCell ⟨g, o + 2, none⟩ (.int .u32 x.seq)).setCell ⟨g, o + 3, none⟩ (.int .u32 x.stamp)).setCell ⟨g, o + 4, none⟩ (.int .i64 x.kind)).setCell ⟨g, o + 5, none⟩ (.int .u8 x.cls)).setCell ⟨g, o + 6, none⟩ (.int .u32 x.val)

theorem EOwn.put {w : World} {base g c : Nat} {zs : List En} (h : EOwn w base (.slice (some ⟨g, 0, none⟩) zs.length c) zs) {j : Nat} (hj : j < zs.length) (x : En) (hb : base ≤ g) :
    EOwn (putEn w g (j * 7) x) base (.slice (some ⟨g, 0, none⟩) zs.length c) (zs.set j x) ∧ Below base w (putEn w g (j * 7) x) := by
  refine ⟨?_, ?_⟩
  · have a := ((((((((h : w.ownsRow _ _ _ _ _ _).stored (j * 7) (.int .u8 x.id)).1.stored (j * 7 + 1) (.int .u8 x.rep)).1.stored (j * 7 + 2) (.int .u32 x.seq)).1.stored (j * 7 + 3) (.int .u32 x.stamp)).1.stored (j * 7 + 4) (.int .i64 x.kind)).1.stored (j * 7 + 5) (.int .u8 x.cls)).1.stored (j * 7 + 6) (.int .u32 x.val)).1
    rw [flatE_set zs j x hj] at a
    unfold EOwn
    rw [List.length_set]
    exact a
  · exact (((((((Below.refl _ w).setCell (p := ⟨g, _, none⟩) hb _).setCell (p := ⟨g, _, none⟩) hb _).setCell (p := ⟨g, _, none⟩) hb _).setCell (p := ⟨g, _, none⟩) hb _).setCell (p := ⟨g, _, none⟩) hb _).setCell (p := ⟨g, _, none⟩) hb _).setCell (p := ⟨g, _, none⟩) hb _

theorem frozen_own {w : World} {base g c : Nat} {zs : List En} (h : EOwn w base (.slice (some ⟨g, 0, none⟩) zs.length c) zs) (j : Nat) : w.frozen? ⟨g, j, none⟩ = false := World.ownsRow.frozenAt h j

/-- entries, or a code, come back -/
def TakePost (w : World) (res : Option (List En)) (e : Ending) (w' : World) : Prop :=
  match res with
  | some l => ∃ v, e = .returned (.tuple #[v, .nilIface]) ∧ ESl w' w'.heap.size v l ∧ Below w.heap.size w w'
  | none => e = .returned (.tuple #[.slice none 0 0, .iface 53 (.int .i64 9)]) ∧ Below w.heap.size w w'

def takeR (zs : List En) (e : En) : Option (List En) := if erightB zs = true ∧ reB e = true then some (takeL zs e) else none

set_option maxHeartbeats 1000000 in
theorem Take_wrong1 (v : Value) (zs : List En) (x : En) (w : World) (h : ESl w w.heap.size v zs) (hl : zs.length ≤ 9000) (hr : erightB zs = false) :
    Calls Tryd.prog 21 #[v, x.agg] w (TakePost w none) := by
  simp only [En.agg]
  have hq := iRight_any _ v zs (h.later (al1 w (.cells #[.int .u8 x.id, .int .u8 x.rep, .int .u32 x.seq, .int .u32 x.stamp, .int .i64 x.kind, .int .u8 x.cls, .int .u32 x.val] 42))) (by omega)
  rw [hr] at hq
  have HR := Lib.hid hq; clear hq hr h
  go_enter Tryd.func21, Tryd.ntmps21
  go_wp2_with fail
  refine (HR.out).mono ?_
  rintro e w1 ⟨rfl, hb1⟩
  go_wp2_with fail
  go_ret2
  exact ⟨rfl, (al1 w _).trans (hb1.mono (by simp))⟩

set_option maxHeartbeats 1000000 in
theorem Take_wrong2 (v : Value) (zs : List En) (x : En) (w : World) (h : ESl w w.heap.size v zs) (hl : zs.length ≤ 9000) (hx : x.ok) (hr : erightB zs = true) (he : reB x = false) :
    Calls Tryd.prog 21 #[v, x.agg] w (TakePost w none) := by
  have he' := fun W => irightEntry_any x W hx
  simp only [En.agg] at he' ⊢
  rw [he] at he'
  have HE := Lib.hid he'; clear he' he hx
  have hq := iRight_any _ v zs (h.later (al1 w (.cells #[.int .u8 x.id, .int .u8 x.rep, .int .u32 x.seq, .int .u32 x.stamp, .int .i64 x.kind, .int .u8 x.cls, .int .u32 x.val] 42))) (by omega)
  rw [hr] at hq
  have HR := Lib.hid hq; clear hq hr h
  have HN := Lib.hid (new_entry w x 42)
  go_enter Tryd.func21, Tryd.ntmps21
  go_wp2_with fail
  refine (HR.out).mono ?_
  rintro e w1 ⟨rfl, hb1⟩
  obtain ⟨c0, c1, c2, c3, c4, c5, c6⟩ := (HN.out.keep hb1 (by simp)).all0
  have HB := Lib.hid ((al1 w _).trans (hb1.mono (by simp)))
  clear hb1 HN
  go_wp2_with fail
  refine (HE.out _).mono ?_
  rintro e w2 ⟨rfl, hb2⟩
  go_wp2_with fail
  go_ret2
  exact ⟨rfl, HB.out.trans (hb2.mono HB.out.size)⟩

theorem takeL_ok {zs : List En} {e : En} (h : ∀ x ∈ zs, x.ok) (he : e.ok) : ∀ x ∈ takeL zs e, x.ok := by
  intro x hx
  unfold takeL at hx
  split at hx
  · split at hx
    · rcases List.mem_or_eq_of_mem_set hx with h1 | h1
      · exact h x h1
      · rw [h1]; exact he
    · exact h x hx
  · simp only [insL, List.mem_append, List.mem_cons] at hx
    rcases hx with h1 | h1 | h1
    · exact h x (List.mem_of_mem_take h1)
    · rw [h1]; exact he
    · exact h x (List.mem_of_mem_drop h1)

theorem oneNew_alloc (w : World) (x : En) : OneNew (w.alloc (.cells #[.int .u8 x.id, .int .u8 x.rep, .int .u32 x.seq, .int .u32 x.stamp, .int .i64 x.kind, .int .u8 x.cls, .int .u32 x.val] 42)) w.heap.size x := ⟨heap_alloc_new w _⟩

set_option maxRecDepth 100000 in
set_option maxHeartbeats 2000000 in
theorem Take_right (v : Value) (zs : List En) (x : En) (w : World) (h : ESl w w.heap.size v zs) (hl : zs.length ≤ 9000) (hx : x.ok) (hr : erightB zs = true) (he : reB x = true) :
    Calls Tryd.prog 21 #[v, x.agg] w (TakePost w (some (takeL zs x))) := by
  have hm : Tryd.prog.follows .mixedOrders = true := by kernel_rfl
  have HM := Lib.hid hm; clear hm
  have he' := fun W => irightEntry_any x W hx
  have hok := h.okAll
  have htok := takeL_ok hok hx
  have hmo := right_mono hr x.id
  simp only [En.agg] at he' ⊢
  rw [he] at he'
  have HE := Lib.hid he'; clear he' he
  have HMO := Lib.hid hmo; clear hmo
  have HXO := Lib.hid hx; clear hx
  have HOK := Lib.hid hok; clear hok
  have HTK := Lib.hid htok; clear htok
  have hq := iRight_any _ v zs (h.later (al1 w (.cells #[.int .u8 x.id, .int .u8 x.rep, .int .u32 x.seq, .int .u32 x.stamp, .int .i64 x.kind, .int .u8 x.cls, .int .u32 x.val] 42))) (by omega)
  rw [hr] at hq
  have HR := Lib.hid hq; clear hq hr
  have HH := Lib.hid h; clear h
  have HN := Lib.hid (new_entry w x 42)
  obtain ⟨T, hT⟩ : ∃ T, takeL zs x = T := ⟨_, rfl⟩
  rw [hT]
  rw [hT] at HTK
  have HT := Lib.hid hT; clear hT
  have hp := posE_le zs x.id
  go_enter Tryd.func21, Tryd.ntmps21
  go_wp2_with fail
  refine (HR.out).mono ?_
  rintro e w1 ⟨rfl, hb1⟩
  obtain ⟨c0, c1, c2, c3, c4, c5, c6⟩ := (HN.out.keep hb1 (by simp)).all0
  have HN1 := Lib.hid (HN.out.keep hb1 (by simp))
  have HB1 := Lib.hid ((al1 w _).trans (hb1.mono (by simp)))
  have hs1 : w.heap.size < w1.heap.size := by have := hb1.size; simp at this; omega
  clear hb1 HN HR
  go_wp2_with fail
  refine (HE.out _).mono ?_
  rintro e w2 ⟨rfl, hb2⟩
  have HB2 := Lib.hid (HB1.out.trans (hb2.mono HB1.out.size))
  have HN2 := Lib.hid (HN1.out.keep hb2 hs1)
  have hs2 : w.heap.size < w2.heap.size := by have := hb2.size; omega
  clear hb2 HN1 HB1 HE c0 c1 c2 c3 c4 c5 c6
  have HC := Lib.hid (Clone_any v zs w2 (HH.out.later HB2.out) (by omega))
  go_wp2_with fail
  refine (HC.out).mono ?_
  rintro e w3 ⟨v3, rfl, ho3, hb3⟩
  have HO3 := Lib.hid ho3; clear ho3
  have HB3 := Lib.hid (HB2.out.trans (hb3.mono HB2.out.size))
  have HN3 := Lib.hid (HN2.out.keep hb3 hs2)
  have hs3 : w2.heap.size ≤ w3.heap.size := hb3.size
  obtain ⟨c0, c1, c2, c3, c4, c5, c6⟩ := HN3.out.all0
  clear hb3 HC HN2
  have HP := Lib.hid (place_any x.id v3 zs w3 (HO3.out.sl HOK.out) (by omega) HMO.out)
  obtain ⟨p, hpe⟩ : ∃ p, posE zs x.id = p := ⟨_, rfl⟩
  rw [hpe] at HP hp
  have HPE := Lib.hid hpe; clear hpe
  obtain ⟨fd, hfd⟩ : ∃ fd, (decide (p < zs.length) && decide (zs[p]!.id = x.id)) = fd := ⟨_, rfl⟩
  rw [hfd] at HP
  have HFD := Lib.hid hfd; clear hfd
  go_wp2_with fail
  refine (HP.out).mono ?_
  rintro e w4 ⟨rfl, hb4⟩
  have HO4 := Lib.hid (HO3.out.below hb4)
  have HB4 := Lib.hid (HB3.out.trans (hb4.mono HB3.out.size))
  have HN4 := Lib.hid (HN3.out.keep hb4 (by omega))
  have hs4 : w3.heap.size ≤ w4.heap.size := hb4.size
  clear hb4 HP HN3 HO3 c0 c1 c2 c3 c4 c5 c6
  obtain ⟨c0, c1, c2, c3, c4, c5, c6⟩ := HN4.out.all0
  cases fd
  · -- not there: it is laid in
    have hown : v3.ownBlock ≠ some w4.heap.size := fun h => by have := HO4.out.lt _ h; omega
    have HI := Lib.hid (Insert_any v3 zs p w4.heap.size w2.heap.size x _ (HO4.out.alloc (.cells #[.int .u8 x.id, .int .u8 x.rep, .int .u32 x.seq, .int .u32 x.stamp, .int .i64 x.kind, .int .u8 x.cls, .int .u32 x.val] 42)) (by simp; omega) (oneNew_alloc w4 x) hown HXO.out hl hp)
    clear hown
    go_wp2_with fail
    refine (HI.out).mono ?_
    rintro e w5 ⟨v5, rfl, ho5, hb5⟩
    have HO5 := Lib.hid ho5; clear ho5
    have HB5 := Lib.hid ((HB4.out.alloc HB4.out.size (.cells #[.int .u8 x.id, .int .u8 x.rep, .int .u32 x.seq, .int .u32 x.stamp, .int .i64 x.kind, .int .u8 x.cls, .int .u32 x.val] 42)).trans (hb5.mono (by omega)))
    clear hb5 HI
    go_wp2_with fail
    go_ret2
    have ht : T = insL zs p x := by
      rw [← HT.out, takeL, HPE.out, HFD.out]
      rfl
    refine ⟨v5, rfl, ?_, HB5.out⟩
    have := HTK.out
    rw [ht] at this ⊢
    exact HO5.out.sl this
  · have hpl : p < zs.length := by
      have := HFD.out
      simp at this
      exact this.1
    have hyk : zs[p]? = some zs[p] := List.getElem?_eq_getElem hpl
    generalize zs[p] = y at hyk
    have HY := Lib.hid (egetBang_of hyk)
    obtain ⟨A, cc, rfl, _, hA⟩ := HO4.out.form
    obtain ⟨g, rfl, hg1, hg2⟩ := hA (by intro h; simp [h] at hpl)
    have HYA := Lib.hid (HO4.out.cell rfl hyk)
    clear hyk hA
    have m0 := fun p : Later w4 => (HN4.out.later (by omega) p).all0.1
    have m1 := fun p : Later w4 => (HN4.out.later (by omega) p).all0.2.1
    have m2 := fun p : Later w4 => (HN4.out.later (by omega) p).all0.2.2.1
    have m3 := fun p : Later w4 => (HN4.out.later (by omega) p).all0.2.2.2.1
    have m4 := fun p : Later w4 => (HN4.out.later (by omega) p).all0.2.2.2.2.1
    have m5 := fun p : Later w4 => (HN4.out.later (by omega) p).all0.2.2.2.2.2.1
    have m6 := fun p : Later w4 => (HN4.out.later (by omega) p).all0.2.2.2.2.2.2
    have y0 := fun p : Later w4 => (HYA.out.later hg2 p).all.1
    have y1 := fun p : Later w4 => (HYA.out.later hg2 p).all.2.1
    have y2 := fun p : Later w4 => (HYA.out.later hg2 p).all.2.2.1
    have y3 := fun p : Later w4 => (HYA.out.later hg2 p).all.2.2.2.1
    have y4 := fun p : Later w4 => (HYA.out.later hg2 p).all.2.2.2.2.1
    have y5 := fun p : Later w4 => (HYA.out.later hg2 p).all.2.2.2.2.2.1
    have y6 := fun p : Later w4 => (HYA.out.later hg2 p).all.2.2.2.2.2.2
    have r1 := fun W => replaces_any x y W
    simp only [En.agg] at r1
    obtain ⟨rp, hrp⟩ : ∃ rp, repB x y = rp := ⟨_, rfl⟩
    rw [hrp] at r1
    have HRP := Lib.hid hrp; clear hrp
    have R1 := Lib.hid r1; clear r1
    go_wp2_with fail
    have hm : Tryd.prog.follows .mixedOrders = true := HM.out
    refine wp_region_later hm (by kernel_rfl) ?_
    repeat (any_goals (first | go_big_quiet_step (first | (go_at_call 44; exact Calls.later (R1.out _))) | quiet_step (first | (go_at_call 44; exact Calls.later (R1.out _)))))
    refine wpQuiet_nil ?_
    intro wp hw'
    obtain ⟨lp, hlp⟩ := hw'
    have hbp := lp.bel
    rw [← hlp] at hbp
    clear hlp lp m0 m1 m2 m3 m4 m5 m6 y0 y1 y2 y3 y4 y5 y6 c0 c1 c2 c3 c4 c5 c6
    have HO5 := Lib.hid (HO4.out.below hbp)
    have HB5 := Lib.hid (HB4.out.trans (hbp.mono HB4.out.size))
    obtain ⟨c0, c1, c2, c3, c4, c5, c6⟩ := (HN4.out.keep hbp (by omega)).all0
    obtain ⟨d0, d1, d2, d3, d4, d5, d6⟩ := (HYA.out.keep hbp hg2).all
    have hs5 : w4.heap.size ≤ wp.heap.size := hbp.size
    have f := fun j => frozen_own HO5.out j
    clear hbp hm
    cases rp
    · clear f
      go_wp2_with fail
      go_ret2
      have ht : T = zs := by
        rw [← HT.out, takeL, HPE.out, HFD.out, HY.out, HRP.out]
        rfl
      refine ⟨_, rfl, ?_, HB5.out⟩
      have := HTK.out
      rw [ht] at this ⊢
      exact HO5.out.sl this
    · go_wp2_with fail
      go_ret2
      have ht : T = zs.set p x := by
        rw [← HT.out, takeL, HPE.out, HFD.out, HY.out, HRP.out]
        rfl
      obtain ⟨q1, q2⟩ := HO5.out.put hpl x hg1
      refine ⟨_, rfl, ?_, HB5.out.trans (q2.mono (by omega))⟩
      have := HTK.out
      rw [ht] at this ⊢
      have q3 := q1.sl this
      exact q3

theorem Take_any (v : Value) (zs : List En) (x : En) (w : World) (h : ESl w w.heap.size v zs) (hl : zs.length ≤ 9000) (hx : x.ok) :
    Calls Tryd.prog 21 #[v, x.agg] w (TakePost w (takeR zs x)) := by
  unfold takeR
  by_cases hr : erightB zs = true
  · by_cases he : reB x = true
    · rw [if_pos ⟨hr, he⟩]; exact Take_right v zs x w h hl hx hr he
    · rw [if_neg (fun h => he h.2)]; exact Take_wrong2 v zs x w h hl hx hr (by simpa using he)
  · rw [if_neg (fun h => hr h.1)]; exact Take_wrong1 v zs x w h hl (by simpa using hr)
end Go.Proofs.YtfjaeohfigcciaaDoor
