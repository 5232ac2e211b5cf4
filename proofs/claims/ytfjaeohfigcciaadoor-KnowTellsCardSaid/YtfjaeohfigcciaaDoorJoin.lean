/- The contract of know.joined: runs in order, those that overlap or touch made one. -/
import Derived.Test.YtfjaeohfigcciaaDoorDrop
import Derived.RegionTactic
import Derived.BigRegion
namespace Go.Proofs.YtfjaeohfigcciaaDoor
open Go.RowKit Go.Sort

def joinS (out : List Rn) (x : Rn) : List Rn :=
  match out[out.length - 1]? with
  | none => out ++ [x]
  | some l => if apB l x then out ++ [x] else out.set (out.length - 1) ⟨l.r, l.lo, max l.hi x.hi⟩
def joinL (zs : List Rn) : List Rn := zs.foldl joinS []

theorem joinS_nil (x : Rn) : joinS [] x = [] ++ [x] := rfl
theorem joinS_app {Y : List Rn} {m : Nat} {y x : Rn} (hm : Y.length = m + 1) (hy : Y[m]? = some y) (h : apB y x = true) : joinS Y x = Y ++ [x] := by
  unfold joinS
  rw [show Y[Y.length - 1]? = some y by rw [hm]; exact hy]
  simp only [h, if_true]
theorem joinS_set {Y : List Rn} {m : Nat} {y x : Rn} (hm : Y.length = m + 1) (hy : Y[m]? = some y) (h : apB y x = false) : joinS Y x = Y.set m ⟨y.r, y.lo, max y.hi x.hi⟩ := by
  unfold joinS
  rw [show Y[Y.length - 1]? = some y by rw [hm]; exact hy]
  simp only [h, hm, Nat.add_sub_cancel]
  rfl
theorem joinS_len (Y : List Rn) (x : Rn) : (joinS Y x).length ≤ Y.length + 1 := by
  unfold joinS; split
  · simp
  · split <;> simp
theorem joinS_ok {Y : List Rn} {x : Rn} (h : ∀ y ∈ Y, y.ok) (hx : x.ok) : ∀ y ∈ joinS Y x, y.ok := by
  intro y hy
  unfold joinS at hy
  split at hy
  · simp at hy
    rcases hy with hy | rfl
    · exact h y hy
    · exact hx
  · rename_i l hl
    split at hy
    · simp at hy
      rcases hy with hy | rfl
      · exact h y hy
      · exact hx
    · rcases List.mem_or_eq_of_mem_set hy with hy | rfl
      · exact h y hy
      · obtain ⟨a1, a2, a3⟩ := h l (List.mem_of_getElem? hl)
        obtain ⟨b1, b2, b3⟩ := hx
        refine ⟨a1, a2, ?_, ?_⟩ <;> simp <;> omega
theorem joinL_take {zs : List Rn} {k : Nat} {x : Rn} (h : zs[k]? = some x) : joinL (zs.take (k + 1)) = joinS (joinL (zs.take k)) x := by
  obtain ⟨hk, hx⟩ := List.getElem?_eq_some_iff.1 h
  rw [List.take_succ_eq_append_getElem hk, hx]
  simp [joinL]
theorem foldl_ok (zs : List Rn) : ∀ Y : List Rn, (∀ y ∈ Y, y.ok) → (∀ x ∈ zs, x.ok) → (∀ y ∈ zs.foldl joinS Y, y.ok) ∧ (zs.foldl joinS Y).length ≤ Y.length + zs.length := by
  induction zs with
  | nil => intro Y h _; exact ⟨h, by simp⟩
  | cons x l ih =>
    intro Y h hx
    have := ih (joinS Y x) (joinS_ok h (hx x (by simp))) (fun z hz => hx z (by simp [hz]))
    refine ⟨this.1, ?_⟩
    have h2 := joinS_len Y x
    have h3 := this.2
    simp only [List.foldl_cons, List.length_cons]
    omega
theorem joinL_ok {zs : List Rn} (h : ∀ x ∈ zs, x.ok) : ∀ y ∈ joinL zs, y.ok := (foldl_ok zs [] (by simp) h).1
theorem joinL_len {zs : List Rn} (h : ∀ x ∈ zs, x.ok) : (joinL zs).length ≤ zs.length := by have := (foldl_ok zs [] (by simp) h).2; unfold joinL; simpa using this

theorem Own.form' {w : World} {base : Nat} {v : Value} {zs : List Rn} (h : Own w base v zs) : ∃ A n c, v = .slice A n c ∧ n = zs.length ∧ (A = none → c = 0) ∧ (zs ≠ [] → ∃ g, A = some ⟨g, 0, none⟩ ∧ base ≤ g ∧ g < w.heap.size) := by
  obtain ⟨A, c, h1, h2, h3⟩ := h.form
  exact ⟨A, _, c, h1, rfl, h2, h3⟩

set_option maxHeartbeats 2000000 in
theorem joined_any (v : Value) (zs : List Rn) (w : World) (hz : zs.length ≤ 500) (h : Sl w w.heap.size v zs) :
    Calls Tryd.prog 36 #[v] w (OwnPost w (joinL zs)) := by
  obtain ⟨A, c, rfl, _, hok, hA⟩ := h
  have HA := Lib.hid hA; clear hA
  have HK := Lib.hid hok; clear hok
  have hm : Tryd.prog.follows .mixedOrders = true := by kernel_rfl
  have HM := Lib.hid hm; clear hm
  generalize hL : joinL zs = L
  have HL := Lib.hid hL; clear hL
  go_enter Tryd.func36, Tryd.ntmps36
  go_wp2
  go_loopw [3, 9] (fun s i wr => ∃ k : Nat, i = .int .i64 k ∧ k ≤ zs.length ∧ DropRel w (joinL (zs.take k)) s wr) (fun _ i _ => zs.length - (intOf i).toNat)
  case atStart => exact ⟨0, rfl, by omega, Own.nil _ _, Below.refl _ _⟩
  case round =>
    obtain ⟨k, rfl, hk, H⟩ := hrel
    by_cases hlt : k < zs.length
    · obtain ⟨b, off, rfl, hbw, hc⟩ := HA.out (by intro h; simp [h] at hlt)
      have hxk : zs[k]? = some zs[k] := List.getElem?_eq_getElem hlt
      generalize zs[k] = x at hxk
      have hxo := HK.out x (List.mem_of_getElem? hxk)
      have hokt : ∀ y ∈ zs.take k, y.ok := fun y hy => HK.out y (List.mem_of_mem_take hy)
      have hdl := joinL_len hokt
      have hyo := joinL_ok hokt
      have hdt := joinL_take hxk
      clear hokt
      rw [List.length_take] at hdl
      have hdl' : (joinL (zs.take k)).length ≤ 500 := by omega
      clear hdl
      obtain ⟨c0, c1, c2⟩ := (hc k x hxk).keep H.2 hbw
      clear hc
      have HX := Lib.hid hxk; clear hxk
      have HO := Lib.hid hxo; clear hxo
      have HT := Lib.hid hdt; clear hdt
      have HYO := Lib.hid hyo; clear hyo
      have H0 := Lib.hid H
      have ho := H.1
      have hsz := H.2.size
      clear H
      generalize hY : joinL (zs.take k) = Y at hdl' ho HT H0 HYO
      clear hY
      have hnew := new_run wr x
      have hal := fun (B : Nat) (hB : B ≤ wr.heap.size) => (Below.refl B wr).alloc hB (.cells #[.int .u8 x.r, .int .u32 x.lo, .int .u32 x.hi] 51)
      have hsz2 : wr.heap.size ≤ (wr.alloc (.cells #[.int .u8 x.r, .int .u32 x.lo, .int .u32 x.hi] 51)).heap.size := by simp
      have hold := fun (b o : Nat) (y : Rn) (n : Nat) (os : Array Obj) (h : RnAt wr b o y) (hb : b < wr.heap.size) => old_run (B := wr.heap.size) wr (.cells #[.int .u8 x.r, .int .u32 x.lo, .int .u32 x.hi] 51) n os h hb (Nat.le_refl _)
      have HN := Lib.hid hnew; clear hnew
      have HL2 := Lib.hid hal; clear hal
      have HD := Lib.hid hold; clear hold
      obtain ⟨A2, n2, c2', rfl, hn2, hcz, hform⟩ := ho.form'
      have HF := Lib.hid hform; clear hform
      by_cases hY0 : Y = []
      · subst hY0
        obtain rfl : n2 = 0 := hn2
        clear HF
        go_wp2_with fail
        generalize hwq : wr.alloc (.cells #[.int .u8 x.r, .int .u32 x.lo, .int .u32 x.hi] 51) = wq at HN HL2 HD hsz2 ⊢
        clear hwq
        have m0 := fun n os => (HN.out n os).1
        have m1 := fun n os => (HN.out n os).2.1
        have m2 := fun n os => (HN.out n os).2.2
        have hm : Tryd.prog.follows .mixedOrders = true := HM.out
        refine wp_region_quiet_grown hm (by kernel_rfl) ?_
        repeat (any_goals (first | go_big_quiet_step (fail) | quiet_step (fail)))
        refine wpQuiet_nil ?_
        intro _ hw'
        obtain ⟨⟨nq, osq⟩, hw''⟩ := hw'
        subst hw''
        have hbn : Below wr.heap.size wr (grow (wq.drewN nq) osq) := (HL2.out _ (Nat.le_refl _)).trans (below_grow wq nq osq hsz2)
        have g0 := m0 nq osq
        have g1 := m1 nq osq
        have g2 := m2 nq osq
        clear m0 m1 m2
        generalize grow (wq.drewN nq) osq = w3 at hbn g0 g1 g2 ⊢
        have hs3 := hbn.size
        have HB3 := Lib.hid hbn; clear hbn
        clear HL2 HD HN
        go_wp2_with (at_builtin; (refine append_runs rfl _ _ rfl w.heap.size _ [] rfl ((ho.below HB3.out).alloc _) _ _ [⟨x.r, x.lo, x.hi⟩] rfl (one_sl _ _ x.r x.lo x.hi (by simp) HO.out) (by simp) (by simp; omega) ?_); intro v1 w5 ho1 hg1)
        go_roundw
        case rel =>
          refine ⟨k + 1, by go_num, by omega, ?_⟩
          rw [HT.out, joinS_nil]
          exact H0.out.step (HB3.out.alloc hs3 _) hg1 ho1
        case measure => simp [intOf]; omega
      · obtain ⟨g, rfl, hg1, hg2⟩ := HF.out hY0
        have hpos : 0 < Y.length := by
          rcases Y with _ | ⟨_, _⟩
          · exact absurd rfl hY0
          · simp
        obtain ⟨m, rfl⟩ : ∃ m, n2 = m + 1 := ⟨n2 - 1, by omega⟩
        have hym : Y[m]? = some Y[m] := List.getElem?_eq_getElem (by omega)
        generalize Y[m] = y at hym
        obtain ⟨_, ⟨_, _⟩, p5, p6⟩ := HYO.out y (List.mem_of_getElem? hym)
        obtain ⟨o3, o4⟩ := HO.out.2.1
        obtain ⟨o5, o6⟩ := HO.out.2.2
        have hya := ho.cell hn2 hym
        have HYA := Lib.hid hya; clear hya
        have r2 := fun (W : World) n os => apart_grown y.r y.lo y.hi x.r x.lo x.hi W n os p5 p6 o3 o4
        rw [show apB ⟨y.r, y.lo, y.hi⟩ ⟨x.r, x.lo, x.hi⟩ = apB y x from rfl] at r2
        have hmk : m ≤ 500 := by omega
        have HN2 := Lib.hid hn2; clear hn2
        have HYM := Lib.hid hym; clear hym
        clear HF hcz hpos
        by_cases hp : apB y x = true
        · rw [hp] at r2
          have HP := Lib.hid hp; clear hp
          have R2 := Lib.hid r2; clear r2
          go_wp2_with fail
          generalize hwq : wr.alloc (.cells #[.int .u8 x.r, .int .u32 x.lo, .int .u32 x.hi] 51) = wq at HN HL2 HD hsz2 ⊢
          clear hwq
          have m0 := fun n os => (HN.out n os).1
          have m1 := fun n os => (HN.out n os).2.1
          have m2 := fun n os => (HN.out n os).2.2
          have y0 := fun n os => (HD.out _ _ _ n os HYA.out hg2).1
          have y1 := fun n os => (HD.out _ _ _ n os HYA.out hg2).2.1
          have y2 := fun n os => (HD.out _ _ _ n os HYA.out hg2).2.2
          have i1 : IntKind.i64.wrap (m : Int) = (m : Int) := IntWalk.i64_in _ (by omega)
          have i3 : (decide ((m : Int) < 0)) = false := by simp
          have hm : Tryd.prog.follows .mixedOrders = true := HM.out
          refine wp_region_quiet_grown hm (by kernel_rfl) ?_
          repeat (any_goals (first | go_big_quiet_step (first | (go_at_call 32; exact R2.out _ _ _)) | quiet_step (first | (go_at_call 32; exact R2.out _ _ _))))
          refine wpQuiet_nil ?_
          intro _ hw'
          obtain ⟨⟨nq, osq⟩, hw''⟩ := hw'
          subst hw''
          clear i1 i3
          have hbn : Below wr.heap.size wr (grow (wq.drewN nq) osq) := (HL2.out _ (Nat.le_refl _)).trans (below_grow wq nq osq hsz2)
          have g0 := m0 nq osq
          have g1 := m1 nq osq
          have g2 := m2 nq osq
          clear m0 m1 m2 y0 y1 y2
          have hsw : wr.heap.size < (grow (wq.drewN nq) osq).heap.size := World.block_lt_of_cell? _ ⟨wr.heap.size, 0, none⟩ g0
          generalize grow (wq.drewN nq) osq = w3 at hbn g0 g1 g2 hsw ⊢
          have hs3 := hbn.size
          have HB3 := Lib.hid hbn; clear hbn
          clear HL2 HD HN
          go_wp2_with (at_builtin; (refine append_runs rfl _ _ rfl w.heap.size _ Y rfl ((ho.below HB3.out).alloc _) _ _ [⟨x.r, x.lo, x.hi⟩] rfl (one_sl _ _ x.r x.lo x.hi (by simp) HO.out) (by simp; omega) (by simp; omega) ?_); intro v1 w5 ho1 hg1)
          go_roundw
          case rel =>
            refine ⟨k + 1, by go_num, by omega, ?_⟩
            rw [HT.out, joinS_app HN2.out.symm HYM.out HP.out]
            exact H0.out.step (HB3.out.alloc hs3 _) hg1 ho1
          case measure => simp [intOf]; omega
        · have hp : apB y x = false := by simpa using hp
          rw [hp] at r2
          have HP := Lib.hid hp; clear hp
          have R2 := Lib.hid r2; clear r2
          go_wp2_with fail
          generalize hwq : wr.alloc (.cells #[.int .u8 x.r, .int .u32 x.lo, .int .u32 x.hi] 51) = wq at HN HL2 HD hsz2 ⊢
          clear hwq
          have m0 := fun n os => (HN.out n os).1
          have m1 := fun n os => (HN.out n os).2.1
          have m2 := fun n os => (HN.out n os).2.2
          have y0 := fun n os => (HD.out _ _ _ n os HYA.out hg2).1
          have y1 := fun n os => (HD.out _ _ _ n os HYA.out hg2).2.1
          have y2 := fun n os => (HD.out _ _ _ n os HYA.out hg2).2.2
          have i1 : IntKind.i64.wrap (m : Int) = (m : Int) := IntWalk.i64_in _ (by omega)
          have i3 : (decide ((m : Int) < 0)) = false := by simp
          have hm : Tryd.prog.follows .mixedOrders = true := HM.out
          refine wp_region_quiet_grown hm (by kernel_rfl) ?_
          repeat (any_goals (first | go_big_quiet_step (first | (go_at_call 32; exact R2.out _ _ _)) | quiet_step (first | (go_at_call 32; exact R2.out _ _ _))))
          refine wpQuiet_nil ?_
          intro _ hw'
          obtain ⟨⟨nq, osq⟩, hw''⟩ := hw'
          subst hw''
          clear i1 i3
          have hbn : Below wr.heap.size wr (grow (wq.drewN nq) osq) := (HL2.out _ (Nat.le_refl _)).trans (below_grow wq nq osq hsz2)
          have g0 := m0 nq osq
          have g1 := m1 nq osq
          have g2 := m2 nq osq
          clear m0 m1 m2 y0 y1 y2
          have hsw : wr.heap.size < (grow (wq.drewN nq) osq).heap.size := World.block_lt_of_cell? _ ⟨wr.heap.size, 0, none⟩ g0
          generalize grow (wq.drewN nq) osq = w3 at hbn g0 g1 g2 hsw ⊢
          have hs3 := hbn.size
          have HB3 := Lib.hid hbn; clear hbn
          clear HL2 HD HN
          have ho3 := ho.below HB3.out
          obtain ⟨q0, q1, q2⟩ := ho3.cell HN2.out HYM.out
          have hfz := ho3.frozen HN2.out (m * 3 + 2)
          have HO3 := Lib.hid ho3; clear ho3
          clear ho
          go_wp2_with fail
          go_region
          go_wp2
          go_roundw
          case rel =>
            refine ⟨k + 1, by go_num, by omega, ?_⟩
            rw [HT.out, joinS_set HN2.out.symm HYM.out HP.out]
            have hs := HO3.out.set HN2.out HYM.out (max y.hi x.hi)
            have D := H0.out.step HB3.out hs.2 hs.1
            exact ⟨D.1, D.2.drew⟩
          case measure => simp [intOf]; omega
    · have ht : zs.take k = zs := List.take_of_length_le (by omega)
      rw [ht] at H
      have H1 := Lib.hid H; clear H ht
      go_wp2
      go_ret
      rw [← HL.out]
      exact ⟨_, rfl, H1.out.1, H1.out.2⟩
end Go.Proofs.YtfjaeohfigcciaaDoor

