/- Texts in one: TC5. -/
import Derived.Test.YtfjaeohfigcciabGreatDoorQB15
import Derived.Test.YtfjaeohfigcciabGreatDoorQB22
import Derived.Test.YtfjaeohfigcciabGreatDoorQB28
set_option linter.unusedVariables false
set_option linter.unusedSimpArgs false
set_option linter.unusedSectionVars false
set_option linter.unnecessarySimpa false
namespace Go.Proofs.YtfjaeohfigcciabGreatDoor
open Go.RowKit Go.Sort Go.Shelf

theorem wait_split (r : Rp) (n : Nt) : waitB r n = ((n.kind == 2) && ((n.dst == r.rep) && (r.ses.on && ((n.src == r.ses.src) && ((n.num == r.ses.num) && (n.cur == r.ses.cur)))))) := by
  unfold waitB bne
  simp only [Bool.not_not]

set_option maxHeartbeats 8000000 in
set_option maxRecDepth 100000 in
theorem tisWaited_any (r : Rp) (n : Nt) (lr ln : Ls) (w : World) :
    Calls Tryz.prog 103 #[.agg (repR r lr), .agg (noteR n ln)] w fun e w' => e = .returned (.bool (waitB r n)) ∧ Below w.heap.size w w' := by
  have HP := Lib.hid (wait_split r n)
  generalize waitB r n = P at HP ⊢
  unfold repR repRow Rp.cells noteR noteRow Nt.cells
  have HB := Lib.hid (al3 w (.cells #[.int .u8 r.rep, .int .u8 r.flt, .int .u32 r.epoch, .int .u32 r.seq, .slice lr.a r.know.length lr.i, .slice lr.b r.held.length lr.j, .bool r.ses.on, .int .u32 r.ses.num, .int .u8 r.ses.src, .int .u8 r.ses.cur, .int .u32 r.ses.epoch, .slice lr.c r.ses.offer.length lr.k, .int .u32 r.ses.last] 28) (.cells #[.int .i64 n.kind, .int .u8 n.src, .int .u8 n.dst, .int .u32 n.num, .int .u8 n.cur, .int .u8 n.flt, .slice ln.a n.know.length ln.i, .int .u32 n.epoch, .slice ln.b n.ents.length ln.j, .int .u8 n.next, .bool n.done, .slice ln.c n.offer.length ln.k] 30) (.cells #[.bool r.ses.on, .int .u32 r.ses.num, .int .u8 r.ses.src, .int .u8 r.ses.cur, .int .u32 r.ses.epoch, .slice lr.c r.ses.offer.length lr.k, .int .u32 r.ses.last] 26))
  obtain ⟨q0, hq0⟩ : ∃ q : Bool, (n.kind == 2) = q := ⟨_, rfl⟩
  obtain ⟨q1, hq1⟩ : ∃ q : Bool, (n.dst == r.rep) = q := ⟨_, rfl⟩
  obtain ⟨q2, hq2⟩ : ∃ q : Bool, r.ses.on = q := ⟨_, rfl⟩
  obtain ⟨q3, hq3⟩ : ∃ q : Bool, (n.src == r.ses.src) = q := ⟨_, rfl⟩
  obtain ⟨q4, hq4⟩ : ∃ q : Bool, (n.num == r.ses.num) = q := ⟨_, rfl⟩
  obtain ⟨q5, hq5⟩ : ∃ q : Bool, (n.cur == r.ses.cur) = q := ⟨_, rfl⟩
  rw [hq0, hq1, hq2, hq3, hq4, hq5] at HP
  rw [hq2] at HB ⊢
  cases q0
  case false =>
    go_enter Tryz.func103, Tryz.ntmps103
    go_wp2_with fail
    go_ret
    exact ⟨by rw [HP.out]; rfl, HB.out⟩
  cases q1
  case false =>
    go_enter Tryz.func103, Tryz.ntmps103
    go_wp2_with fail
    go_ret
    exact ⟨by rw [HP.out]; rfl, HB.out⟩
  cases q2
  case false =>
    go_enter Tryz.func103, Tryz.ntmps103
    go_wp2_with fail
    go_ret
    exact ⟨by rw [HP.out]; rfl, HB.out⟩
  cases q3
  case false =>
    go_enter Tryz.func103, Tryz.ntmps103
    go_wp2_with fail
    go_ret
    exact ⟨by rw [HP.out]; rfl, HB.out⟩
  cases q4
  case false =>
    go_enter Tryz.func103, Tryz.ntmps103
    go_wp2_with fail
    go_ret
    exact ⟨by rw [HP.out]; rfl, HB.out⟩
  cases q5
  case false =>
    go_enter Tryz.func103, Tryz.ntmps103
    go_wp2_with fail
    go_ret
    exact ⟨by rw [HP.out]; rfl, HB.out⟩
  go_enter Tryz.func103, Tryz.ntmps103
  go_wp2_with fail
  go_ret
  exact ⟨by rw [HP.out]; rfl, HB.out⟩

set_option maxHeartbeats 1000000 in
theorem tahead1_pred (r : Rp) (B : Nat) (w : World) (h1 : B < w.heap.size) (c0 : w.cell? ⟨B, 0, none⟩ = some (.int .u8 r.rep)) (c3 : w.cell? ⟨B, 3, none⟩ = some (.int .u32 r.seq)) :
    PredBelow Tryz.prog 127 #[.pointer (some ⟨B, 0, none⟩)] (fun x : En => .agg x.enc.toArray) (fun x => aheadE r x) w := fun W x hb => by
  have d0 : W.cell? ⟨B, 0, none⟩ = some (.int .u8 r.rep) := (hb.cell (p := ⟨B, 0, none⟩) h1).trans c0
  have d3 : W.cell? ⟨B, 3, none⟩ = some (.int .u32 r.seq) := (hb.cell (p := ⟨B, 3, none⟩) h1).trans c3
  have s1 : B < W.heap.size := Nat.lt_of_lt_of_le h1 hb.size
  show Calls Tryz.prog 127 #[.agg #[.int .u8 x.id, .int .u8 x.rep, .int .u32 x.seq, .int .u32 x.stamp, .int .i64 x.kind, .int .u8 x.cls, .int .u32 x.val], .pointer (some ⟨B, 0, none⟩)] W fun e' w' => e' = .returned (.bool (aheadE r x)) ∧ Below w.heap.size w w'
  have HP := Lib.hid (show aheadE r x = ((x.rep == r.rep) && decide (r.seq < x.seq)) from rfl)
  generalize aheadE r x = P at HP ⊢
  have HB := Lib.hid hb; clear hb
  have n1 : B ≠ W.heap.size := by omega
  obtain ⟨q1, hq1⟩ : ∃ q : Bool, (x.rep == r.rep) = q := ⟨_, rfl⟩
  obtain ⟨q2, hq2⟩ : ∃ q : Bool, decide (r.seq < x.seq) = q := ⟨_, rfl⟩
  have H1 := Lib.hid hq1
  have H2 := Lib.hid hq2
  clear c0 c3
  cases q1 <;> cases q2 <;>
    (go_enter Tryz.func127, Tryz.ntmps127
     go_wp2_with fail
     go_ret
     exact ⟨by rw [HP.out, H1.out, H2.out]; rfl, HB.out.alloc HB.out.size _⟩)
set_option maxHeartbeats 1000000 in
theorem tahead2_pred (rep seq : Int) (B : Nat) (w : World) (h1 : B < w.heap.size) (c0 : w.cell? ⟨B, 0, none⟩ = some (.int .u8 rep)) (c3 : w.cell? ⟨B, 3, none⟩ = some (.int .u32 seq)) :
    PredBelow Tryz.prog 128 #[.pointer (some ⟨B, 0, none⟩)] (fun x : Rn => .agg x.enc.toArray) (fun x => topC rep seq x) w := fun W x hb => by
  have d0 : W.cell? ⟨B, 0, none⟩ = some (.int .u8 rep) := (hb.cell (p := ⟨B, 0, none⟩) h1).trans c0
  have d3 : W.cell? ⟨B, 3, none⟩ = some (.int .u32 seq) := (hb.cell (p := ⟨B, 3, none⟩) h1).trans c3
  have s1 : B < W.heap.size := Nat.lt_of_lt_of_le h1 hb.size
  show Calls Tryz.prog 128 #[.agg #[.int .u8 x.r, .int .u32 x.lo, .int .u32 x.hi], .pointer (some ⟨B, 0, none⟩)] W fun e w' => e = .returned (.bool (topC rep seq x)) ∧ Below w.heap.size w w'
  have HP := Lib.hid (show topC rep seq x = ((x.r == rep) && decide (seq < x.hi)) from rfl)
  generalize topC rep seq x = P at HP ⊢
  have HB := Lib.hid hb; clear hb
  have n1 : B ≠ W.heap.size := by omega
  clear c0 c3
  obtain ⟨q1, hq1⟩ : ∃ q : Bool, (x.r == rep) = q := ⟨_, rfl⟩
  obtain ⟨q2, hq2⟩ : ∃ q : Bool, decide (seq < x.hi) = q := ⟨_, rfl⟩
  have H1 := Lib.hid hq1
  have H2 := Lib.hid hq2
  cases q1 <;> cases q2 <;>
    (go_enter Tryz.func128, Tryz.ntmps128
     go_wp2_with fail
     go_ret
     exact ⟨by rw [HP.out, H1.out, H2.out]; rfl, HB.out.alloc HB.out.size _⟩)
set_option maxHeartbeats 2000000 in
theorem ttakes_pred (e : En) (B : Nat) (w : World) (h1 : B < w.heap.size) (he : EnAt w B 0 e) :
    PredBelow Tryz.prog 130 #[.pointer (some ⟨B, 0, none⟩)] (fun x : En => .agg x.enc.toArray) (fun x => otherHeld e x) w := fun W x hb => by
  obtain ⟨d0, d1, d2, d3, d4, d5, d6⟩ := (he.keep hb h1).all0
  have s1 : B < W.heap.size := Nat.lt_of_lt_of_le h1 hb.size
  show Calls Tryz.prog 130 #[.agg #[.int .u8 x.id, .int .u8 x.rep, .int .u32 x.seq, .int .u32 x.stamp, .int .i64 x.kind, .int .u8 x.cls, .int .u32 x.val], .pointer (some ⟨B, 0, none⟩)] W fun e' w' => e' = .returned (.bool (otherHeld e x)) ∧ Below w.heap.size w w'
  have HP := Lib.hid (show otherHeld e x = ((x.id != e.id) && ((x.rep == e.rep) && (x.seq == e.seq))) from rfl)
  generalize otherHeld e x = P at HP ⊢
  have HB := Lib.hid hb; clear hb
  have n1 : B ≠ W.heap.size := by omega
  obtain ⟨q0, hq0⟩ : ∃ q : Bool, (x.id != e.id) = q := ⟨_, rfl⟩
  obtain ⟨q1, hq1⟩ : ∃ q : Bool, (x.rep == e.rep) = q := ⟨_, rfl⟩
  obtain ⟨q2, hq2⟩ : ∃ q : Bool, (x.seq == e.seq) = q := ⟨_, rfl⟩
  have H0 := Lib.hid hq0
  have H1 := Lib.hid hq1
  have H2 := Lib.hid hq2
  have h0' : (x.id == e.id) = !q0 := by rw [← hq0]; simp [bne]
  clear he
  cases q0 <;> cases q1 <;> cases q2 <;>
    (go_enter Tryz.func130, Tryz.ntmps130
     go_wp2_with fail
     go_ret
     exact ⟨by rw [HP.out, H0.out, H1.out, H2.out]; rfl, HB.out.alloc HB.out.size _⟩)

theorem tahead1_any (r : Rp) (B : Nat) (v : Value) (zs : List En) (w : World) (h : ESl w w.heap.size v zs) (hl : zs.length ≤ 9223372036854775807) (h1 : B < w.heap.size) (c0 : w.cell? ⟨B, 0, none⟩ = some (.int .u8 r.rep)) (c3 : w.cell? ⟨B, 3, none⟩ = some (.int .u32 r.seq)) :
    Calls Tryz.prog 91 #[v, .func (.func 127) #[] #[.pointer (some ⟨B, 0, none⟩)]] w fun e' w' => e' = .returned (.bool (zs.any (fun x => aheadE r x))) ∧ Below w.heap.size w w' := by
  obtain ⟨A, c, rfl, _, hok, hA⟩ := h
  rcases zs with _ | ⟨x0, zs⟩
  · exact (eContainsFunc_none A c _ w).mono fun e w' ⟨he, hw⟩ => ⟨he, by subst hw; exact Below.refl _ _⟩
  · obtain ⟨b, off, rfl, hb, hc⟩ := hA (by simp)
    have eg : ∀ args w, (callFunc 127 args).run Tryz.prog w = .ok (.enter 127 args) w := enters_of Tryz.func127 (by kernel_rfl) rfl
    have hcon := AnyQ.slices_ContainsFunc Tryz.lEContains 7 Tryz.isAgg62 Tryz.sizeOf62 En.enc (fun _ => rfl) (fun x => aheadE r x) 127 _ eg b off (x0 :: zs).length c (x0 :: zs) w
      (tahead1_pred r B w h1 c0 c3) (Nat.le_refl _) hl hb (fun j hj i u hi => by
        have hat := hc j _ (List.getElem?_eq_getElem hj)
        have hg := egetBang_of (List.getElem?_eq_getElem hj)
        rw [hg] at hi
        exact hat i u hi)
    rw [List.take_length] at hcon
    exact hcon

theorem ttakes_any (e : En) (B : Nat) (v : Value) (zs : List En) (w : World) (h : ESl w w.heap.size v zs) (hl : zs.length ≤ 9223372036854775807) (h1 : B < w.heap.size) (he : EnAt w B 0 e) :
    Calls Tryz.prog 91 #[v, .func (.func 130) #[] #[.pointer (some ⟨B, 0, none⟩)]] w fun e' w' => e' = .returned (.bool (zs.any (fun x => otherHeld e x))) ∧ Below w.heap.size w w' := by
  obtain ⟨A, c, rfl, _, hok, hA⟩ := h
  rcases zs with _ | ⟨x0, zs⟩
  · exact (eContainsFunc_none A c _ w).mono fun e w' ⟨he, hw⟩ => ⟨he, by subst hw; exact Below.refl _ _⟩
  · obtain ⟨b, off, rfl, hb, hc⟩ := hA (by simp)
    have eg : ∀ args w, (callFunc 130 args).run Tryz.prog w = .ok (.enter 130 args) w := enters_of Tryz.func130 (by kernel_rfl) rfl
    have hcon := AnyQ.slices_ContainsFunc Tryz.lEContains 7 Tryz.isAgg62 Tryz.sizeOf62 En.enc (fun _ => rfl) (fun x => otherHeld e x) 130 _ eg b off (x0 :: zs).length c (x0 :: zs) w
      (ttakes_pred e B w h1 he) (Nat.le_refl _) hl hb (fun j hj i u hi => by
        have hat := hc j _ (List.getElem?_eq_getElem hj)
        have hg := egetBang_of (List.getElem?_eq_getElem hj)
        rw [hg] at hi
        exact hat i u hi)
    rw [List.take_length] at hcon
    exact hcon

theorem tahead2_any (rep seq : Int) (B : Nat) (v : Value) (zs : List Rn) (w : World) (h : Sl w w.heap.size v zs) (hl : zs.length ≤ 9223372036854775807) (h1 : B < w.heap.size) (c0 : w.cell? ⟨B, 0, none⟩ = some (.int .u8 rep)) (c3 : w.cell? ⟨B, 3, none⟩ = some (.int .u32 seq)) :
    Calls Tryz.prog 88 #[v, .func (.func 128) #[] #[.pointer (some ⟨B, 0, none⟩)]] w fun e w' => e = .returned (.bool (zs.any (fun x => topC rep seq x))) ∧ Below w.heap.size w w' := by
  obtain ⟨A, c, rfl, _, hok, hA⟩ := h
  rcases zs with _ | ⟨x0, zs⟩
  · exact (ContainsFunc_none A c _ w).mono fun e w' ⟨he, hw⟩ => ⟨he, by subst hw; exact Below.refl _ _⟩
  · obtain ⟨b, off, rfl, hb, hc⟩ := hA (by simp)
    have eg : ∀ args w, (callFunc 128 args).run Tryz.prog w = .ok (.enter 128 args) w := enters_of Tryz.func128 (by kernel_rfl) rfl
    have hcon := AnyQ.slices_ContainsFunc Tryz.lContains 3 Tryz.isAgg67 Tryz.sizeOf67 Rn.enc (fun _ => rfl) (fun x => topC rep seq x) 128 _ eg b off (x0 :: zs).length c (x0 :: zs) w
      (tahead2_pred rep seq B w h1 c0 c3) (Nat.le_refl _) hl hb (fun j hj i u hi => by
        have hat := hc j _ (List.getElem?_eq_getElem hj)
        have hg : (x0 :: zs)[j]! = (x0 :: zs)[j] := by simp [List.getElem!_eq_getElem?_getD, List.getElem?_eq_getElem hj]
        rw [hg] at hi
        generalize (x0 :: zs)[j] = y at hi hat
        obtain ⟨q0, q1, q2⟩ := hat
        match i, hi with
        | 0, hi => simp [Rn.enc] at hi; rw [← hi]; exact q0
        | 1, hi => simp [Rn.enc] at hi; rw [← hi]; exact q1
        | 2, hi => simp [Rn.enc] at hi; rw [← hi]; exact q2
        | i + 3, hi => simp [Rn.enc] at hi)
    rw [List.take_length] at hcon
    exact hcon

set_option maxHeartbeats 8000000 in
set_option maxRecDepth 100000 in
theorem tisAhead_any (r : Rp) (n : Nt) (lr ln : Ls) (w : World) (hv : RpV w w.heap.size (.agg (repR r lr)) r) (hu : NtV w w.heap.size (.agg (noteR n ln)) n) (g2 : n.ents.length ≤ 1000) (g3 : n.offer.length ≤ 1000) :
    Calls Tryz.prog 104 #[.agg (repR r lr), .agg (noteR n ln)] w fun e w' => e = .returned (.bool (aheadR r n)) ∧ Below w.heap.size w w' := by
  have HV := Lib.hid hv
  have HU := Lib.hid hu
  have C1 := Lib.hid (fun w1 (hb : Below w.heap.size w w1) (h1 : w.heap.size < w1.heap.size) c0 c3 => tahead1_any r w.heap.size (.slice ln.b n.ents.length ln.j) n.ents w1 (HU.out.later hb).sen (by omega) h1 c0 c3)
  have C2 := Lib.hid (fun w1 (hb : Below w.heap.size w w1) (h1 : w.heap.size < w1.heap.size) c0 c3 => tahead2_any r.rep r.seq w.heap.size (.slice ln.c n.offer.length ln.k) n.offer w1 (HU.out.later hb).sof (by omega) h1 c0 c3)
  have HP := Lib.hid (show aheadR r n = (n.ents.any (fun x => aheadE r x) || n.offer.any (fun x => topC r.rep r.seq x)) from rfl)
  generalize aheadR r n = P at HP ⊢
  generalize n.ents.any (fun x => aheadE r x) = b1 at HP C1
  generalize n.offer.any (fun x => topC r.rep r.seq x) = b2 at HP C2
  have hmf : ∀ (fn : Fn) (first cap : Array Value) (w : World), (Instr.makeFunc fn first cap).run Tryz.prog w = .ok (.func fn first cap) w := fun _ _ _ _ => rfl
  clear hv hu g2 g3
  unfold repR repRow Rp.cells noteR noteRow Nt.cells
  go_enter Tryz.func104, Tryz.ntmps104
  go_wp2_with fail
  have BR := Lib.hid ((Blk.new w #[.int .u8 r.rep, .int .u8 r.flt, .int .u32 r.epoch, .int .u32 r.seq, .slice lr.a r.know.length lr.i, .slice lr.b r.held.length lr.j, .bool r.ses.on, .int .u32 r.ses.num, .int .u8 r.ses.src, .int .u8 r.ses.cur, .int .u32 r.ses.epoch, .slice lr.c r.ses.offer.length lr.k, .int .u32 r.ses.last] 28).alloc (.cells #[.int .i64 n.kind, .int .u8 n.src, .int .u8 n.dst, .int .u32 n.num, .int .u8 n.cur, .int .u8 n.flt, .slice ln.a n.know.length ln.i, .int .u32 n.epoch, .slice ln.b n.ents.length ln.j, .int .u8 n.next, .bool n.done, .slice ln.c n.offer.length ln.k] 30))
  have BN := Lib.hid (blk_two w (.cells #[.int .u8 r.rep, .int .u8 r.flt, .int .u32 r.epoch, .int .u32 r.seq, .slice lr.a r.know.length lr.i, .slice lr.b r.held.length lr.j, .bool r.ses.on, .int .u32 r.ses.num, .int .u8 r.ses.src, .int .u8 r.ses.cur, .int .u32 r.ses.epoch, .slice lr.c r.ses.offer.length lr.k, .int .u32 r.ses.last] 28) #[.int .i64 n.kind, .int .u8 n.src, .int .u8 n.dst, .int .u32 n.num, .int .u8 n.cur, .int .u8 n.flt, .slice ln.a n.know.length ln.i, .int .u32 n.epoch, .slice ln.b n.ents.length ln.j, .int .u8 n.next, .bool n.done, .slice ln.c n.offer.length ln.k] 30)
  have HB := Lib.hid (al2 w (.cells #[.int .u8 r.rep, .int .u8 r.flt, .int .u32 r.epoch, .int .u32 r.seq, .slice lr.a r.know.length lr.i, .slice lr.b r.held.length lr.j, .bool r.ses.on, .int .u32 r.ses.num, .int .u8 r.ses.src, .int .u8 r.ses.cur, .int .u32 r.ses.epoch, .slice lr.c r.ses.offer.length lr.k, .int .u32 r.ses.last] 28) (.cells #[.int .i64 n.kind, .int .u8 n.src, .int .u8 n.dst, .int .u32 n.num, .int .u8 n.cur, .int .u8 n.flt, .slice ln.a n.know.length ln.i, .int .u32 n.epoch, .slice ln.b n.ents.length ln.j, .int .u8 n.next, .bool n.done, .slice ln.c n.offer.length ln.k] 30))
  generalize (w.alloc (.cells #[.int .u8 r.rep, .int .u8 r.flt, .int .u32 r.epoch, .int .u32 r.seq, .slice lr.a r.know.length lr.i, .slice lr.b r.held.length lr.j, .bool r.ses.on, .int .u32 r.ses.num, .int .u8 r.ses.src, .int .u8 r.ses.cur, .int .u32 r.ses.epoch, .slice lr.c r.ses.offer.length lr.k, .int .u32 r.ses.last] 28)).alloc (.cells #[.int .i64 n.kind, .int .u8 n.src, .int .u8 n.dst, .int .u32 n.num, .int .u8 n.cur, .int .u8 n.flt, .slice ln.a n.know.length ln.i, .int .u32 n.epoch, .slice ln.b n.ents.length ln.j, .int .u8 n.next, .bool n.done, .slice ln.c n.offer.length ln.k] 30) = W0 at BR BN HB ⊢
  refine (C1.out W0 HB.out BR.out.lt (BR.out.cell 0 _ rfl) (BR.out.cell 3 _ rfl)).mono ?_
  rintro e w1 ⟨rfl, hb⟩
  have BR := Lib.hid (BR.out.keep hb)
  have BN := Lib.hid (BN.out.keep hb)
  have HB := Lib.hid (HB.out.trans (hb.mono HB.out.size)); clear hb
  cases b1
  · have d11 := BN.out.cell 11 (.slice ln.c n.offer.length ln.k) rfl
    go_wp2_with fail
    refine (C2.out w1 HB.out BR.out.lt (BR.out.cell 0 _ rfl) (BR.out.cell 3 _ rfl)).mono ?_
    rintro e w2 ⟨rfl, hb⟩
    have HB := Lib.hid (HB.out.trans (hb.mono HB.out.size)); clear hb
    go_wp2_with fail
    go_ret
    exact ⟨by rw [HP.out]; cases b2 <;> rfl, HB.out⟩
  · go_wp2_with fail
    go_ret
    exact ⟨by rw [HP.out]; rfl, HB.out⟩

set_option maxHeartbeats 4000000 in
set_option maxRecDepth 100000 in
theorem tclash_pred (r : Rp) (n : Nt) (lr ln : Ls) (B G : Nat) (w : World) (hG : Blk w G (repR r lr) 28) (hB : Blk w B (noteR n ln) 30) (hv : RpV w w.heap.size (.agg (repR r lr)) r) (hu : NtV w w.heap.size (.agg (noteR n ln)) n) (h2 : r.held.length ≤ 1000) (g2 : n.ents.length ≤ 1000) :
    PredBelow Tryz.prog 129 #[.pointer (some ⟨B, 0, none⟩), .pointer (some ⟨G, 0, none⟩)] (fun x : En => .agg x.enc.toArray) (fun x => n.ents.any (fun y => otherHeld x y) || r.held.any (fun y => otherHeld x y)) w := fun W x hb => by
  have hmf : ∀ (fn : Fn) (first cap : Array Value) (w : World), (Instr.makeFunc fn first cap).run Tryz.prog w = .ok (.func fn first cap) w := fun _ _ _ _ => rfl
  show Calls Tryz.prog 129 #[.agg #[.int .u8 x.id, .int .u8 x.rep, .int .u32 x.seq, .int .u32 x.stamp, .int .i64 x.kind, .int .u8 x.cls, .int .u32 x.val], .pointer (some ⟨B, 0, none⟩), .pointer (some ⟨G, 0, none⟩)] W fun e' w' => e' = .returned (.bool (n.ents.any (fun y => otherHeld x y) || r.held.any (fun y => otherHeld x y))) ∧ Below w.heap.size w w'
  have HV := Lib.hid (hv.later hb)
  have HU := Lib.hid (hu.later hb)
  have BR := Lib.hid ((hG.keep hb).alloc (.cells #[.int .u8 x.id, .int .u8 x.rep, .int .u32 x.seq, .int .u32 x.stamp, .int .i64 x.kind, .int .u8 x.cls, .int .u32 x.val] 62))
  have BN := Lib.hid ((hB.keep hb).alloc (.cells #[.int .u8 x.id, .int .u8 x.rep, .int .u32 x.seq, .int .u32 x.stamp, .int .i64 x.kind, .int .u8 x.cls, .int .u32 x.val] 62))
  have HB := Lib.hid (hb.alloc hb.size (.cells #[.int .u8 x.id, .int .u8 x.rep, .int .u32 x.seq, .int .u32 x.stamp, .int .i64 x.kind, .int .u8 x.cls, .int .u32 x.val] 62))
  have XE := Lib.hid (new_entry W x 62)
  have hal := Lib.hid (al1 W (.cells #[.int .u8 x.id, .int .u8 x.rep, .int .u32 x.seq, .int .u32 x.stamp, .int .i64 x.kind, .int .u8 x.cls, .int .u32 x.val] 62))
  have hlt := Lib.hid (show W.heap.size < (W.alloc (.cells #[.int .u8 x.id, .int .u8 x.rep, .int .u32 x.seq, .int .u32 x.stamp, .int .i64 x.kind, .int .u8 x.cls, .int .u32 x.val] 62)).heap.size by simp)
  have d8 := BN.out.cell 8 (.slice ln.b n.ents.length ln.j) rfl
  have C1 := Lib.hid (fun w1 (hb1 : Below W.heap.size W w1) (h1 : W.heap.size < w1.heap.size) he => ttakes_any x W.heap.size (.slice ln.b n.ents.length ln.j) n.ents w1 (HU.out.later hb1).sen (by omega) h1 he)
  have C2 := Lib.hid (fun w1 (hb1 : Below W.heap.size W w1) (h1 : W.heap.size < w1.heap.size) he => ttakes_any x W.heap.size (.slice lr.b r.held.length lr.j) r.held w1 (HV.out.later hb1).she (by omega) h1 he)
  generalize n.ents.any (fun y => otherHeld x y) = b1 at C1 ⊢
  generalize r.held.any (fun y => otherHeld x y) = b2 at C2 ⊢
  clear hG hB hv hu h2 g2 hb
  go_enter Tryz.func129, Tryz.ntmps129
  go_wp2_with fail
  refine (C1.out _ hal.out hlt.out XE.out).mono ?_
  rintro e w1 ⟨rfl, hb⟩
  have BR := Lib.hid (BR.out.keep hb)
  have XE := Lib.hid (XE.out.keep hb hlt.out)
  have HB := Lib.hid (HB.out.trans (hb.mono HB.out.size))
  have hlt1 := Lib.hid (Nat.lt_of_lt_of_le hlt.out hb.size)
  have hal1' := Lib.hid (hal.out.trans (hb.mono hal.out.size)); clear hb
  cases b1
  · have c5 := BR.out.cell 5 (.slice lr.b r.held.length lr.j) rfl
    clear d8
    go_wp2_with fail
    refine (C2.out _ hal1'.out hlt1.out XE.out).mono ?_
    rintro e w2 ⟨rfl, hb⟩
    have HB := Lib.hid (HB.out.trans (hb.mono HB.out.size)); clear hb
    go_wp2_with fail
    go_ret
    exact ⟨by cases b2 <;> rfl, HB.out⟩
  · go_wp2_with fail
    go_ret
    exact ⟨rfl, HB.out⟩

theorem tclash_any (r : Rp) (n : Nt) (lr ln : Ls) (B G : Nat) (v : Value) (zs : List En) (w : World) (h : ESl w w.heap.size v zs) (hl : zs.length ≤ 9223372036854775807) (hG : Blk w G (repR r lr) 28) (hB : Blk w B (noteR n ln) 30) (hv : RpV w w.heap.size (.agg (repR r lr)) r) (hu : NtV w w.heap.size (.agg (noteR n ln)) n) (h2 : r.held.length ≤ 1000) (g2 : n.ents.length ≤ 1000) :
    Calls Tryz.prog 91 #[v, .func (.func 129) #[] #[.pointer (some ⟨B, 0, none⟩), .pointer (some ⟨G, 0, none⟩)]] w fun e' w' => e' = .returned (.bool (zs.any (fun x => n.ents.any (fun y => otherHeld x y) || r.held.any (fun y => otherHeld x y)))) ∧ Below w.heap.size w w' := by
  obtain ⟨A, c, rfl, _, hok, hA⟩ := h
  rcases zs with _ | ⟨x0, zs⟩
  · exact (eContainsFunc_none A c _ w).mono fun e w' ⟨he, hw⟩ => ⟨he, by subst hw; exact Below.refl _ _⟩
  · obtain ⟨b, off, rfl, hb, hc⟩ := hA (by simp)
    have eg : ∀ args w, (callFunc 129 args).run Tryz.prog w = .ok (.enter 129 args) w := enters_of Tryz.func129 (by kernel_rfl) rfl
    have hcon := AnyQ.slices_ContainsFunc Tryz.lEContains 7 Tryz.isAgg62 Tryz.sizeOf62 En.enc (fun _ => rfl) (fun x => n.ents.any (fun y => otherHeld x y) || r.held.any (fun y => otherHeld x y)) 129 _ eg b off (x0 :: zs).length c (x0 :: zs) w
      (tclash_pred r n lr ln B G w hG hB hv hu h2 g2) (Nat.le_refl _) hl hb (fun j hj i u hi => by
        have hat := hc j _ (List.getElem?_eq_getElem hj)
        have hg := egetBang_of (List.getElem?_eq_getElem hj)
        rw [hg] at hi
        exact hat i u hi)
    rw [List.take_length] at hcon
    exact hcon

set_option maxHeartbeats 8000000 in
set_option maxRecDepth 100000 in
theorem tclashes_any (r : Rp) (n : Nt) (lr ln : Ls) (w : World) (hv : RpV w w.heap.size (.agg (repR r lr)) r) (hu : NtV w w.heap.size (.agg (noteR n ln)) n) (h2 : r.held.length ≤ 1000) (g2 : n.ents.length ≤ 1000) :
    Calls Tryz.prog 105 #[.agg (repR r lr), .agg (noteR n ln)] w fun e w' => e = .returned (.bool (clashR r n)) ∧ Below w.heap.size w w' := by
  have hmf : ∀ (fn : Fn) (first cap : Array Value) (w : World), (Instr.makeFunc fn first cap).run Tryz.prog w = .ok (.func fn first cap) w := fun _ _ _ _ => rfl
  have HB := Lib.hid (al2 w (.cells (repR r lr) 28) (.cells (noteR n ln) 30))
  have C1 := Lib.hid (tclash_any r n lr ln (w.heap.size + 1) w.heap.size (.slice ln.b n.ents.length ln.j) n.ents _ (hu.later HB.out).sen (by omega) ((Blk.new w (repR r lr) 28).alloc (.cells (noteR n ln) 30)) (blk_two w (.cells (repR r lr) 28) (noteR n ln) 30) (hv.later HB.out) (hu.later HB.out) h2 g2)
  change Hid (Calls _ _ _ _ (fun e' w' => e' = .returned (.bool (clashR r n)) ∧ Below _ _ w')) at C1
  generalize clashR r n = P at C1 ⊢
  have d8 := (blk_two w (.cells (repR r lr) 28) (noteR n ln) 30).cell 8 (.slice ln.b n.ents.length ln.j) rfl
  clear hv hu h2 g2
  unfold repR repRow Rp.cells noteR noteRow Nt.cells at HB C1 d8 ⊢
  go_enter Tryz.func105, Tryz.ntmps105
  go_wp2_with fail
  refine (C1.out).mono ?_
  rintro e w1 ⟨rfl, hb⟩
  have HB := Lib.hid (HB.out.trans (hb.mono HB.out.size)); clear hb
  go_wp2_with fail
  go_ret
  exact ⟨rfl, HB.out⟩
end Go.Proofs.YtfjaeohfigcciabGreatDoor

