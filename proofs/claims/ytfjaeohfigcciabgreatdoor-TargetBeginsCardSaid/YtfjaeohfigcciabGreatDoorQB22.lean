/- Texts in one: RTake, TLs. -/
import Derived.Orders
import Derived.KernelRfl
import Derived.Laws.Rows
import Derived.Test.YtfjaeohfigcciabGreatDoorQB18
import Derived.Test.YtfjaeohfigcciabGreatDoorQB09
set_option linter.unusedVariables false
set_option linter.unusedSimpArgs false
set_option linter.unusedSectionVars false
set_option linter.unnecessarySimpa false
namespace Go.Proofs.YtfjaeohfigcciabGreatDoor

section
variable {P : Program} {ops : Array Oper} {Q : Exit → Act → World → Prop} {md : Region.Mode} {C : World → Prop}

/-- whatever order comes up, and each operation leaves a world of the class -/
def anyC (P : Program) (md : Region.Mode) (ops : Array Oper) (C : World → Prop) (Q : Exit → Act → World → Prop) : Nat → Array Bool → Act → World → Prop
  | 0, listed, a, w => Region.ready md ops listed = [] ∧ Q .normal a w
  | f + 1, listed, a, w => (Region.ready md ops listed = [] → Q .normal a w) ∧ ∀ i ∈ Region.ready md ops listed, wpOp P ops Q i (fun a' w' => C w' ∧ anyC P md ops C Q f (listed.setIfInBounds i true) a' w') a w

theorem anyC.any : ∀ (f : Nat) (listed : Array Bool) (a : Act) (w : World), anyC P md ops C Q f listed a w → wpAny P md ops Q f listed a w
  | 0, _, _, _, h => h
  | f + 1, _, _, _, h => ⟨h.1, fun i hi => wpOp_mono (fun a' w' h' => anyC.any f _ a' w' h'.2) (h.2 i hi)⟩

/-- it is carried out, and in each world of the class it yields that, and leaves the world alone -/
def ReadsC (P : Program) (ops : Array Oper) (C : World → Prop) (o : Oper) (v : Value) (a : Act) : Prop :=
  Region.wanted o (yielded ops a.tmps) = true ∧ ∀ w, C w → (execOp a.eval o).run P w = .ok (.value v) w
theorem ReadsC.same {o : Oper} {v : Value} {a a' : Act} (hy : ReadsC P ops C o v a) (he : execOp a'.eval o = execOp a.eval o)
    (hw : Region.wanted o (yielded ops a'.tmps) = Region.wanted o (yielded ops a.tmps)) : ReadsC P ops C o v a' := by
  unfold ReadsC at *
  rw [he, hw]
  exact hy
theorem ReadsC.op {i : Nat} {o : Oper} {v : Value} {a : Act} (hi : ops[i]? = some o) (hy : ReadsC P ops C o v a) {K : Act → World → Prop} {w : World} (hw : C w) (h : K (a.put o.dst v) w) : wpOp P ops Q i K a w := by
  unfold wpOp
  simp only [hi, hy.1, if_true, Oper.wp, hy.2 w hw, Oper.upon]
  exact .inl h
/-- what is apart from the one that reads does the same behind it as ahead of it -/
theorem wpOp_apart {j : Nat} {oi oj : Oper} {v : Value} (hj : ops[j]? = some oj) (hap : oi.apart ops oj = true) (hsi : ∀ cs b, oi.op ≠ .select cs b) (hsj : ∀ cs b, oj.op ≠ .select cs b)
    (hQ : ∀ c a w, Q (.panic c) (a.put oi.dst v) w → Q (.panic c) a w) {K : Act → World → Prop} {a : Act} {w : World} (hy : ReadsC P ops C oi v a) (h : wpOp P ops Q j K (a.put oi.dst v) w) :
    wpOp P ops Q j (fun a' w' => ReadsC P ops C oi v a' ∧ K (a'.put oi.dst v) w') a w := by
  obtain ⟨h1, h2, h3⟩ := Oper.apart_spec hap
  have keep : ∀ a : Act, ReadsC P ops C oi v a → ∀ u, ReadsC P ops C oi v (a.put oj.dst u) := fun a hy u => hy.same (execOp_put oi hsi a oj.dst u h3) (wanted_put oi a oj.dst u h3)
  unfold wpOp at *
  simp only [hj] at *
  rw [wanted_put oj a oi.dst v h1] at h
  by_cases hw : Region.wanted oj (yielded ops a.tmps) = true
  · rw [if_pos hw] at h ⊢
    rcases h with h | ⟨h, hl⟩
    · refine .inl ?_
      unfold Oper.wp at *
      rw [execOp_put oj hsj a oi.dst v h1] at h
      generalize (execOp a.eval oj).run P w = r at *
      rcases r with ⟨n, w'⟩ | ⟨x, w'⟩
      · cases n <;> simp only [Oper.upon] at h ⊢
        case value u => exact ⟨keep a hy u, by rw [← Act.put_comm a v u h2]; exact h⟩
        case skip => exact ⟨keep a hy _, by rw [← Act.put_comm a v undef h2]; exact h⟩
        case defer d =>
          refine ⟨keep { a with defers := d :: a.defers } (hy.same rfl rfl) _, ?_⟩
          rw [← Act.put_comm _ v undef h2, ← Act.put_defers]
          exact h
        case enter f args =>
          refine Calls.mono h fun e w'' he => ?_
          cases e with
          | returned u => exact ⟨keep a hy u, by rw [← Act.put_comm a v u h2]; exact he⟩
          | panicked c => exact hQ _ _ _ he
          | outgrown => exact he
        case row row args => exact Rows.mono h fun u w'' he => ⟨keep a hy u, by rw [← Act.put_comm a v u h2]; exact he⟩
      · cases x <;> simp only [Oper.upon] at h ⊢
        case panic u => exact hQ _ _ _ h
    · exact .inr ⟨by unfold Oper.asks at *; rw [execOp_put oj hsj a oi.dst v h1] at h; exact h, hl⟩
  · rw [if_neg hw] at h ⊢
    exact ⟨keep a hy _, by rw [← Act.put_comm a v undef h2]; exact h⟩

theorem anyC_first {i : Nat} {oi : Oper} {v : Value} (hi : ops[i]? = some oi) (hsel : ∀ (j : Nat) (o : Oper) cs b, ops[j]? = some o → o.op ≠ .select cs b) (hQ : ∀ c a w, Q (.panic c) (a.put oi.dst v) w → Q (.panic c) a w) (f : Nat) :
    ∀ (listed : Array Bool) (a : Act) (w : World), (∀ j oj, ops[j]? = some oj → j ≠ i → listed.getD j true = false → (∀ e ∈ oj.after, Region.binds md e = true → e.on ≠ i) → oi.apart ops oj = true) →
      i ∈ Region.ready md ops listed → ReadsC P ops C oi v a → C w → anyC P md ops C Q f (listed.setIfInBounds i true) (a.put oi.dst v) w → anyC P md ops C Q (f + 1) listed a w := by
  induction f with
  | zero =>
    intro listed a w _ hr hy hw H
    refine ⟨fun h => (by rw [h] at hr; cases hr), fun j hj => ?_⟩
    rcases Nat.decEq j i with hji | hji
    · have := ready_mono hj hji
      rw [H.1] at this
      cases this
    · subst hji; exact hy.op hi hw ⟨hw, H⟩
  | succ f ih =>
    intro listed a w hfree hr hy hw H
    refine ⟨fun h => (by rw [h] at hr; cases hr), fun j hj => ?_⟩
    rcases Nat.decEq j i with hji | hji
    · have h1 := H.2 j (ready_mono hj hji)
      obtain ⟨hjun, oj, hoj, hall⟩ := mem_ready.1 hj
      have hnot : ∀ e ∈ oj.after, Region.binds md e = true → e.on ≠ i := fun e he hb heq => by
        have h1 := hall e he hb
        have h0 := (mem_ready.1 hr).1
        rw [heq] at h1
        rcases Nat.lt_or_ge i listed.size with h' | h'
        · simp [h'] at h0 h1; rw [h0] at h1; cases h1
        · simp [Array.getElem?_eq_none h'] at h1
      have h2 := wpOp_apart hoj (hfree j oj hoj hji hjun hnot) (fun cs b => hsel i oi cs b hi) (fun cs b => hsel j oj cs b hoj) hQ hy h1
      refine wpOp_mono (fun a' w' h3 => ⟨h3.2.1, ih (listed.setIfInBounds j true) a' w' (fun k ok hk hki hun hno => hfree k ok hk hki ?_ hno) (ready_mono hr (Ne.symm hji)) h3.1 h3.2.1 ?_⟩) h2
      · rcases Nat.decEq j k with hjk | hjk
        · rw [getD_set_ne true hjk] at hun; exact hun
        · subst hjk; exact hjun
      · rw [Array.setIfInBounds_comm _ _ hji]
        exact h3.2.2
    · subst hji; exact hy.op hi hw ⟨hw, H⟩
/-- an operation that reads is taken first -/
theorem anyC_take {i : Nat} {oi : Oper} {v : Value} {f : Nat} {listed : Array Bool} {a : Act} {w : World} (hi : ops[i]? = some oi) (hs : Region.noSelect ops = true) (hf : Region.free md ops listed i = true)
    (hr : (Region.ready md ops listed).contains i = true) (hQ : ∀ c a w, Q (.panic c) (a.put oi.dst v) w → Q (.panic c) a w) (hw : C w) (hy : ReadsC P ops C oi v a)
    (h : anyC P md ops C Q f (listed.setIfInBounds i true) (a.put oi.dst v) w) : anyC P md ops C Q (f + 1) listed a w :=
  anyC_first hi (Region.noSelect_spec hs) hQ f listed a w (Region.free_spec hi hf) (by simpa using hr) hy hw h
/-- one alone may come up -/
theorem anyC_one {i : Nat} {o : Oper} {f : Nat} {listed : Array Bool} {a : Act} {w : World} (hr : Region.ready md ops listed = [i]) (ho : ops[i]? = some o) (hw : Region.wanted o (yielded ops a.tmps) = true)
    (h : ∀ K : Act → World → Prop, (∀ a w, C w → anyC P md ops C Q f (listed.setIfInBounds i true) a w → K a w) → Oper.wp P o a w K Q) : anyC P md ops C Q (f + 1) listed a w := by
  refine ⟨fun h0 => (by rw [hr] at h0; cases h0), fun j hj => ?_⟩
  rw [hr, List.mem_singleton] at hj
  subst hj
  unfold wpOp
  simp only [ho, hw, if_true]
  exact .inl (h _ fun a w hc hh => ⟨hc, hh⟩)
/-- two may come up -/
theorem anyC_two {i j : Nat} {o o2 : Oper} {f : Nat} {listed : Array Bool} {a : Act} {w : World} (hr : Region.ready md ops listed = [i, j]) (ho : ops[i]? = some o) (ho2 : ops[j]? = some o2) (hw : Region.wanted o (yielded ops a.tmps) = true) (hw2 : Region.wanted o2 (yielded ops a.tmps) = true)
    (h : ∀ K : Act → World → Prop, (∀ a w, C w → anyC P md ops C Q f (listed.setIfInBounds i true) a w → K a w) → Oper.wp P o a w K Q)
    (h2 : ∀ K : Act → World → Prop, (∀ a w, C w → anyC P md ops C Q f (listed.setIfInBounds j true) a w → K a w) → Oper.wp P o2 a w K Q) : anyC P md ops C Q (f + 1) listed a w := by
  refine ⟨fun h0 => (by rw [hr] at h0; cases h0), fun k hk => ?_⟩
  rw [hr] at hk
  unfold wpOp
  rcases List.mem_cons.1 hk with hk | hk
  · subst hk
    simp only [ho, hw, if_true]
    exact .inl (h _ fun a w hc hh => ⟨hc, hh⟩)
  · rw [List.mem_singleton] at hk
    subst hk
    simp only [ho2, hw2, if_true]
    exact .inl (h2 _ fun a w hc hh => ⟨hc, hh⟩)
theorem anyC_done {listed : Array Bool} {a : Act} {w : World} (hr : Region.ready md ops listed = []) (h : Q .normal a w) : anyC P md ops C Q 0 listed a w := ⟨hr, h⟩
theorem wp_region_C {id : Nat} {l : List Oper} {a : Act} {w : World} (C : World → Prop) (hm : P.follows .mixedOrders = true) (h : anyC P .any l.toArray C Q l.toArray.size (Array.replicate l.toArray.size false) a w.drew) : (Code.region id l.toArray true).wp P Q a w :=
  wp_region_any hm (anyC.any _ _ _ _ h)

/-- a whole struct read -/
theorem reads_row {o : Oper} {a : Act} (hg : o.guard = none) (ty : TypeId) (x : Operand) (ho : o.op = .load ty x) (g : Nat) (hx : a.eval x = .pointer (some ⟨g, 0, none⟩)) (t : TypeId) (cs : Array Value) (d : TypeDesc)
    (hC : ∀ w, C w → w.heap[g]? = some (.cells cs t (0, 0))) (hu : P.underlying ty = some d) (hd : (match d with | .struct _ | .array _ _ => true | _ => false) = true) (hi : (P.info? ty).map (·.size) = some cs.size) : ReadsC P ops C o (.agg cs) a := by
  refine ⟨by unfold Region.wanted; rw [hg], fun w hw => ?_⟩
  have h := run_loadVar_row (P := P) w g t ty cs (0, 0) d (hC w hw) hu hd hi
  unfold execOp
  simp only [ho, hx, Instr.loadAt, Instr.sureAddr, Sem.run_bind, Sem.run_pure, Result.andThen_ok, h]
end
end Go.Proofs.YtfjaeohfigcciabGreatDoor

namespace Go.Proofs.YtfjaeohfigcciabGreatDoor
open Go.RowKit

theorem RpV.skn {w : World} {B : Nat} {r : Rp} {lr : Ls} (h : RpV w B (.agg (repR r lr)) r) : Sl w B (.slice lr.a r.know.length lr.i) r.know := by
  obtain ⟨a, b, c, he, h1, _, _, _⟩ := h
  obtain ⟨rfl, _, _⟩ := rep_cells_inj he
  exact h1
theorem RpV.she {w : World} {B : Nat} {r : Rp} {lr : Ls} (h : RpV w B (.agg (repR r lr)) r) : ESl w B (.slice lr.b r.held.length lr.j) r.held := by
  obtain ⟨a, b, c, he, _, h1, _, _⟩ := h
  obtain ⟨_, rfl, _⟩ := rep_cells_inj he
  exact h1
theorem RpV.sof {w : World} {B : Nat} {r : Rp} {lr : Ls} (h : RpV w B (.agg (repR r lr)) r) : Sl w B (.slice lr.c r.ses.offer.length lr.k) r.ses.offer := by
  obtain ⟨a, b, c, he, _, _, h1, _⟩ := h
  obtain ⟨_, _, rfl⟩ := rep_cells_inj he
  exact h1
theorem RpV.isok {w : World} {B : Nat} {v : Value} {r : Rp} (h : RpV w B v r) : r.ok := by
  obtain ⟨_, _, _, _, _, _, _, h⟩ := h
  exact h
theorem NtV.skn {w : World} {B : Nat} {n : Nt} {ln : Ls} (h : NtV w B (.agg (noteR n ln)) n) : Sl w B (.slice ln.a n.know.length ln.i) n.know := by
  obtain ⟨a, b, c, he, h1, _, _, _⟩ := h
  obtain ⟨rfl, _, _⟩ := note_cells_inj he
  exact h1
theorem NtV.sen {w : World} {B : Nat} {n : Nt} {ln : Ls} (h : NtV w B (.agg (noteR n ln)) n) : ESl w B (.slice ln.b n.ents.length ln.j) n.ents := by
  obtain ⟨a, b, c, he, _, h1, _, _⟩ := h
  obtain ⟨_, rfl, _⟩ := note_cells_inj he
  exact h1
theorem NtV.sof {w : World} {B : Nat} {n : Nt} {ln : Ls} (h : NtV w B (.agg (noteR n ln)) n) : Sl w B (.slice ln.c n.offer.length ln.k) n.offer := by
  obtain ⟨a, b, c, he, _, _, h1, _⟩ := h
  obtain ⟨_, _, rfl⟩ := note_cells_inj he
  exact h1
theorem NtV.isok {w : World} {B : Nat} {v : Value} {n : Nt} (h : NtV w B v n) : n.ok := by
  obtain ⟨_, _, _, _, _, _, _, h⟩ := h
  exact h
theorem Sl.isok {W : World} {B : Nat} {v : Value} {zs : List Rn} (h : Sl W B v zs) : ∀ x ∈ zs, x.ok := by
  obtain ⟨_, _, _, _, h, _⟩ := h
  exact h
theorem ESl.isok {W : World} {B : Nat} {v : Value} {zs : List En} (h : ESl W B v zs) : ∀ x ∈ zs, x.ok := by
  obtain ⟨_, _, _, _, h, _⟩ := h
  exact h
theorem ESl.at1 {W : World} {B n c k : Nat} {A : Option Addr} {zs : List En} {x : En} (h : ESl W B (.slice A n c) zs) (hx : zs[k]? = some x) : ∃ b off, A = some ⟨b, off, none⟩ ∧ b < B ∧ EnAt W b (off + k * 7) x := by
  obtain ⟨A', c', hv, _, _, hA⟩ := h
  injection hv with h1 h2 h3
  subst h1
  obtain ⟨b, off, hA1, hb, hc⟩ := hA (by rintro rfl; simp at hx)
  exact ⟨b, off, hA1, hb, hc k x hx⟩
theorem Own.av {W : World} {B : Nat} {v : Value} {zs : List Rn} (h : Own W B v zs) : Av (fun k => B ≤ k) v zs := fun _ k hk => (h.lt k hk).1
theorem EOwn.av {W : World} {B : Nat} {v : Value} {zs : List En} (h : EOwn W B v zs) : Av (fun k => B ≤ k) v zs := fun _ k hk => (h.lt k hk).1
theorem EOwn.setOther {w : World} {base h j : Nat} {v u : Value} {zs : List En} (k : EOwn w base v zs) (hh : h < base) : EOwn (w.setCell ⟨h, j, none⟩ u) base v zs := by
  refine ⟨k.1, ?_⟩
  rcases k.2 with hn | ⟨g, cap, cur, hv, hb', hg, r⟩
  · exact .inl hn
  · exact .inr ⟨g, cap, cur, hv, hb', (heap_setCell_other w ⟨h, j, none⟩ g u (by simp; omega)).trans hg, r⟩
theorem EOwn.setRowOther {w : World} {base h : Nat} {v : Value} {cs : Array Value} {zs : List En} (k : EOwn w base v zs) (hh : h < base) : EOwn (w.setRow h cs) base v zs := by
  refine ⟨k.1, ?_⟩
  rcases k.2 with hn | ⟨g, cap, cur, hv, hb', hg, r⟩
  · exact .inl hn
  · exact .inr ⟨g, cap, cur, hv, hb', (setRow_other w h g cs (by omega)).trans hg, r⟩
end Go.Proofs.YtfjaeohfigcciabGreatDoor

