/- Slices of marks (numbers of 64 bits), append onto one of the call's own, and the contract of the reference's put. -/
import Derived.Test.YtfjaeohfigcciaaDoorAround
namespace Go.Proofs.YtfjaeohfigcciaaDoor
open Go.RowKit Go.Sort

def Sm (w : World) (B : Nat) (v : Value) (ms : List Int) : Prop :=
  ∃ A c, v = .slice A ms.length c ∧ ms.length ≤ c ∧ (A = none → c = 0) ∧ (∀ m ∈ ms, 0 ≤ m ∧ m ≤ 4294967296) ∧
    (0 < c → ∃ b off, A = some ⟨b, off, none⟩ ∧ b < B ∧ ∀ j m, ms[j]? = some m → w.cell? ⟨b, off + j, none⟩ = some (.int .u64 m))
theorem Sm.below {w w' : World} {B : Nat} {v : Value} {ms : List Int} (h : Sm w B v ms) (hb : Below B w w') : Sm w' B v ms := by
  obtain ⟨A, c, hv, hc, hn, hok, hA⟩ := h
  refine ⟨A, c, hv, hc, hn, hok, fun hp => ?_⟩
  obtain ⟨b, off, rfl, hlt, hcell⟩ := hA hp
  exact ⟨b, off, rfl, hlt, fun j m hj => (hb.cell (p := ⟨b, off + j, none⟩) hlt).trans (hcell j m hj)⟩
theorem Sm.more {w : World} {B B' : Nat} {v : Value} {ms : List Int} (h : Sm w B v ms) (hB : B ≤ B') : Sm w B' v ms := by
  obtain ⟨A, c, hv, hc, hn, hok, hA⟩ := h
  refine ⟨A, c, hv, hc, hn, hok, fun hp => ?_⟩
  obtain ⟨b, off, rfl, hlt, hcell⟩ := hA hp
  exact ⟨b, off, rfl, by omega, hcell⟩
theorem Sm.nil (w : World) (B : Nat) : Sm w B (.slice none 0 0) [] := ⟨none, 0, rfl, by simp, fun _ => rfl, by simp, fun h => absurd h (by omega)⟩

def OwnM (w : World) (base : Nat) (v : Value) (ms : List Int) : Prop := w.ownsRow base 58 1 v ms.length (ms.map (Value.int .u64))
theorem OwnM.nil (w : World) (base : Nat) : OwnM w base (.slice none 0 0) [] := w.ownsRow_nil base 58 1
theorem OwnM.lt {w : World} {base : Nat} {v : Value} {ms : List Int} (h : OwnM w base v ms) : ∀ k, v.ownBlock = some k → base ≤ k ∧ k < w.heap.size := World.ownsRow.lt h
theorem OwnM.alloc {w : World} {base : Nat} {v : Value} {ms : List Int} (h : OwnM w base v ms) (o : Obj) : OwnM (w.alloc o) base v ms := World.ownsRow.alloc h o
theorem OwnM.sm {w : World} {base : Nat} {v : Value} {ms : List Int} (h : OwnM w base v ms) (hok : ∀ m ∈ ms, 0 ≤ m ∧ m ≤ 4294967296) : Sm w w.heap.size v ms := by
  have h0 := h
  rcases h.2 with ⟨hv, hn⟩ | ⟨g, cap, cur, hv, hb', hg, hnc, r⟩
  · have : ms = [] := List.length_eq_zero_iff.1 hn
    subst this
    rw [hv]
    exact Sm.nil _ _
  · refine ⟨_, cap, hv, hnc, (fun h => by simp at h), hok, fun _ => ⟨g, 0, rfl, (Array.getElem?_eq_some_iff.1 hg).1, fun j m hj => ?_⟩⟩
    have hl : j < ms.length := (List.getElem?_eq_some_iff.1 hj).1
    subst hv
    have := World.ownsRow.cellAt h0 j (by omega)
    rw [Nat.zero_add, this, List.getElem?_map, hj]
    rfl

theorem infoM : (Tryd.prog.info? 58).map (fun i => (i.zero, i.size, i.bytes)) = some (some (.int .u64 0), 1, 8) := by kernel_rfl

/-- append of marks, from whatever slice of marks -/
theorem append_marks {ops : Array Oper} {rest : List Oper} {o : Oper} {a : Act} {w : World} {Q : Exit → Act → World → Prop} (hgd : o.guard = none) (s x : Operand)
    (ho : o.op = .call { callee := .builtin .append, args := #[s, x], argTypes := #[73, 73] })
    (base : Nat) (v : Value) (ms : List Int) (hs : a.eval s = v) (hown : OwnM w base v ms) (B : Nat) (v2 : Value) (ns : List Int) (hx : a.eval x = v2) (hsl : Sm w B v2 ns)
    (hlen : ms.length + ns.length ≤ 10000) (hbase : base ≤ w.heap.size)
    (h : ∀ v' w', OwnM w' base v' (ms ++ ns) → w.grownBy w' v.ownBlock → wpList Tryd.prog ops Q rest (a.put o.dst v') w') : wpList Tryd.prog ops Q (o :: rest) a w := by
  obtain ⟨i0, hi, hz0, hz1, hz2⟩ := info_parts infoM
  obtain ⟨A, c, rfl, hc, hn, hok, hA⟩ := hsl
  rcases A with _ | ad
  · obtain rfl := hn rfl
    have hy : ns = [] := List.length_eq_zero_iff.1 (by omega)
    subst hy
    refine wpList_append_own_none hgd s x 73 ho base 58 i0 1 Tryd.underlying73 hi v ms.length _ hs hown hx ?_
    exact h v w (by simpa using hown) ⟨rfl, rfl, rfl, Nat.le_refl _, fun _ _ _ => rfl⟩
  · refine wpList_append_own w hgd s x 73 ho base 58 i0 _ 1 8 Tryd.underlying73 hi hz0 hz1 hz2 rfl (by decide) v ms.length _ hs hown ad ns.length c (ns.map (Value.int .u64)) hx (by simp) ?_ ?_ (by unfold maxLen; omega) (by omega) hbase ?_
    · intro j u hu
      have hjl : j < ns.length := by
        have := (List.getElem?_eq_some_iff.1 hu).1
        simpa using this
      obtain ⟨b, off, hbo, _, hcell⟩ := hA (by omega)
      cases hbo
      have e : ∀ m, (⟨b, off, none⟩ : Addr).add m = ⟨b, off + m, none⟩ := fun m => by unfold Addr.add; split <;> simp_all
      rw [e, hcell j _ (List.getElem?_eq_getElem hjl), ← hu, List.getElem?_map, List.getElem?_eq_getElem hjl]
      rfl
    · intro u hu
      obtain ⟨m, _, rfl⟩ := List.mem_map.1 hu
      rfl
    · intro v' w' h1 h2 _
      refine h v' w' ?_ h2
      unfold OwnM
      rw [List.map_append, List.length_append]
      exact h1

def Strict (ms : List Int) : Prop := ms.Pairwise (· < ·)

/-- what put makes of marks -/
def PutOut (ms out : List Int) (n : Int) : Prop := (Strict ms → Strict out) ∧ (∀ x, x ∈ out ↔ x = n ∨ x ∈ ms) ∧ out.length ≤ ms.length + 1
theorem put_same {ms : List Int} {n : Int} {k : Nat} (h : ms[k]? = some n) : PutOut ms ms n :=
  ⟨id, fun x => ⟨.inr, fun hx => hx.elim (fun e => e ▸ List.mem_of_getElem? h) id⟩, by omega⟩
theorem put_new {ms : List Int} {n : Int} {k : Nat} (hk : k ≤ ms.length) (hlo : ∀ j m, j < k → ms[j]? = some m → m < n) (hhi : ∀ m, ms[k]? = some m → n < m) : PutOut ms (ms.take k ++ [n] ++ ms.drop k) n := by
  refine ⟨fun hs => ?_, fun x => ?_, by simp; omega⟩
  · have hs' : (ms.take k ++ ms.drop k).Pairwise (· < ·) := by rw [List.take_append_drop]; exact hs
    obtain ⟨h1, h2, h3⟩ := List.pairwise_append.1 hs'
    have hl : ∀ a ∈ ms.take k, a < n := fun a ha => by
      obtain ⟨j, hj, rfl⟩ := List.mem_iff_getElem.1 ha
      have hj' : j < k := by simp at hj; omega
      have : j < ms.length := by simp at hj; omega
      rw [List.getElem_take]
      exact hlo j _ hj' (List.getElem?_eq_getElem this)
    have hr : ∀ b ∈ ms.drop k, n < b := fun b hb => by
      rcases Nat.lt_or_ge k ms.length with hlt | hge
      · have hd : ms.drop k = ms[k] :: ms.drop (k + 1) := List.drop_eq_getElem_cons hlt
        have hn := hhi _ (List.getElem?_eq_getElem hlt)
        rw [hd] at hb h2
        rcases List.mem_cons.1 hb with rfl | hb
        · exact hn
        · have := (List.pairwise_cons.1 h2).1 b hb
          omega
      · rw [List.drop_of_length_le hge] at hb; cases hb
    show List.Pairwise _ _
    rw [List.pairwise_append]
    refine ⟨List.pairwise_append.2 ⟨h1, by simp, fun a ha b hb => by simp at hb; subst hb; exact hl a ha⟩, h2, fun a ha b hb => ?_⟩
    rcases List.mem_append.1 ha with ha | ha
    · have := hl a ha; have := hr b hb; omega
    · simp at ha; subst ha; exact hr b hb
  · have : x ∈ ms ↔ x ∈ ms.take k ∨ x ∈ ms.drop k := by rw [← List.mem_append, List.take_append_drop]
    rw [this]
    simp only [List.mem_append, List.mem_singleton]
    constructor
    · rintro ((h | h) | h)
      · exact .inr (.inl h)
      · exact .inl h
      · exact .inr (.inr h)
    · rintro (h | h | h)
      · exact .inl (.inr h)
      · exact .inl (.inl h)
      · exact .inr h

def PutPost (w : World) (L : Nat) (ms : List Int) (n : Int) (e : Ending) (w' : World) : Prop := ∃ v out, e = .returned v ∧ PutOut ms out n ∧ (∀ m ∈ out, 0 ≤ m ∧ m ≤ 4294967296) ∧ OwnM w' L v out ∧ Below w.heap.size w w'

theorem OwnM.mono {w : World} {base base' : Nat} {v : Value} {ms : List Int} (h : OwnM w base v ms) (hb : base' ≤ base) : OwnM w base' v ms := by
  refine ⟨h.1, ?_⟩
  rcases h.2 with hn | ⟨g, cap, cur, hv, hb', r⟩
  · exact .inl hn
  · exact .inr ⟨g, cap, cur, hv, by omega, r⟩
theorem OwnM.below {w w' : World} {base : Nat} {v : Value} {ms : List Int} (h : OwnM w base v ms) (hb : Below w.heap.size w w') : OwnM w' base v ms := by
  refine ⟨h.1, ?_⟩
  rcases h.2 with hn | ⟨g, cap, cur, hv, hb', hg, r⟩
  · exact .inl hn
  · exact .inr ⟨g, cap, cur, hv, hb', (hb.block g (Array.getElem?_eq_some_iff.1 hg).1).trans hg, r⟩
/-- marks and runs lie in different blocks -/
theorem OwnM.apart {w : World} {base L : Nat} {v s : Value} {ms : List Int} {zs : List Rn} (h : OwnM w L v ms) (hr : Own w base s zs) : v.ownBlock = none ∨ v.ownBlock ≠ s.ownBlock := by
  rcases h.2 with ⟨rfl, _⟩ | ⟨g, cap, cur, rfl, _, hg, _⟩
  · exact .inl rfl
  · right
    rcases hr.2 with ⟨rfl, _⟩ | ⟨g', cap', cur', rfl, _, hg', _⟩
    · simp [Value.ownBlock]
    · intro he
      have : g = g' := by simpa [Value.ownBlock] using he
      subst this
      rw [hg] at hg'
      simp at hg'
theorem OwnM.kept {w w' : World} {base L : Nat} {v s : Value} {ms : List Int} {zs : List Rn} (h : OwnM w L v ms) (hr : Own w base s zs) (hg : w.grownBy w' s.ownBlock) : OwnM w' L v ms :=
  World.ownsRow.kept h hg (h.apart hr)
end Go.Proofs.YtfjaeohfigcciaaDoor

