/-
  OWN WORK: Hst, Hpl, Cpy, Ins, Hle, Hen, Hsq, Orl.
-/
import Derived.Test.YtgpckmolcdafcaeP2
import Derived.Test.YtgpckmolcdafcaeP0
import Derived.Laws.CopyRow
import Derived.Lib.Overlaps
import Derived.Lib.AppendZerosOnto
import Derived.Deep.QuietTactic
import Derived.BigQuiet
import Derived.Deep.RegionHeld3
/-
  STANDS in memory: what comes of them when one thing is written.
-/
namespace Go.Proofs.Ytgpckmolcdafcae
open Go.RowKit Go.Maps

theorem owns_aside {w : World} {C e k n : Nat} {v : Value} {xs : List Value} (ho : w.ownsRow C e k v n xs) (p : Addr) (u : Value) (hp : v.ownBlock ≠ some p.block) : (w.setCell p u).ownsRow C e k v n xs := by
  obtain ⟨hl, hz⟩ := ho
  refine ⟨hl, ?_⟩
  rcases hz with h5 | ⟨g, cap, cur, rfl, h3, h6, h7⟩
  · exact Or.inl h5
  · refine Or.inr ⟨g, cap, cur, rfl, h3, ?_, h7⟩
    rw [heap_setCell_other _ _ _ _ (fun e => hp (by rw [← e]; rfl))]
    exact h6
def Ax.setKids (x : Ax) (k : Nat) (s : Sp) (v : Value) : Ax := { x with ar := x.ar.set k s, kvs := x.kvs.set k v }
theorem mem_setv {l : List Value} {k : Nat} {v u : Value} (h : u ∈ l.set k v) : u = v ∨ ∃ j, ∃ hj : j < l.length, j ≠ k ∧ u = l[j] := by
  obtain ⟨j, hj, rfl⟩ := List.mem_iff_getElem.mp h
  rw [List.getElem_set]
  by_cases e : k = j
  · rw [if_pos e]; exact Or.inl rfl
  · rw [if_neg e]; exact Or.inr ⟨j, by simpa using hj, fun x => e x.symm, rfl⟩

theorem StAt.setKids {w w1 : World} {x : Ax} (h : StAt w x) {k : Nat} (hk : k < x.ar.length) (hk' : k < x.kvs.length) {l' : List Nat} {v' : Value} (ho : OwnI w1 0 v' l') (hg : w.grownBy w1 x.kvs[k].ownBlock)
    (hb : v'.ownBlock = x.kvs[k].ownBlock ∨ ∃ q, w.heap.size ≤ q ∧ v'.ownBlock = some q) {s' : Sp} (hs : s' = { x.ar[k] with kids := l' }) :
    StAt (w1.setCell ⟨x.g, k * 10 + 9, none⟩ v') (x.setKids k s' v') ∧ Fw x (x.setKids k s' v') w (w1.setCell ⟨x.g, k * 10 + 9, none⟩ v') := by
  subst hs
  have hlt := h.lt
  have hkm : x.kvs[k] ∈ x.kvs := List.getElem_mem hk'
  have fS : x.S < w.heap.size := hlt _ (Or.inl rfl)
  have fg : x.g < w.heap.size := hlt _ (Or.inr (Or.inl rfl))
  have fM : x.M < w.heap.size := hlt _ (Or.inr (Or.inr (Or.inl rfl)))
  have nS : x.kvs[k].ownBlock ≠ some x.S := fun e => (h.kS _ hkm _ e).1 rfl
  have ng : x.kvs[k].ownBlock ≠ some x.g := fun e => (h.kS _ hkm _ e).2.1 rfl
  have nM : x.kvs[k].ownBlock ≠ some x.M := fun e => (h.kS _ hkm _ e).2.2 rfl
  have vn : ∀ b, b < w.heap.size → x.kvs[k].ownBlock ≠ some b → v'.ownBlock ≠ some b := fun b hb1 hb2 e => by
    rcases hb with h1 | ⟨q, h1, h2⟩
    · exact hb2 (by rw [← h1, e])
    · rw [e] at h2; cases h2; omega
  have blk : ∀ b, b < w.heap.size → x.kvs[k].ownBlock ≠ some b → b ≠ x.g → (w1.setCell ⟨x.g, k * 10 + 9, none⟩ v').heap[b]? = w.heap[b]? := fun b h1 h2 h3 => by
    rw [heap_setCell_other _ _ _ _ h3]
    exact hg.block b h1 (fun e => h2 e.symm)
  have row1 := World.ownsRow.kept h.row hg (Or.inr (fun e => ng e.symm))
  have row2 := owns_set row1 (k * 10 + 9) v'
  rw [← cellsP_one x.ar x.kvs k { x.ar[k] with kids := l' } v' h.len hk 9 (by decide) v' rfl] at row2
  have bS := blk x.S fS nS h.sg
  refine ⟨⟨?_, ?_, ?_, ?_, ?_, ?_, ?_, ?_, h.sg, h.sM, h.gM, ?_, ?_⟩, ⟨rfl, ?_, ?_, ?_, ?_, ?_, ?_⟩⟩
  · have := h.s0
    simp only [Ax.setKids, List.length_set]
    rw [← this]
    exact World.cell?_of_block bS
  · have e := World.cell?_of_block (a := ⟨x.S, 1, none⟩) bS
    exact e.trans h.s1
  · have := h.f0
    rw [← this]
    simp only [Ax.setKids, World.frozen?, bS]
  · have := h.f1
    rw [← this]
    simp only [Ax.setKids, World.frozen?, bS]
  · simp only [Ax.setKids, List.length_set]
    exact row2
  · simp only [Ax.setKids, List.length_set]
    exact h.len
  · intro j hj hj'
    simp only [Ax.setKids, List.length_set] at hj hj'
    simp only [Ax.setKids, List.getElem_set]
    by_cases e : k = j
    · subst e
      simp only [if_pos]
      exact owns_aside ho _ _ (vn _ fg ng)
    · simp only [if_neg e]
      have hjm : x.kvs[j] ∈ x.kvs := List.getElem_mem hj'
      refine owns_aside (World.ownsRow.kept (h.kids j hj hj') hg ?_) _ _ (fun e2 => (h.kS _ hjm _ e2).2.1 rfl)
      cases hb2 : x.kvs[j].ownBlock with
      | none => exact Or.inl rfl
      | some b => exact Or.inr (fun e2 => e (h.one k j hk' hj' b e2.symm hb2))
  · have := h.map.same (blk x.M fM nM (fun e => h.gM e.symm))
    simpa [Ax.setKids] using this
  · intro v hv b e
    rcases mem_setv hv with rfl | ⟨j, hj, _, rfl⟩
    · rcases hb with h1 | ⟨q, h1, h2⟩
      · exact h.kS _ hkm b (by rw [← h1, e])
      · rw [e] at h2
        cases h2
        simp only [Ax.setKids]
        omega
    · exact h.kS _ (List.getElem_mem hj) b e
  · intro i j hi hj b e1 e2
    simp only [Ax.setKids, List.length_set] at hi hj
    simp only [Ax.setKids, List.getElem_set] at e1 e2
    have key : ∀ m (hm : m < x.kvs.length), k ≠ m → x.kvs[m].ownBlock = some b → v'.ownBlock = some b → False := fun m hm hkm2 g1 g2 => by
      rcases hb with h1 | ⟨q, h1, h2⟩
      · exact hkm2 (h.one k m hk' hm b (by rw [← h1, g2]) g1)
      · rw [g2] at h2
        cases h2
        have := hlt b (Or.inr (Or.inr (Or.inr ⟨_, List.getElem_mem hm, g1⟩)))
        omega
    by_cases c1 : k = i <;> by_cases c2 : k = j
    · rw [← c1, ← c2]
    · rw [if_pos c1] at e1
      rw [if_neg c2] at e2
      exact (key j hj c2 e2 e1).elim
    · rw [if_neg c1] at e1
      rw [if_pos c2] at e2
      exact (key i hi c1 e1 e2).elim
    · rw [if_neg c1] at e1
      rw [if_neg c2] at e2
      exact h.one i j hi hj b e1 e2
  · exact hg.os
  · exact hg.tape
  · exact hg.output
  · have := hg.size
    simpa using this
  · intro b hb1 hb2
    exact blk b hb1 (fun e => hb2 (Or.inr (Or.inr (Or.inr ⟨_, hkm, e⟩)))) (fun e => hb2 (Or.inr (Or.inl e)))
  · intro b hf
    rcases hf with hf | hf | hf | ⟨v, hv, e⟩
    · exact Or.inl (Or.inl hf)
    · exact Or.inl (Or.inr (Or.inl hf))
    · exact Or.inl (Or.inr (Or.inr (Or.inl hf)))
    · rcases mem_setv hv with rfl | ⟨j, hj, _, rfl⟩
      · rcases hb with h1 | ⟨q, h1, h2⟩
        · exact Or.inl (Or.inr (Or.inr (Or.inr ⟨_, hkm, by rw [← h1, e]⟩)))
        · rw [e] at h2
          cases h2
          exact Or.inr h1
      · exact Or.inl (Or.inr (Or.inr (Or.inr ⟨_, List.getElem_mem hj, e⟩)))

/-- the row is written: what else there is stays -/
theorem StAt.inRow {w w1 : World} {x : Ax} (h : StAt w x) {ar' : List Sp} (hl : ar'.length = x.ar.length) (hkid : ∀ j (hj : j < x.ar.length) (hj' : j < ar'.length), ar'[j].kids = x.ar[j].kids)
    (hrow : w1.ownsRow 0 59 10 (.slice (some ⟨x.g, 0, none⟩) x.ar.length x.cap) x.ar.length (cellsP ar' x.kvs)) (hg : w.grownBy w1 (some x.g)) :
    StAt w1 { x with ar := ar' } ∧ Fw x { x with ar := ar' } w w1 := by
  have hlt := h.lt
  have fS : x.S < w.heap.size := hlt _ (Or.inl rfl)
  have fM : x.M < w.heap.size := hlt _ (Or.inr (Or.inr (Or.inl rfl)))
  have blk : ∀ b, b < w.heap.size → b ≠ x.g → w1.heap[b]? = w.heap[b]? := fun b h1 h2 => hg.block b h1 (fun e => h2 (Option.some.inj e))
  have bS := blk x.S fS h.sg
  refine ⟨⟨?_, ?_, ?_, ?_, ?_, ?_, ?_, ?_, h.sg, h.sM, h.gM, h.kS, h.one⟩, ⟨rfl, hg.os, hg.tape, hg.output, hg.size, fun b hb1 hb2 => blk b hb1 (fun e => hb2 (Or.inr (Or.inl e))), fun b hf => Or.inl hf⟩⟩
  · have := h.s0
    simp only [hl]
    rw [← this]
    exact World.cell?_of_block bS
  · rw [← h.s1]
    exact World.cell?_of_block bS
  · have := h.f0
    rw [← this]
    simp only [World.frozen?, bS]
  · have := h.f1
    rw [← this]
    simp only [World.frozen?, bS]
  · simp only [hl]
    exact hrow
  · simp only [hl]
    exact h.len
  · intro j hj hj'
    simp only at hj hj' ⊢
    rw [hkid j (by omega) hj]
    refine World.ownsRow.kept (h.kids j (by omega) hj') hg ?_
    cases hb2 : x.kvs[j].ownBlock with
    | none => exact Or.inl rfl
    | some b => exact Or.inr (fun e2 => (h.kS _ (List.getElem_mem hj') b hb2).2.1 (Option.some.inj e2))
  · have := h.map.same (blk x.M fM (fun e => h.gM e.symm))
    simpa [hl] using this
theorem StAt.setUp {w : World} {x : Ax} (h : StAt w x) {k : Nat} (hk : k < x.ar.length) (u : Int) :
    StAt (w.setCell ⟨x.g, k * 10 + 8, none⟩ (.int .i64 u)) { x with ar := x.ar.set k { x.ar[k] with up := u } } ∧ Fw x { x with ar := x.ar.set k { x.ar[k] with up := u } } w (w.setCell ⟨x.g, k * 10 + 8, none⟩ (.int .i64 u)) := by
  have hk' : k < x.kvs.length := by rw [h.len]; exact hk
  refine h.inRow (by simp) (fun j hj hj' => ?_) ?_ (grow_set (grown_refl w _) _ _)
  · rw [List.getElem_set]
    by_cases e : k = j
    · subst e; simp
    · simp [e]
  · have r := owns_set h.row (k * 10 + 8) (.int .i64 u)
    rw [← cellsP_one x.ar x.kvs k { x.ar[k] with up := u } (x.kvs[k]) h.len hk 8 (by decide) (.int .i64 u) rfl] at r
    rw [show x.kvs.set k x.kvs[k] = x.kvs by simp] at r
    exact r
/-- the map is written -/
theorem StAt.setMap {w w1 : World} {x : Ax} (h : StAt w x) {nm' : Nm} (hm : NumAt w1 x.M x.ar.length nm') (hg : w.grownBy w1 (some x.M)) : StAt w1 { x with nm := nm' } ∧ Fw x { x with nm := nm' } w w1 := by
  have hlt := h.lt
  have blk : ∀ b, b < w.heap.size → b ≠ x.M → w1.heap[b]? = w.heap[b]? := fun b h1 h2 => hg.block b h1 (fun e => h2 (Option.some.inj e))
  have bS := blk x.S (hlt _ (Or.inl rfl)) h.sM
  refine ⟨⟨?_, ?_, ?_, ?_, ?_, h.len, ?_, hm, h.sg, h.sM, h.gM, h.kS, h.one⟩, ⟨rfl, hg.os, hg.tape, hg.output, hg.size, fun b hb1 hb2 => blk b hb1 (fun e => hb2 (Or.inr (Or.inr (Or.inl e)))), fun b hf => Or.inl hf⟩⟩
  · rw [← h.s0]; exact World.cell?_of_block bS
  · rw [← h.s1]; exact World.cell?_of_block bS
  · have := h.f0
    rw [← this]
    simp only [World.frozen?, bS]
  · have := h.f1
    rw [← this]
    simp only [World.frozen?, bS]
  · exact World.ownsRow.kept h.row hg (Or.inr (fun e => h.gM (by injection e)))
  · intro j hj hj'
    refine World.ownsRow.kept (h.kids j hj hj') hg ?_
    cases hb2 : x.kvs[j].ownBlock with
    | none => exact Or.inl rfl
    | some b => exact Or.inr (fun e2 => (h.kS _ (List.getElem_mem hj') b hb2).2.2 (Option.some.inj e2))
/-- a spot more: the row lies where it lay, or in a block that wasn't there -/
theorem StAt.more {w w1 : World} {x : Ax} (h : StAt w x) {s : Sp} (hs : s.kids = []) {g' cap' : Nat} (hrow : w1.ownsRow 0 59 10 (.slice (some ⟨g', 0, none⟩) (x.ar.length + 1) cap') (x.ar.length + 1) (cellsP x.ar x.kvs ++ spc (s, .slice none 0 0)))
    (hg : w.grownBy w1 (some x.g)) (hgl : x.g = g' ∨ w.heap.size ≤ g') :
    StAt (w1.setCell ⟨x.S, 0, none⟩ (.slice (some ⟨g', 0, none⟩) (x.ar.length + 1) cap')) { x with g := g', cap := cap', ar := x.ar ++ [s], kvs := x.kvs ++ [.slice none 0 0] } ∧
    Fw x { x with g := g', cap := cap', ar := x.ar ++ [s], kvs := x.kvs ++ [.slice none 0 0] } w (w1.setCell ⟨x.S, 0, none⟩ (.slice (some ⟨g', 0, none⟩) (x.ar.length + 1) cap')) := by
  have hlt := h.lt
  have fS : x.S < w.heap.size := hlt _ (Or.inl rfl)
  have fg : x.g < w.heap.size := hlt _ (Or.inr (Or.inl rfl))
  have fM : x.M < w.heap.size := hlt _ (Or.inr (Or.inr (Or.inl rfl)))
  have hgn : ∀ b, b < w.heap.size → b ≠ x.g → b ≠ g' := fun b h1 h2 => by rcases hgl with e | e <;> omega
  have blk1 : ∀ b, b < w.heap.size → b ≠ x.g → w1.heap[b]? = w.heap[b]? := fun b h1 h2 => hg.block b h1 (fun e => h2 (Option.some.inj e))
  have bS := blk1 x.S fS h.sg
  have hz := hg.size
  have c0 : w1.cell? ⟨x.S, 0, none⟩ = some (.slice (some ⟨x.g, 0, none⟩) x.ar.length x.cap) := by rw [← h.s0]; exact World.cell?_of_block bS
  have c1 : w1.cell? ⟨x.S, 1, none⟩ = some (.map (some x.M)) := by rw [← h.s1]; exact World.cell?_of_block bS
  have f0 : w1.frozen? ⟨x.S, 0, none⟩ = false := by rw [← h.f0]; simp only [World.frozen?, bS]
  have f1 : w1.frozen? ⟨x.S, 1, none⟩ = false := by rw [← h.f1]; simp only [World.frozen?, bS]
  have nem : ∀ v ∈ x.kvs ++ [(.slice none 0 0 : Value)], ∀ b, v.ownBlock = some b → v ∈ x.kvs := fun v hv b e => by
    rcases List.mem_append.mp hv with hv | hv
    · exact hv
    · rw [List.mem_singleton] at hv
      subst hv
      cases e
  refine ⟨⟨?_, ?_, ?_, ?_, ?_, ?_, ?_, ?_, ?_, h.sM, ?_, ?_, ?_⟩, ⟨rfl, hg.os, hg.tape, hg.output, by simpa using hz, ?_, ?_⟩⟩
  · simp only [List.length_append, List.length_singleton]
    exact World.cell?_setCell_same _ _ _ c0
  · rw [World.cell?_setCell_other _ _ _ _ (by intro e; cases e)]
    exact c1
  · simpa using f0
  · simpa using f1
  · simp only [List.length_append, List.length_singleton]
    rw [cellsP_app _ _ _ _ h.len, show cellsP [s] [(.slice none 0 0 : Value)] = spc (s, .slice none 0 0) by simp [cellsP]]
    exact owns_aside hrow _ _ (fun e => hgn x.S fS h.sg (by simpa [Value.ownBlock] using e.symm))
  · simp [h.len]
  · intro j hj hj'
    simp only [List.length_append, List.length_singleton] at hj hj'
    by_cases e : j < x.ar.length
    · have ej : j < x.kvs.length := by rw [h.len]; exact e
      rw [List.getElem_append_left e, List.getElem_append_left ej]
      refine owns_aside (World.ownsRow.kept (h.kids j e ej) hg ?_) _ _ (fun e2 => (h.kS _ (List.getElem_mem ej) _ e2).1 rfl)
      cases hb2 : x.kvs[j].ownBlock with
      | none => exact Or.inl rfl
      | some b => exact Or.inr (fun e2 => (h.kS _ (List.getElem_mem ej) b hb2).2.1 (Option.some.inj e2))
    · have e1 : j = x.ar.length := by omega
      subst e1
      simp only [List.getElem_append_right (Nat.le_refl _), ← h.len, Nat.sub_self, List.getElem_singleton]
      simp only [h.len, List.getElem_append_right (Nat.le_refl _), Nat.sub_self, List.getElem_singleton, hs]
      exact World.ownsRow_nil _ _ _ _
  · have hm : NumAt w1 x.M x.ar.length x.nm := h.map.same (blk1 x.M fM (fun e => h.gM e.symm))
    have hm2 : NumAt (w1.setCell ⟨x.S, 0, none⟩ (.slice (some ⟨g', 0, none⟩) (x.ar.length + 1) cap')) x.M x.ar.length x.nm := hm.same (heap_setCell_other _ _ _ _ (fun e => h.sM e.symm))
    obtain ⟨D, h1, h2⟩ := hm2
    exact ⟨D, h1.mono (by simp), h2⟩
  · exact hgn x.S fS h.sg
  · exact fun e => hgn x.M fM (fun e2 => h.gM e2.symm) e.symm
  · intro v hv b e
    have hv2 := nem v hv b e
    obtain ⟨q1, q2, q3⟩ := h.kS v hv2 b e
    exact ⟨q1, hgn b (hlt b (Or.inr (Or.inr (Or.inr ⟨v, hv2, e⟩)))) q2, q3⟩
  · intro i j hi hj b e1 e2
    simp only [List.length_append, List.length_singleton] at hi hj
    have lt : ∀ m (hm : m < (x.kvs ++ [(.slice none 0 0 : Value)]).length), ((x.kvs ++ [(.slice none 0 0 : Value)])[m]'hm).ownBlock = some b → m < x.kvs.length := fun m hm e => by
      apply Classical.byContradiction
      intro hn
      have : m = x.kvs.length := by simp at hm; omega
      subst this
      simp [Value.ownBlock] at e
    have hi' := lt i (by simpa using hi) e1
    have hj' := lt j (by simpa using hj) e2
    simp only [List.getElem_append_left hi'] at e1
    simp only [List.getElem_append_left hj'] at e2
    exact h.one i j hi' hj' b e1 e2
  · intro b hb1 hb2
    rw [heap_setCell_other _ _ _ _ (fun e => hb2 (Or.inl e))]
    exact blk1 b hb1 (fun e => hb2 (Or.inr (Or.inl e)))
  · intro b hf
    rcases hf with hf | hf | hf | ⟨v, hv, e⟩
    · exact Or.inl (Or.inl hf)
    · simp only at hf
      subst hf
      rcases hgl with e | e
      · exact Or.inl (Or.inr (Or.inl e.symm))
      · exact Or.inr e
    · exact Or.inl (Or.inr (Or.inr (Or.inl hf)))
    · exact Or.inl (Or.inr (Or.inr (Or.inr ⟨v, nem v hv b e, e⟩)))
end Go.Proofs.Ytgpckmolcdafcae

/-
  THE WALKS of diff's stand: place, alone.
-/
namespace Go.Proofs.Ytgpckmolcdafcae
open Go.RowKit Go.Maps

set_option maxHeartbeats 800000 in
theorem hplace_any {w : World} {x : Ax} (h : StAt w x) (t : Int) (ht : t < 9223372036854775808) :
    Calls Try.prog 41 #[.pointer (some ⟨x.S, 0, none⟩), .int .i64 t] w fun e w' => e = .returned (.tuple #[.int .i64 (ixP x.nm t : Nat), .bool (decide (t < 0) || (x.nm t.toNat).isSome)]) ∧ w' = w := by
  have s1 := h.s1
  by_cases h0 : t < 0
  · have e1 : ixP x.nm t = 0 := by unfold ixP; rw [if_pos h0]
    have e2 : (decide (t < 0) || (x.nm t.toNat).isSome) = true := by simp [h0]
    rw [e1, e2]
    have hd : decide (t < 0) = true := by simp [h0]
    clear h
    go_enter Try.func41, Try.ntmps41
    go_wp2_with fail
    go_ret2
    exact ⟨rfl, rfl⟩
  · obtain ⟨n, rfl⟩ : ∃ n : Nat, t = (n : Int) := ⟨t.toNat, by omega⟩
    have e1 : ixP x.nm (n : Int) = ixOf x.nm n := ixP_nat _ _
    have e2 : (decide ((n : Int) < 0) || (x.nm (n : Int).toNat).isSome) = (x.nm n).isSome := by rw [show decide ((n : Int) < 0) = false by simp]; simp
    rw [e1, e2]
    have hl := h.map.look n (by omega)
    clear h e1 e2
    generalize (x.nm n).isSome = b at *
    generalize ixOf x.nm n = k at *
    go_enter Try.func41, Try.ntmps41
    go_wp2_with fail
    go_ret2
    exact ⟨rfl, rfl⟩

set_option maxHeartbeats 800000 in
theorem halone_any (w : World) (z0 z1 z4 z5 : Int) (s2 s3 : ByteArray) (b6 : Bool) (p : Option Addr) (n c : Nat) :
    Calls Try.prog 46 #[.agg #[.int .i64 z0, .int .i64 z1, .string s2, .string s3, .int .i64 z4, .int .i64 z5, .bool b6, .slice p n c]] w fun e w' => e = .returned (.agg #[.int .i64 z0, .int .i64 z1, .string s2, .string s3, .int .i64 z4, .int .i64 z5, .bool b6, .slice none 0 0]) ∧ Below w.heap.size w w' := by
  go_enter Try.func46, Try.ntmps46
  go_wp2_with fail
  refine bodyPost_ret (v := .agg #[.int .i64 z0, .int .i64 z1, .string s2, .string s3, .int .i64 z4, .int .i64 z5, .bool b6, .slice none 0 0]) (by simp [results, Try.results46, go_sem]) rfl ⟨rfl, ?_⟩
  exact ((Below.refl w.heap.size w).alloc (Nat.le_refl _) _).alloc (by simp) _
end Go.Proofs.Ytgpckmolcdafcae

/-
  copy AT ELEMENTS OF ANY NUMBER OF CELLS, into a row of the call's own; what slices.Insert makes of a row.
-/
namespace Go.Proofs.Ytgpckmolcdafcae
open Go.RowKit

theorem run_copyK {P : Program} (k : Nat) (w : World) (dT sT ty elem : TypeId) (g o dLen dCap : Nat) (a : Addr) (sLen sCap : Nat) (cur : Array Value) (t : TypeId) (cs : List Value)
    (hu : P.underlying dT = some (.slice elem)) (hs : (P.info? elem).map (·.size) = some k)
    (hg : w.heap[g]? = some (.cells cur t (0, 0))) (hn : cs.length = Nat.min sLen dLen * k)
    (hsrc : ∀ j v, cs[j]? = some v → w.cell? (a.add j) = some v) (hfit : o + cs.length ≤ cur.size) (h1 : ∀ v ∈ cs, v.oneCell' = true) :
    (Builtin.copy_ #[dT, sT] ty #[.slice (some ⟨g, o, none⟩) dLen dCap, .slice (some a) sLen sCap]).run P w =
      .ok (goInt (Nat.min sLen dLen)) (w.setRow g (cur.toList.take o ++ cs ++ cur.toList.drop (o + cs.length)).toArray) := by
  have hl := run_loadCells_list (P := P) w a cs hsrc
  have hst := run_storeCells_at P g o t cs 0 cur w hg (by simpa using hfit) h1
  cases hq : P.info? elem with
  | none => simp [hq] at hs
  | some i =>
    have hi : i.size = k := by simpa [hq] using hs
    simp [Builtin.copy_, run_underlying hu, Builtin.lenOf, Builtin.firstCells, sizeOf, typeInfo, hq, hi, ← hn, hl, hst]

theorem wpList_copy_at {P : Program} (w : World) {ops : Array Oper} {rest : List Oper} {o : Oper} {a : Act} {Q : Exit → Act → World → Prop} (hgd : o.guard = none) (d s : Operand) (t t' : TypeId)
    (ho : o.op = .call { callee := .builtin .copy, args := #[d, s], argTypes := #[t, t'] }) (v u : Value) (hd : a.eval d = v) (hs : a.eval s = u) {v' : Value} {w' : World}
    (hr : (Builtin.copy_ #[t, t'] o.type #[v, u]).run P w = .ok v' w') (h : wpList P ops Q rest (a.put o.dst v') w') : wpList P ops Q (o :: rest) a w := by
  refine wpList_plain hgd fun K hK => ?_
  unfold Oper.wp execOp
  simp only [ho, resolve, invoke, builtin, Sem.run_bind, Sem.run_pure, Result.andThen_ok, List.map_toArray, List.map_cons, List.map_nil, hd, hs, hr]
  exact hK _ _ h

theorem wpList_append_at {P : Program} (w : World) {ops : Array Oper} {rest : List Oper} {o : Oper} {a : Act} {Q : Exit → Act → World → Prop} (hgd : o.guard = none) (d s : Operand) (t t' : TypeId)
    (ho : o.op = .call { callee := .builtin .append, args := #[d, s], argTypes := #[t, t'] }) (v u : Value) (hd : a.eval d = v) (hs : a.eval s = u) {v' : Value} {w' : World}
    (hr : (Builtin.append_ #[t, t'] o.type #[v, u]).run P w = .ok v' w') (h : wpList P ops Q rest (a.put o.dst v') w') : wpList P ops Q (o :: rest) a w := by
  refine wpList_plain hgd fun K hK => ?_
  unfold Oper.wp execOp
  simp only [ho, resolve, invoke, builtin, Sem.run_bind, Sem.run_pure, Result.andThen_ok, List.map_toArray, List.map_cons, List.map_nil, hd, hs, hr]
  exact hK _ _ h

theorem step_copy_at {P : Program} {ops : Array Oper} {o : Oper} {a : Act} {w : World} {K : Act → World → Prop} {Q : Exit → Act → World → Prop} {E : Prop}
    (hg : o.guard = none) (d x : Operand) (dT sT : TypeId) (hop : o.op = Op.call { callee := Callee.builtin Builtin.copy, args := #[d, x], argTypes := #[dT, sT] })
    (v u : Value) (hd : a.eval d = v) (hx : a.eval x = u) {v' : Value} {w' : World} (hr : (Builtin.copy_ #[dT, sT] o.type #[v, u]).run P w = .ok v' w') (hK : K (a.put o.dst v') w') :
    if Region.wanted o (yielded ops a.tmps) = true then Oper.wp P o a w K Q else E := by
  have hw : Region.wanted o (yielded ops a.tmps) = true := by simp [Region.wanted, hg]
  rw [if_pos hw]
  unfold Oper.wp
  simp [execOp, hop, resolve, invoke, builtin, hd, hx, hr, Result.andThen]
  exact hK

/-- the row behind a shift and a store -/
theorem ins_shift {C xs ys : List Value} {n i K : Nat} (hC : (n + 1) * K ≤ C.length) (hx : C.take (n * K) = xs) (hi : i ≤ n) (hy : ys.length = K) {A1 A2 : List Value}
    (h1 : A1 = C.take ((i + 1) * K) ++ xs.drop (i * K) ++ C.drop ((i + 1) * K + (xs.drop (i * K)).length)) (h2 : A2 = A1.take (i * K) ++ ys ++ A1.drop (i * K + ys.length)) :
    A2.length = C.length ∧ A2.take ((n + 1) * K) = xs.take (i * K) ++ ys ++ xs.drop (i * K) := by
  have e1 : (n + 1) * K = n * K + K := Nat.succ_mul n K
  have e2 : (i + 1) * K = i * K + K := Nat.succ_mul i K
  have hik : i * K ≤ n * K := Nat.mul_le_mul_right K hi
  have hxl : xs.length = n * K := by rw [← hx, List.length_take]; omega
  have hdl : (xs.drop (i * K)).length = n * K - i * K := by rw [List.length_drop, hxl]
  have a1l : A1.length = C.length := by
    rw [h1]
    simp only [List.length_append, List.length_take, List.length_drop, hxl]
    omega
  have t1 : A1.take (i * K) = xs.take (i * K) := by
    rw [h1, List.append_assoc, List.take_append_of_le_length (by rw [List.length_take]; omega), List.take_take, ← hx, List.take_take]
    congr 1
    omega
  have d1 : A1.drop (i * K + ys.length) = xs.drop (i * K) ++ C.drop ((n + 1) * K) := by
    rw [h1, List.append_assoc, List.drop_append_of_le_length (by rw [List.length_take]; omega)]
    rw [List.drop_eq_nil_of_le (by rw [List.length_take]; omega), List.nil_append]
    congr 2
    rw [hdl]
    omega
  constructor
  · rw [h2, List.length_append, List.length_append, List.length_take, List.length_drop, a1l]
    omega
  · rw [h2, t1, d1, ← List.append_assoc]
    have hlen : (xs.take (i * K) ++ ys ++ xs.drop (i * K)).length = (n + 1) * K := by
      rw [List.length_append, List.length_append, List.length_take, hdl, hxl, hy]
      omega
    rw [← hlen]
    exact List.take_left

/-- the row that is made anew, behind both stores -/
theorem ins_grow {xs ys Z : List Value} {n i K : Nat} (hxl : xs.length = n * K) (hi : i ≤ n) (hy : ys.length = K) (hZ : (n + 1) * K ≤ i * K + Z.length) {A0 A1 A2 : List Value}
    (h0 : A0 = xs.take (i * K) ++ Z) (h1 : A1 = A0.take (i * K) ++ ys ++ A0.drop (i * K + ys.length)) (h2 : A2 = A1.take ((i + 1) * K) ++ xs.drop (i * K) ++ A1.drop ((i + 1) * K + (xs.drop (i * K)).length)) :
    A2.length = A0.length ∧ A2.take ((n + 1) * K) = xs.take (i * K) ++ ys ++ xs.drop (i * K) := by
  have e1 : (n + 1) * K = n * K + K := Nat.succ_mul n K
  have e2 : (i + 1) * K = i * K + K := Nat.succ_mul i K
  have hik : i * K ≤ n * K := Nat.mul_le_mul_right K hi
  have hdl : (xs.drop (i * K)).length = n * K - i * K := by rw [List.length_drop, hxl]
  have htl : (xs.take (i * K)).length = i * K := by rw [List.length_take]; omega
  have a0l : A0.length = i * K + Z.length := by rw [h0, List.length_append, htl]
  have t0 : A0.take (i * K) = xs.take (i * K) := by
    have := List.take_left (l₁ := xs.take (i * K)) (l₂ := Z)
    rw [htl] at this
    rw [h0]
    exact this
  have a1l : A1.length = A0.length := by
    rw [h1, List.length_append, List.length_append, List.length_take, List.length_drop]
    omega
  have t1 : A1.take ((i + 1) * K) = xs.take (i * K) ++ ys := by
    have hl : (xs.take (i * K) ++ ys).length = (i + 1) * K := by rw [List.length_append, htl, hy]; omega
    rw [h1, t0, ← hl]
    exact List.take_left
  constructor
  · rw [h2]
    simp only [List.length_append, List.length_take, List.length_drop, hxl]
    omega
  · have hl : (xs.take (i * K) ++ ys ++ xs.drop (i * K)).length = (n + 1) * K := by rw [List.length_append, List.length_append, htl, hdl, hy]; omega
    rw [h2, t1, ← hl]
    exact List.take_left
end Go.Proofs.Ytgpckmolcdafcae

/-
  THE WALK of slices.Insert at []int: into a row of the call's own.
-/
namespace Go.Proofs.Ytgpckmolcdafcae
open Go.RowKit

/-- append of some elements to a row of the call's own, and where what comes of it lies -/
theorem run_append_blk {w : World} {B tS e size bytes : Nat} {i0 : TypeInfo} {z : Value} (ty : TypeId) (ht : Try.prog.underlying tS = some (.slice e)) (hi : Try.prog.info? e = some i0) (hz : i0.zero = some z) (hsize : i0.size = size) (hby : i0.bytes = bytes) (hzs : z.cells.size = size) (hsz : 0 < size) (hbb : bytes ≤ 1000)
    {v : Value} {n : Nat} {xs : List Value} (hown : w.ownsRow B e size v n xs) (hB : B ≤ w.heap.size) (a : Addr) (m c : Nat) (news : List Value) (hl : news.length = m * size) (hm : 0 < m) (hnews : ∀ j u, news[j]? = some u → w.cell? (a.add j) = some u) (h1 : ∀ u ∈ news, u.oneCell' = true) (hs : n + m ≤ 1000000) :
    ∃ v' w', (Builtin.append_ #[tS, tS] ty #[v, .slice (some a) m c]).run Try.prog w = .ok v' w' ∧ w'.ownsRow B e size v' (n + m) (xs ++ news) ∧ w.grownBy w' v.ownBlock ∧ (v'.ownBlock = v.ownBlock ∨ ∃ g, w.heap.size ≤ g ∧ v'.ownBlock = some g) := by
  have hbt : (n + m) * bytes ≤ 140737488355328 := Nat.le_trans (Nat.mul_le_mul hs hbb) (by decide)
  obtain ⟨v', w', hr, g2, g3, _⟩ := run_append_own (P := Try.prog) w B tS ty e i0 z size bytes ht hi hz hsize hby hzs hsz v n xs hown a m c news hl hnews h1 (by unfold maxLen; omega) hbt hB
  refine ⟨v', w', hr, g2, g3, ?_⟩
  subst hsize
  subst hby
  rcases hown.2 with ⟨rfl, hn0⟩ | ⟨g, cap, cur, rfl, hbg, hg, hnc, hcm, hcs, htake⟩
  · subst hn0
    have hr2 := run_append_nil (P := Try.prog) w tS ty e i0 z ht hi hz a m c news hl hnews hm (by omega) (by rw [Nat.zero_add] at hbt; omega)
    rw [hr2] at hr
    injection hr with e1 e2
    right
    refine ⟨w.heap.size, Nat.le_refl _, ?_⟩
    rw [← e1]
    rfl
  · by_cases hroom : n + m ≤ cap
    · have hr2 := run_append_room (P := Try.prog) w tS ty e i0 ht hi g n cap cur hg a m c news hl hnews h1 hroom (by rw [hl, hcs, ← Nat.add_mul]; exact Nat.mul_le_mul_right _ hroom)
      rw [hr2] at hr
      injection hr with e1 e2
      left
      rw [← e1]
      rfl
    · have hr2 := run_append_grow (P := Try.prog) w tS ty e i0 z ht hi hz ⟨g, 0, none⟩ n cap xs hown.1 (World.ownsRow.cells hown (g := g) rfl) a m c news hl hnews (by omega) (by omega) (growslice_fits (by omega) hbt)
      rw [hr2] at hr
      injection hr with e1 e2
      right
      refine ⟨w.heap.size, Nat.le_refl _, ?_⟩
      rw [← e1]
      rfl

set_option maxHeartbeats 3200000 in
set_option maxRecDepth 100000 in
theorem insI_any {w : World} {B : Nat} {v : Value} {l : List Nat} {vb x : Nat} (hown : OwnI w B v l) (hB : B ≤ w.heap.size) (hl : l.length ≤ 500000) (i : Nat) (hi : i ≤ l.length) (hvb : w.heap[vb]? = some (.cells #[.int .i64 (x : Int)] 3 (0, 0))) (hne : v.ownBlock ≠ some vb) :
    Calls Try.prog 54 #[v, .int .i64 (i : Int), .slice (some ⟨vb, 0, none⟩) 1 1] w fun e w' => ∃ v', e = .returned v' ∧ OwnI w' B v' (Tn.insertAt l i x) ∧ w.grownBy w' v.ownBlock ∧ (v'.ownBlock = v.ownBlock ∨ ∃ g, w.heap.size ≤ g ∧ v'.ownBlock = some g) := by
  obtain ⟨i0, hi0, hz0, hz1, hz2⟩ := info_parts infoI
  have hsz : (Try.prog.info? 3).map (·.size) = some 1 := by rw [hi0]; simp [hz1]
  have hnews : ∀ (j : Nat) (u : Value), ([iv x] : List Value)[j]? = some u → w.cell? ((⟨vb, 0, none⟩ : Addr).add j) = some u := by
    intro j u hu
    rw [add_at, Nat.zero_add]
    cases j with
    | zero => simp at hu; subst hu; simp [World.cell?, hvb, iv]
    | succ j => simp at hu
  have h1 : ∀ u ∈ ([iv x] : List Value), u.oneCell' = true := by intro u hu; simp at hu; subst hu; rfl
  by_cases hin : i = l.length
  · subst hin
    obtain ⟨p, c, rfl⟩ := hown.shape
    have hap : ∀ ty, ∃ v' w', (Builtin.append_ #[39, 39] ty #[.slice p l.length c, .slice (some ⟨vb, 0, none⟩) 1 1]).run Try.prog w = .ok v' w' ∧ w'.ownsRow B 3 1 v' (l.length + 1) (l.map iv ++ [iv x]) ∧ w.grownBy w' (Value.slice p l.length c).ownBlock ∧ (v'.ownBlock = (Value.slice p l.length c).ownBlock ∨ ∃ g, w.heap.size ≤ g ∧ v'.ownBlock = some g) :=
      fun ty => run_append_blk ty Try.underlying39 hi0 hz0 hz1 hz2 rfl (by decide) (by decide) hown hB ⟨vb, 0, none⟩ 1 1 [iv x] rfl (by decide) hnews h1 (by omega)
    obtain ⟨v', w', hr, ho', hg', hb'⟩ := hap 39
    have R : Hid (OwnI w' B v' (Tn.insertAt l l.length x)) := by
      show OwnI _ _ _ _
      unfold OwnI Tn.insertAt
      simpa using ho'
    have hlc : l.length ≤ c := by
      obtain ⟨_, _, he, h, _⟩ := (ints_of_owns hown).at
      cases he
      exact h
    have hcm : c ≤ 9223372036854775807 := by
      obtain ⟨_, _, he, _, h, _⟩ := (ints_of_owns hown).at
      cases he
      exact h
    clear hown hap ho' hnews h1 hvb hne
    generalize (Value.slice p l.length c).ownBlock = ob at *
    go_enter Try.func54, Try.ntmps54
    go_wp2_with (at_builtin; refine wpList_append_at _ rfl _ _ 39 39 rfl _ _ rfl rfl hr ?_)
    all_goals
      go_ret
      exact ⟨_, rfl, R.out, hg', hb'⟩
  · have hil : i < l.length := by omega
    have hxl : (l.map iv).length = l.length * 1 := by simp
    rcases hown.2 with ⟨_, h0⟩ | ⟨g, cap, cur, rfl, hBg, hg, hnc, hcm, hcs, htake⟩
    · omega
    · have hcl : cur.toList.length = cur.size := Array.length_toList
      have hgv : vb ≠ g := fun e => hne (by rw [e]; rfl)
      have hob : (Value.slice (some ⟨g, 0, none⟩) l.length cap).ownBlock = some g := rfl
      have hcm' : cap ≤ 9223372036854775807 := by unfold maxLen at hcm; omega
      have hgl : g < w.heap.size := by rw [Array.getElem?_eq_some_iff] at hg; exact hg.1
      have hone : ∀ u ∈ l.map iv, u.oneCell' = true := by
        intro u hu
        simp at hu
        obtain ⟨q, _, rfl⟩ := hu
        rfl
      have hcell : ∀ (W : World), (∀ k, k < w.heap.size → k ≠ w.heap.size → W.heap[k]? = w.heap[k]?) → ∀ j v, ((l.map iv).drop (i * 1))[j]? = some v → W.cell? ((⟨g, i, none⟩ : Addr).add j) = some v := by
        intro W hW j v hj
        have hc := World.ownsRow.cells hown (g := g) rfl (i + j) v (by rw [List.getElem?_drop, Nat.mul_one] at hj; exact hj)
        rw [add_at] at hc ⊢
        rw [Nat.zero_add] at hc
        rw [← hc]
        exact World.cell?_of_block (hW g hgl (by omega))
      rw [hob]
      by_cases hroom : l.length + 1 ≤ cap
      · obtain ⟨A1, hA1⟩ : ∃ A1 : List Value, A1 = cur.toList.take ((i + 1) * 1) ++ (l.map iv).drop (i * 1) ++ cur.toList.drop ((i + 1) * 1 + ((l.map iv).drop (i * 1)).length) := ⟨_, rfl⟩
        obtain ⟨A2, hA2⟩ : ∃ A2 : List Value, A2 = A1.take (i * 1) ++ [iv x] ++ A1.drop (i * 1 + [iv x].length) := ⟨_, rfl⟩
        obtain ⟨k1, k2⟩ := ins_shift (n := l.length) (K := 1) (ys := [iv x]) (by rw [hcl, hcs]; omega) htake (by omega) rfl hA1 hA2
        have hov : ∀ lb cb, (callFunc 58 #[.slice (some ⟨vb, 0, none⟩) 1 1, .slice (some ⟨g, i + 1, none⟩) lb cb]).run Try.prog w = .ok (.value (.bool false)) w := fun lb cb => by
          rw [run_callFunc_extern Try.func58 (by kernel_rfl) (by kernel_rfl) (by kernel_rfl) (e := Extern.SlicesOverlaps.overlaps #[39, 39] #[4]) (by kernel_rfl),
            Lib.run_overlaps_apart w 39 4 3 Try.underlying39 1 Try.sizeOf3 ⟨vb, 0, none⟩ ⟨g, i + 1, none⟩ 1 1 lb cb hgv 3 3 1 cur.size (by simp [World.shape?, hvb]) (by simp [World.shape?, hg]) (by omega) (by simp [World.frozen?, hvb]) (by simp [World.frozen?, hvb])]
          rfl
        have hcp1 : ∀ ty dc sc, (Builtin.copy_ #[39, 39] ty #[.slice (some ⟨g, i + 1, none⟩) (l.length - i) dc, .slice (some ⟨g, i, none⟩) (l.length + 1 - i) sc]).run Try.prog w.drew = .ok (goInt (Nat.min (l.length + 1 - i) (l.length - i))) (w.drew.setRow g A1.toArray) := fun ty dc sc => by
          rw [hA1]
          have := run_copyK (P := Try.prog) 1 w.drew 39 39 ty 3 g ((i + 1) * 1) (l.length - i) dc ⟨g, i, none⟩ (l.length + 1 - i) sc cur 3 ((l.map iv).drop (i * 1)) Try.underlying39 hsz hg (by show _ = (min (l.length + 1 - i) (l.length - i)) * 1; rw [List.length_drop, List.length_map]; omega) (hcell w.drew (fun _ _ _ => rfl)) (by simp; omega) (fun u hu => hone u (List.mem_of_mem_drop hu))
          rw [Nat.mul_one] at this
          rw [Nat.mul_one]
          exact this
        have hg1 : (w.drew.setRow g A1.toArray).heap[g]? = some (.cells A1.toArray 3 (0, 0)) := setRow_heap w.drew g cur _ 3 _ hg
        have a1l : A1.length = cur.size := by rw [hA1]; simp; omega
        have hcp2 : ∀ (W : World), W.heap = (w.drew.setRow g A1.toArray).heap → ∀ ty dc, (Builtin.copy_ #[39, 39] ty #[.slice (some ⟨g, i, none⟩) (l.length + 1 - i) dc, .slice (some ⟨vb, 0, none⟩) 1 1]).run Try.prog W = .ok (goInt (Nat.min 1 (l.length + 1 - i))) (W.setRow g A2.toArray) := fun W hW ty dc => by
          rw [hA2]
          have := run_copyK (P := Try.prog) 1 W 39 39 ty 3 g (i * 1) (l.length + 1 - i) dc ⟨vb, 0, none⟩ 1 1 A1.toArray 3 [iv x] Try.underlying39 hsz (by rw [hW]; exact hg1) (by show _ = (min 1 (l.length + 1 - i)) * 1; rw [List.length_singleton]; omega) (fun j u hu => by
            have := hnews j u hu
            rw [← this, add_at]
            exact World.cell?_of_block (by rw [hW]; exact setRow_other w.drew g vb _ hgv)) (by simp [a1l]; omega) h1
          rw [Nat.mul_one] at this
          rw [Nat.mul_one]
          simpa using this
        have R : ∀ W : World, W.heap = ((w.drew.setRow g A1.toArray).setRow g A2.toArray).heap → OwnI W B (.slice (some ⟨g, 0, none⟩) (l.length + 1) cap) (Tn.insertAt l i x) := by
          intro W hW
          have hil' : (Tn.insertAt l i x).length = l.length + 1 := Tn.len_insertAt
          unfold OwnI
          rw [hil']
          refine ⟨by simp [hil'], Or.inr ⟨g, cap, A2.toArray, rfl, hBg, by rw [hW]; exact setRow_heap _ g A1.toArray _ 3 _ hg1, hroom, hcm, by simp [k1, hcs], ?_⟩⟩
          show A2.take _ = _
          rw [k2]
          unfold Tn.insertAt
          simp [List.map_take, List.map_drop]
        have hgr : ∀ W : World, W.heap = ((w.drew.setRow g A1.toArray).setRow g A2.toArray).heap → W.os = w.os → W.tape = w.tape → W.output = w.output → w.grownBy W (some g) := by
          intro W hW h1 h2 h3
          refine ⟨h1, h2, h3, by rw [hW]; simp [World.setRow], fun k _ hk => ?_⟩
          rw [hW, setRow_other _ g k _ (fun e => hk (by rw [e])), setRow_other _ g k _ (fun e => hk (by rw [e]))]
          rfl
        have hb4 : ¬ (cap = i) := by omega
        have hb2 : ¬ (cap = i + 1) := by omega
        have hw1 : IntKind.i64.wrap ((i : Int) + 1) = (i : Int) + 1 := by rw [IntKind.wrap_i64]; omega
        have htn : ((i : Int) + 1).toNat = i + 1 := by omega
        have hz2' : ¬ ((i : Int) = (l.length : Int)) := by omega
        have hb1 : (0 : Int) ≤ (i : Int) + 1 := by omega
        have hb3 : (i : Int) ≤ (l.length : Int) + 1 := by omega
        clear hown hcell hone hA1 hA2 hnews h1 hne k1 k2 hg1 a1l htake hvb hob hxl hcl hg hcs
        generalize A1.toArray = R1 at *
        generalize A2.toArray = R2 at *
        have QR : Hid _ := R
        have QG : Hid _ := hgr
        clear R hgr
        have mixed : Try.prog.follows Departure.mixedOrders = true := by kernel_rfl
        go_enter Try.func54, Try.ntmps54
        go_wp2_with (simp only [hov])
        go_region_law_o (refine step_copy_at rfl _ _ 39 39 rfl _ _ (by simp [Act.eval, Act.put]) (by simp [Act.eval, Act.put]) (hcp1 _ _ _) ?_)
        go_wp2_with (at_builtin; refine wpList_copy_at _ rfl _ _ 39 39 rfl _ _ rfl rfl (hcp2 _ rfl _ _) ?_)
        go_ret
        exact ⟨_, rfl, QR.out _ rfl, QG.out _ rfl rfl rfl rfl, Or.inl rfl⟩
      · obtain ⟨G, hG⟩ : ∃ G, G = grownCap w (l.length + 1) cap 3 := ⟨_, rfl⟩
        have hGn : l.length + 1 ≤ G := by rw [hG]; exact grownCap_ge w _ _ _
        have hGm : G ≤ maxLen := by rw [hG]; exact grownCap_le_maxLen w (l.length + 1) cap 3 (by unfold maxLen; omega)
        have hG63 : G ≤ 9223372036854775807 := by unfold maxLen at hGm; omega
        obtain ⟨Z, hZ⟩ : ∃ Z : List Value, Z = (Builtin.zeroCells (Value.int .i64 0).cells (l.length + 1 - i) ++ Builtin.zeroCells (Value.int .i64 0).cells (G - (l.length + 1))).toList := ⟨_, rfl⟩
        obtain ⟨A0, hA0⟩ : ∃ A0 : List Value, A0 = (l.map iv).take (i * 1) ++ Z := ⟨_, rfl⟩
        obtain ⟨A1, hA1⟩ : ∃ A1 : List Value, A1 = A0.take (i * 1) ++ [iv x] ++ A0.drop (i * 1 + [iv x].length) := ⟨_, rfl⟩
        obtain ⟨A2, hA2⟩ : ∃ A2 : List Value, A2 = A1.take ((i + 1) * 1) ++ (l.map iv).drop (i * 1) ++ A1.drop ((i + 1) * 1 + ((l.map iv).drop (i * 1)).length) := ⟨_, rfl⟩
        have hZl : Z.length = (l.length + 1 - i) + (G - (l.length + 1)) := by rw [hZ]; simp [Builtin.zeroCells, Value.cells]
        have hA0l : A0.length = G := by rw [hA0, List.length_append, List.length_take, List.length_map, hZl]; omega
        obtain ⟨k1, k2⟩ := ins_grow (n := l.length) (K := 1) (ys := [iv x]) hxl (by omega) rfl (by rw [hZl]; omega) hA0 hA1 hA2
        have hA1l : A1.length = G := by rw [hA1]; simp; omega
        have hold : (Builtin.firstCells i0.size i (.slice (some ⟨g, 0, none⟩) i cap)).run Try.prog w.drew = .ok ((l.map iv).take i).toArray w.drew := by
          rw [hz1]
          exact run_firstCells_some w.drew 1 i ⟨g, 0, none⟩ i cap ((l.map iv).take i) (by rw [List.length_take, List.length_map]; omega) (fun j v hj => by
            rw [List.getElem?_take] at hj
            split at hj
            · exact World.ownsRow.cells hown (g := g) rfl j v hj
            · cases hj)
        have hik : i + (l.length + 1 - i) = l.length + 1 := by omega
        have hkk : (l.length : Int) + 1 - (i : Int) = ((l.length + 1 - i : Nat) : Int) := by omega
        have hrz : ∀ ty, (Builtin.append_ #[39, 3] ty #[.slice (some ⟨g, 0, none⟩) i cap, .int .i64 ((l.length : Int) + 1 - (i : Int))]).run Try.prog w = .ok (.slice (some ⟨w.heap.size, 0, none⟩) (l.length + 1) G) (w.drew.alloc (.cells A0.toArray 3)) := fun ty => by
          have h := Lib.run_append_grow_zeros w 39 3 ty 3 i0 _ .i64 .i64 Try.underlying39 Try.underlying3 hi0 hz0 (some ⟨g, 0, none⟩) i cap ((l.map iv).take i) hold (l.length + 1 - i) (by omega) (by omega) (by omega) (by omega) (by rw [hz2]; omega) (by rw [hz2, hik]; exact growslice_fits (by omega) (by omega))
          rw [hik, ← hG] at h
          rw [hkk, h, hA0, hZ, Nat.mul_one]
          congr 3
          simp
        have hN0 : (w.drew.alloc (.cells A0.toArray 3)).heap[w.heap.size]? = some (.cells A0.toArray 3 (0, 0)) := heap_alloc_new w.drew _
        have hold0 : ∀ k, k < w.heap.size → (w.drew.alloc (.cells A0.toArray 3)).heap[k]? = w.heap[k]? := fun k hk => heap_alloc_old w.drew _ hk
        have hvl : vb < w.heap.size := by rw [Array.getElem?_eq_some_iff] at hvb; exact hvb.1
        have hcp1 : ∀ (W : World), W.heap = (w.drew.alloc (.cells A0.toArray 3)).heap → ∀ ty dc, (Builtin.copy_ #[39, 39] ty #[.slice (some ⟨w.heap.size, i, none⟩) (l.length + 1 - i) dc, .slice (some ⟨vb, 0, none⟩) 1 1]).run Try.prog W = .ok (goInt (Nat.min 1 (l.length + 1 - i))) (W.setRow w.heap.size A1.toArray) := fun W hW ty dc => by
          rw [hA1]
          have := run_copyK (P := Try.prog) 1 W 39 39 ty 3 w.heap.size (i * 1) (l.length + 1 - i) dc ⟨vb, 0, none⟩ 1 1 A0.toArray 3 [iv x] Try.underlying39 hsz (by rw [hW]; exact hN0) (by show _ = (min 1 (l.length + 1 - i)) * 1; rw [List.length_singleton]; omega) (fun j u hu => by
            have := hnews j u hu
            rw [← this, add_at]
            exact World.cell?_of_block (by rw [hW]; exact hold0 vb hvl)) (by simp [hA0l]; omega) h1
          rw [Nat.mul_one] at this
          rw [Nat.mul_one]
          simpa using this
        have hcp2 : ∀ (W : World) (V : World), V.heap = (w.drew.alloc (.cells A0.toArray 3)).heap → W.heap = (V.setRow w.heap.size A1.toArray).heap → ∀ ty dc sc, (Builtin.copy_ #[39, 39] ty #[.slice (some ⟨w.heap.size, i + 1, none⟩) (l.length - i) dc, .slice (some ⟨g, i, none⟩) (l.length - i) sc]).run Try.prog W = .ok (goInt (Nat.min (l.length - i) (l.length - i))) (W.setRow w.heap.size A2.toArray) := fun W V hV hW ty dc sc => by
          rw [hA2]
          have := run_copyK (P := Try.prog) 1 W 39 39 ty 3 w.heap.size ((i + 1) * 1) (l.length - i) dc ⟨g, i, none⟩ (l.length - i) sc A1.toArray 3 ((l.map iv).drop (i * 1)) Try.underlying39 hsz (by rw [hW]; exact setRow_heap V w.heap.size A0.toArray _ 3 _ (by rw [hV]; exact hN0)) (by show _ = (min (l.length - i) (l.length - i)) * 1; rw [List.length_drop, List.length_map]; omega)
            (hcell W (fun k hk hk2 => by rw [hW, setRow_other _ _ k _ hk2, hV]; exact hold0 k hk)) (by simp [hA1l]; omega) (fun u hu => hone u (List.mem_of_mem_drop hu))
          rw [Nat.mul_one] at this
          rw [Nat.mul_one]
          simpa using this
        have R : ∀ (W U V : World), V.heap = (w.drew.alloc (.cells A0.toArray 3)).heap → U.heap = (V.setRow w.heap.size A1.toArray).heap → W.heap = (U.setRow w.heap.size A2.toArray).heap → OwnI W B (.slice (some ⟨w.heap.size, 0, none⟩) (l.length + 1) G) (Tn.insertAt l i x) := by
          intro W U V hV hU hW
          have hil' : (Tn.insertAt l i x).length = l.length + 1 := Tn.len_insertAt
          have g1 : U.heap[w.heap.size]? = some (.cells A1.toArray 3 (0, 0)) := by rw [hU]; exact setRow_heap V w.heap.size A0.toArray _ 3 _ (by rw [hV]; exact hN0)
          unfold OwnI
          rw [hil']
          refine ⟨by simp [hil'], Or.inr ⟨w.heap.size, G, A2.toArray, rfl, hB, by rw [hW]; exact setRow_heap U w.heap.size A1.toArray _ 3 _ g1, hGn, hGm, by simp [k1, hA0l], ?_⟩⟩
          show A2.take _ = _
          rw [k2]
          unfold Tn.insertAt
          simp [List.map_take, List.map_drop]
        have hgr : ∀ (W U V : World), V.heap = (w.drew.alloc (.cells A0.toArray 3)).heap → U.heap = (V.setRow w.heap.size A1.toArray).heap → W.heap = (U.setRow w.heap.size A2.toArray).heap → W.os = w.os → W.tape = w.tape → W.output = w.output → w.grownBy W (some g) := by
          intro W U V hV hU hW h1 h2 h3
          refine ⟨h1, h2, h3, by rw [hW]; simp [World.setRow, hU, hV], fun k hk _ => ?_⟩
          rw [hW, setRow_other _ _ k _ (by omega), hU, setRow_other _ _ k _ (by omega), hV]
          exact hold0 k hk
        have hb4 : ¬ (cap = i) := by omega
        have hGi : ¬ (G = i) := by omega
        have hGi1 : ¬ (G = i + 1) := by omega
        have hw1 : IntKind.i64.wrap ((i : Int) + 1) = (i : Int) + 1 := by rw [IntKind.wrap_i64]; omega
        have htn : ((i : Int) + 1).toNat = i + 1 := by omega
        have hz2' : ¬ ((i : Int) = (l.length : Int)) := by omega
        have hb1 : (0 : Int) ≤ (i : Int) + 1 := by omega
        have hb3 : (i : Int) ≤ (l.length : Int) + 1 := by omega
        have hb5 : (i : Int) ≤ (l.length : Int) := by omega
        have hgt : (cap : Int) < (l.length : Int) + 1 := by omega
        have mixed : Try.prog.follows Departure.mixedOrders = true := by kernel_rfl
        clear hown hcell hone hA0 hA1 hA2 hnews h1 hne k1 k2 htake hvb hob hxl hcl hg hcs hold hN0 hold0 hZ hZl hA0l hA1l hkk hik hG
        generalize A0.toArray = R0 at *
        generalize A1.toArray = R1 at *
        generalize A2.toArray = R2 at *
        have QR : Hid _ := R
        have QG : Hid _ := hgr
        clear R hgr
        go_enter Try.func54, Try.ntmps54
        have hcpW := hcp1 (w.alloc (.cells R0 3)).drew rfl
        have hcpV := hcp2 (((w.alloc (.cells R0 3)).drew.setRow w.heap.size R1).drew) ((w.alloc (.cells R0 3)).drew) rfl rfl
        go_wp2_with (first
          | (at_builtin; refine wpList_append_at _ rfl _ _ 39 3 rfl _ _ rfl rfl (hrz _) ?_)
          | (simp only [hcpW]))
        go_region_law_o (refine step_copy_at rfl _ _ 39 39 rfl _ _ (by simp [Act.eval, Act.put]) (by simp [Act.eval, Act.put]) (hcpV _ _ _) ?_)
        go_wp2_with fail
        go_ret
        exact ⟨_, rfl, QR.out _ (((w.alloc (.cells R0 3)).drew.setRow w.heap.size R1).drew) ((w.alloc (.cells R0 3)).drew) rfl rfl rfl, QG.out _ (((w.alloc (.cells R0 3)).drew.setRow w.heap.size R1).drew) ((w.alloc (.cells R0 3)).drew) rfl rfl rfl rfl rfl rfl, Or.inr ⟨_, Nat.le_refl _, rfl⟩⟩
end Go.Proofs.Ytgpckmolcdafcae

/-
  THE WALKS of diff's stand: leave, enter, within.
-/
namespace Go.Proofs.Ytgpckmolcdafcae
open Go.RowKit Go.Maps

/-- a spot's cells -/
structure SpotAt (w : World) (g j : Nat) (s : Sp) (kv : Value) : Prop where
  c0 : w.cell? ⟨g, j * 10, none⟩ = some (.int .i64 (s.it.node : Int))
  c1 : w.cell? ⟨g, j * 10 + 1, none⟩ = some (.int .i64 s.it.role)
  c2 : w.cell? ⟨g, j * 10 + 2, none⟩ = some (.string s.it.name)
  c3 : w.cell? ⟨g, j * 10 + 3, none⟩ = some (.string s.it.about)
  c4 : w.cell? ⟨g, j * 10 + 4, none⟩ = some (.int .i64 s.it.level)
  c5 : w.cell? ⟨g, j * 10 + 5, none⟩ = some (.int .i64 s.it.checked)
  c6 : w.cell? ⟨g, j * 10 + 6, none⟩ = some (.bool s.it.off)
  c7 : w.cell? ⟨g, j * 10 + 7, none⟩ = some (.slice none 0 0)
  c8 : w.cell? ⟨g, j * 10 + 8, none⟩ = some (.int .i64 s.up)
  c9 : w.cell? ⟨g, j * 10 + 9, none⟩ = some kv
theorem spots_at {w : World} {g n c : Nat} {ar : List Sp} {kvs : List Value} (h : w.ownsRow 0 59 10 (.slice (some ⟨g, 0, none⟩) n c) n (cellsP ar kvs)) (hl : kvs.length = ar.length) (j : Nat) (hj : j < ar.length) : SpotAt w g j ar[j] (kvs[j]'(by omega)) := by
  have hy : ∀ i, i < 10 → ∀ x, (spc (ar[j], kvs[j]'(by omega)))[i]? = some x → w.cell? ⟨g, j * 10 + i, none⟩ = some x := fun i hi x hx => by
    have := World.ownsRow.cells h (g := g) rfl (j * 10 + i) x (by rw [cellsP_at ar kvs hl j i hj hi]; exact hx)
    rw [add_at, Nat.zero_add] at this
    exact this
  exact ⟨hy 0 (by decide) _ rfl, hy 1 (by decide) _ rfl, hy 2 (by decide) _ rfl, hy 3 (by decide) _ rfl, hy 4 (by decide) _ rfl, hy 5 (by decide) _ rfl, hy 6 (by decide) _ rfl, hy 7 (by decide) _ rfl, hy 8 (by decide) _ rfl, hy 9 (by decide) _ rfl⟩
theorem StAt.at {w : World} {x : Ax} (h : StAt w x) (j : Nat) (hj : j < x.ar.length) : ∃ hj' : j < x.kvs.length, SpotAt w x.g j x.ar[j] x.kvs[j] ∧ ∃ p c, x.kvs[j] = .slice p x.ar[j].kids.length c ∧ x.ar[j].kids.length ≤ c ∧ c ≤ 9223372036854775807 := by
  have hj' : j < x.kvs.length := by rw [h.len]; exact hj
  obtain ⟨p, c, e, h1, h2, _⟩ := (ints_of_owns (h.kids j hj hj')).at
  exact ⟨hj', spots_at h.row h.len j hj, p, c, e, h1, h2⟩
theorem StAt.cap {w : World} {x : Ax} (h : StAt w x) : x.ar.length ≤ x.cap ∧ x.cap ≤ 9223372036854775807 := by
  rcases h.row.2 with ⟨h5, _⟩ | ⟨g', cap, cur, e, h3, h6, h7, h8, _⟩
  · cases h5
  · cases e
    exact ⟨h7, by unfold maxLen at h8; omega⟩
theorem StAt.fz {w : World} {x : Ax} (h : StAt w x) (j : Nat) : w.frozen? ⟨x.g, j, none⟩ = false := World.ownsRow.frozenAt h.row j

theorem leave1_enters : ∀ args w, (callFunc 53 args).run Try.prog w = .ok (.enter 53 args) w := enters_of Try.func53 (by kernel_rfl) rfl
set_option maxHeartbeats 800000 in
theorem leave1_any {w : World} {K n : Nat} (hK : w.cell? ⟨K, 0, none⟩ = some (.int .i64 (n : Int))) (k : Nat) :
    Calls Try.prog 53 #[.int .i64 (k : Int), .pointer (some ⟨K, 0, none⟩)] w fun e w' => e = .returned (.bool (k == n)) ∧ w' = w := by
  have e : ((k : Int) == (n : Int)) = (k == n) := by rw [Bool.eq_iff_iff]; simp; omega
  go_enter Try.func53, Try.ntmps53
  go_wp2_with fail
  go_ret
  exact ⟨by rw [← e]; rfl, rfl⟩
theorem leave1_tests {w : World} {K n : Nat} (hK : w.cell? ⟨K, 0, none⟩ = some (.int .i64 (n : Int))) : Tests 53 #[.pointer (some ⟨K, 0, none⟩)] (fun k => k == n) w := by
  intro k
  have e : (#[.int .i64 (k : Int)] ++ #[.pointer (some ⟨K, 0, none⟩)] : Array Value) = #[.int .i64 (k : Int), .pointer (some ⟨K, 0, none⟩)] := by simp
  rw [e]
  refine (leave1_any hK k).mono ?_
  rintro e w' ⟨rfl, rfl⟩
  exact ⟨rfl, Below.refl _ _⟩
theorem bel_drewN (C : Nat) (w : World) (n : Nat) : Below C w (w.drewN n) := ⟨rfl, rfl, rfl, Nat.le_refl _, fun _ _ => rfl⟩

set_option maxHeartbeats 1600000 in
theorem hleave_any {w : World} {x : Ax} (h : StAt w x) {k u : Nat} (hk : k < x.ar.length) (hu : u < x.ar.length) (hup : x.ar[k].up = (u : Int)) (hfew : x.ar[u].kids.length ≤ 500000) :
    Calls Try.prog 43 #[.pointer (some ⟨x.S, 0, none⟩), .int .i64 (k : Int)] w fun e w' => e = .returned (.tuple #[]) ∧ ∃ x', StAt w' x' ∧ x'.ar = leaveA x.ar k u ∧ x'.nm = x.nm ∧ Fw x x' w w' := by
  have W1 : Below w.heap.size w (w.alloc (.cells #[.int .i64 (k : Int)] 3)) := (Below.refl _ _).alloc (Nat.le_refl _) _
  have H1 : StAt (w.alloc (.cells #[.int .i64 (k : Int)] 3)) x := h.below W1
  have F1 : Fw x x w (w.alloc (.cells #[.int .i64 (k : Int)] 3)) := Fw.below W1
  have q0 := cell_box w (.int .i64 (k : Int)) (t := 3)
  have hKf : ¬ x.foot w.heap.size := fun hf => by have := h.lt _ hf; omega
  clear h W1
  go_enter Try.func43, Try.ntmps43
  go_upto_region 1 with fail
  generalize w.alloc (.cells #[.int .i64 (k : Int)] 3) = w1 at *
  generalize w.heap.size = K at *
  have s0 := H1.s0
  obtain ⟨hk1, A, _⟩ := H1.at k hk
  have c8 := A.c8
  rw [hup] at c8
  have hcap := H1.cap.1
  have hcap2 := H1.cap.2
  clear A
  go_quiet (fail)
  have H2 : StAt (w1.drewN nq) x := H1.below (bel_drewN _ _ _)
  have F2 : Fw x x w (w1.drewN nq) := F1.trans (Fw.below (bel_drewN _ _ _))
  have q2 : (w1.drewN nq).cell? ⟨K, 0, none⟩ = some (.int .i64 (k : Int)) := q0
  clear s0 c8 q0 H1 F1
  generalize w1.drewN nq = W at *
  obtain ⟨hu1, A, p, c, e9, hc1, hc2⟩ := H2.at u hu
  have c9 := A.c9
  have ho : OwnI W 0 x.kvs[u] x.ar[u].kids := H2.kids u hu hu1
  have hdel := del_any leave1_enters ho hfew (fun W' hgr => leave1_tests (K := K) (n := k) (World.grownBy.cell hgr q2 (fun e => hKf (Or.inr (Or.inr (Or.inr ⟨_, List.getElem_mem hu1, e.symm⟩))))))
  have HH : Hid (StAt W x) := H2
  have FF : Hid (Fw x x w W) := F2
  have fz := H2.fz (u * 10 + 9)
  have ng : x.kvs[u].ownBlock ≠ some x.g := fun e => (H2.kS _ (List.getElem_mem hu1) _ e).2.1 rfl
  clear A ho H2 F2
  have e9' : Hid (x.kvs[u] = .slice p x.ar[u].kids.length c) := e9
  rw [e9] at c9 hdel
  clear e9
  have glt : x.g < W.heap.size := HH.out.lt _ (Or.inr (Or.inl rfl))
  go_wp2_with (go_at_call 52; refine hdel.mono ?_; clear hdel; rintro e w9 ⟨v9, rfl, ho9, hob9, hg9⟩; have HG : Hid (W.grownBy w9 x.kvs[u].ownBlock) := (by show W.grownBy w9 x.kvs[u].ownBlock; rw [e9'.out]; exact hg9); have HO : Hid (OwnI w9 0 v9 (List.filter (fun j => !(j == k)) x.ar[u].kids)) := ho9; have HB : Hid (v9.ownBlock = x.kvs[u].ownBlock) := (by show v9.ownBlock = x.kvs[u].ownBlock; rw [e9'.out]; exact hob9); have c99 := World.grownBy.cell HG.out c9 (fun e => ng e.symm); have f99 : w9.frozen? ⟨x.g, u * 10 + 9, none⟩ = false := (by rw [← fz]; simp only [World.frozen?, HG.out.block x.g glt (fun e => ng e.symm)]); obtain ⟨p9, cc9, rfl⟩ := ho9.shape; clear ho9 hob9 hg9)
  go_end0
  refine ⟨rfl, ?_⟩
  obtain ⟨G1, G2⟩ := HH.out.setKids hu hu1 HO.out HG.out (Or.inl HB.out) rfl
  refine ⟨_, G1, ?_, rfl, FF.out.trans G2⟩
  simp only [Ax.setKids]
  unfold leaveA
  rw [mod_eq (List.getElem?_eq_getElem hu)]
  rfl
end Go.Proofs.Ytgpckmolcdafcae

/-
  THE WALKS of diff's stand: enter, within.
-/
namespace Go.Proofs.Ytgpckmolcdafcae
open Go.RowKit Go.Maps

theorem insertAt_idx : ∀ (l : List Nat) (i k : Nat), i ≤ l.length → Tn.insertAt l i k = l.insertIdx i k
  | l, 0, k, _ => by simp [Tn.insertAt]
  | [], i + 1, k, h => by simp at h
  | a :: l, i + 1, k, h => by
    have ih := insertAt_idx l i k (by simpa using h)
    unfold Tn.insertAt at ih ⊢
    rw [List.insertIdx_succ_cons, ← ih]
    simp

set_option maxHeartbeats 6400000 in
theorem henter_any {w : World} {x : Ax} (h : StAt w x) {k u i : Nat} (hk : k < x.ar.length) (hu : u < x.ar.length) (hfew : x.ar[u].kids.length ≤ 500000) (hi : i ≤ x.ar[u].kids.length) :
    Calls Try.prog 44 #[.pointer (some ⟨x.S, 0, none⟩), .int .i64 (k : Int), .int .i64 (u : Int), .int .i64 (i : Int)] w fun e w' => e = .returned (.tuple #[]) ∧ ∃ x', StAt w' x' ∧ x'.ar = enterA x.ar k u i ∧ x'.nm = x.nm ∧ Fw x x' w w' := by
  obtain ⟨G1, G2⟩ := h.setUp hk (u : Int)
  have s0 := h.s0
  obtain ⟨hk1, A, A2⟩ := h.at k hk
  clear A2
  have c8 := A.c8
  have f8 := h.fz (k * 10 + 8)
  have hcap := h.cap.1
  have hcap2 := h.cap.2
  have E1 : Hid (x.ar.modify k (setUp (u : Int)) = x.ar.set k { x.ar[k] with up := (u : Int) }) := by show _ = _; rw [mod_eq (List.getElem?_eq_getElem hk)]; rfl
  have hul : u < (x.ar.set k { x.ar[k] with up := (u : Int) }).length := by simpa using hu
  have ekids : (x.ar.set k { x.ar[k] with up := (u : Int) })[u].kids = x.ar[u].kids := by
    rw [List.getElem_set]
    by_cases e : k = u
    · subst e; simp
    · simp [e]
  clear A h
  go_enter Try.func44, Try.ntmps44
  go_upto_region 1 with fail
  generalize w.setCell ⟨x.g, k * 10 + 8, none⟩ (.int .i64 (u : Int)) = W at *
  generalize hx2 : ({ x with ar := x.ar.set k { x.ar[k] with up := (u : Int) } } : Ax) = x2 at *
  have q1 : x2.S = x.S := by rw [← hx2]
  have q2 : x2.nm = x.nm := by rw [← hx2]
  have q3 : x2.ar = x.ar.set k { x.ar[k] with up := (u : Int) } := by rw [← hx2]
  have hu2 : u < x2.ar.length := by rw [q3]; exact hul
  have ek2 : x2.ar[u].kids = x.ar[u].kids := by simp only [q3]; exact ekids
  have hlen2 : x2.ar.length = x.ar.length := by rw [q3]; simp
  have E2 : Hid (enterA x.ar k u i = x2.ar.modify u (onKids (fun l => l.insertIdx i k))) := by show _ = _; unfold enterA; rw [E1.out, q3]
  clear hx2 hul ekids E1 q3 c8 f8 s0
  rw [← ek2] at hfew hi
  have s0 := G1.s0
  rw [q1, hlen2] at s0
  obtain ⟨hu1, A, p, c, e9, hc1, hc2⟩ := G1.at u hu2
  have c9 := A.c9
  have glt : x2.g < W.heap.size := G1.lt _ (Or.inr (Or.inl rfl))
  have slt : x.S < W.heap.size := by rw [← q1]; exact G1.lt _ (Or.inl rfl)
  have hcap3 := G1.cap.1
  rw [hlen2] at hcap3
  have fz := G1.fz (u * 10 + 9)
  have ng : x2.kvs[u].ownBlock ≠ some x2.g := fun e => (G1.kS _ (List.getElem_mem hu1) _ e).2.1 rfl
  have nS : x2.kvs[u].ownBlock ≠ some x.S := fun e => (G1.kS _ (List.getElem_mem hu1) _ e).1 (by rw [q1])
  have vlt : ∀ b, x2.kvs[u].ownBlock = some b → b < W.heap.size := fun b e => G1.lt b (Or.inr (Or.inr (Or.inr ⟨_, List.getElem_mem hu1, e⟩)))
  have HG : Hid (StAt W x2) := G1
  have HF : Hid (Fw x x2 w W) := G2
  have ho : OwnI W 0 x2.kvs[u] x2.ar[u].kids := G1.kids u hu2 hu1
  have e9' : Hid (x2.kvs[u] = .slice p x2.ar[u].kids.length c) := e9
  rw [e9] at c9 ho ng nS vlt
  have BB : Below W.heap.size W (W.alloc (.cells #[.int .i64 (k : Int)] 3)).drew := ((Below.refl _ _).alloc (Nat.le_refl _) _).drew
  have HI : Calls Try.prog 54 #[.slice p x2.ar[u].kids.length c, .int .i64 (i : Int), .slice (some ⟨W.heap.size, 0, none⟩) 1 1] (W.alloc (.cells #[.int .i64 (k : Int)] 3)).drew fun e w' => ∃ v', e = .returned v' ∧ OwnI w' 0 v' (Tn.insertAt x2.ar[u].kids i k) ∧ (W.alloc (.cells #[.int .i64 (k : Int)] 3)).drew.grownBy w' (Value.slice p x2.ar[u].kids.length c).ownBlock ∧ (v'.ownBlock = (Value.slice p x2.ar[u].kids.length c).ownBlock ∨ ∃ g, (W.alloc (.cells #[.int .i64 (k : Int)] 3)).drew.heap.size ≤ g ∧ v'.ownBlock = some g) :=
    insI_any (vb := W.heap.size) (x := k) (owns_below ho BB) (Nat.zero_le _) hfew i hi (heap_alloc_new W (.cells #[.int .i64 (k : Int)] 3)) (fun e => by have := vlt _ e; omega)
  have HBB : Hid (Below W.heap.size W (W.alloc (.cells #[.int .i64 (k : Int)] 3)).drew) := BB
  have SS : ∀ w'', Keeps W w'' → (fun w'' => w''.cell? ⟨x.S, 0, none⟩ = some (.slice (some ⟨x2.g, 0, none⟩) x.ar.length x2.cap)) w'' := fun w'' hk => hk _ _ s0
  have FIN : Hid (∀ (w9 : World) (v9 : Value), OwnI w9 0 v9 (Tn.insertAt x2.ar[u].kids i k) → (W.alloc (.cells #[.int .i64 (k : Int)] 3)).drew.grownBy w9 (Value.slice p x2.ar[u].kids.length c).ownBlock → (v9.ownBlock = (Value.slice p x2.ar[u].kids.length c).ownBlock ∨ ∃ g, (W.alloc (.cells #[.int .i64 (k : Int)] 3)).drew.heap.size ≤ g ∧ v9.ownBlock = some g) → ∃ x', StAt (w9.setCell ⟨x2.g, u * 10 + 9, none⟩ v9) x' ∧ x'.ar = enterA x.ar k u i ∧ x'.nm = x.nm ∧ Fw x x' w (w9.setCell ⟨x2.g, u * 10 + 9, none⟩ v9)) := by
    intro w9 v9 ho9 hg9 hb9
    rw [← e9] at hg9 hb9
    have G3 : StAt (W.alloc (.cells #[.int .i64 (k : Int)] 3)).drew x2 := G1.below BB
    obtain ⟨R1, R2⟩ := G3.setKids hu2 hu1 (by rw [insertAt_idx _ _ _ hi] at ho9; exact ho9) hg9 hb9 rfl
    refine ⟨_, R1, ?_, q2, (G2.trans (Fw.below BB)).trans R2⟩
    rw [E2.out, mod_eq (List.getElem?_eq_getElem hu2)]
    rfl
  have NG : Hid ((Value.slice p x2.ar[u].kids.length c).ownBlock ≠ some x2.g) := ng
  have NS : Hid ((Value.slice p x2.ar[u].kids.length c).ownBlock ≠ some x.S) := nS
  have Q1 : Hid (x2.S = x.S) := q1
  have Q2 : Hid (x2.nm = x.nm) := q2
  have SG : Hid (x.S ≠ x2.g) := (by show x.S ≠ x2.g; rw [← q1]; exact G1.sg)
  have HU2 : Hid (u < x2.ar.length) := hu2
  have HU1 : Hid (u < x2.kvs.length) := hu1
  have HL : Hid (x2.ar.length = x.ar.length) := hlen2
  have HFZ : Hid ((W.alloc (.cells #[.int .i64 (k : Int)] 3)).drew.frozen? ⟨x2.g, u * 10 + 9, none⟩ = false) := (BB.frozen (p := ⟨x2.g, u * 10 + 9, none⟩) glt).trans fz
  have GLT : Hid (x2.g < (W.alloc (.cells #[.int .i64 (k : Int)] 3)).drew.heap.size) := Nat.lt_of_lt_of_le glt BB.size
  have HI2 : Hid (i ≤ x2.ar[u].kids.length) := hi
  clear BB A e9 G1 G2 ng nS q1 q2 hlen2 ek2 vlt ho fz hfew hc1 hc2 hcap hcap2 hk1 hi
  have hu2' : u < x.ar.length := hu
  clear HG HF E2 SG Q1 Q2 HU2 HU1 HL HI2 e9' SS
  generalize x2.ar[u].kids = kl at *
  go_region_with
    (first
      | (go_at_call 54; refine HI.mono ?_; clear HI; rintro e w9 ⟨v9, rfl, ho9, hg9, hb9⟩;
         have SK : w9.cell? ⟨x.S, 0, none⟩ = some (.slice (some ⟨x2.g, 0, none⟩) x.ar.length x2.cap) := hg9.cell (keeps_below HBB.out (Nat.le_refl _) _ _ s0) (fun e => NS.out e.symm);
         have c99 : w9.cell? ⟨x2.g, u * 10 + 9, none⟩ = some (.slice p kl.length c) := hg9.cell (keeps_below HBB.out (Nat.le_refl _) _ _ c9) (fun e => NG.out e.symm);
         have f9 : w9.frozen? ⟨x2.g, u * 10 + 9, none⟩ = false := (by rw [← HFZ.out]; simp only [World.frozen?, hg9.block x2.g GLT.out (fun e => NG.out e.symm)]);
         have ho9' := ho9; obtain ⟨p9, cc9, rfl⟩ := ho9'.shape; clear ho9'))
  all_goals
    go_end0
    exact ⟨rfl, FIN.out _ _ ho9 hg9 hb9⟩
end Go.Proofs.Ytgpckmolcdafcae

/-
  STANDS in memory: a spot, found by its number.
-/
namespace Go.Proofs.Ytgpckmolcdafcae
open Go.RowKit Go.Maps

/-- a spot as it lies -/
structure Lies (w : World) (x : Ax) (k : Nat) (s : Sp) (p : Option Addr) (c : Nat) : Prop where
  lt : k < x.ar.length
  at_ : SpotAt w x.g k s (.slice p s.kids.length c)
  le : s.kids.length ≤ c
  max : c ≤ 9223372036854775807
  kv : x.kvs[k]? = some (.slice p s.kids.length c)
  own : OwnI w 0 (.slice p s.kids.length c) s.kids
theorem StAt.spot {w : World} {x : Ax} (h : StAt w x) {k : Nat} {s : Sp} (hs : x.ar[k]? = some s) : ∃ p c, Lies w x k s p c := by
  obtain ⟨hlt, rfl⟩ := List.getElem?_eq_some_iff.mp hs
  obtain ⟨hj, A, p, c, e, h1, h2⟩ := h.at k hlt
  refine ⟨p, c, hlt, by rw [← e]; exact A, h1, h2, by rw [← e]; exact List.getElem?_eq_getElem hj, by rw [← e]; exact h.kids k hlt hj⟩
/-- the list of kids that was looked at stays where it is, if the lists do -/
theorem StAt.again {w : World} {x : Ax} (h : StAt w x) {k : Nat} {s : Sp} (hs : x.ar[k]? = some s) {p : Option Addr} {c : Nat} (hk : x.kvs[k]? = some (.slice p s.kids.length c)) : Lies w x k s p c := by
  obtain ⟨p', c', L⟩ := h.spot hs
  have e := L.kv
  rw [hk] at e
  cases Option.some.inj e
  exact L
def Ax.setNm (x : Ax) (nm : Nm) : Ax := { x with nm := nm }
theorem Lies.ints {w : World} {x : Ax} {k : Nat} {s : Sp} {p : Option Addr} {c : Nat} (h : Lies w x k s p c) (j : Nat) (hj : j < s.kids.length) : ∃ b o, p = some ⟨b, o, none⟩ ∧ w.cell? ⟨b, o + j, none⟩ = some (.int .i64 (s.kids[j] : Int)) := by
  obtain ⟨p', c', e, _, _, _, hat⟩ := (ints_of_owns h.own).at
  cases e
  exact hat j hj
end Go.Proofs.Ytgpckmolcdafcae

/-
  ORDERS: a cell that is read ahead of being written: till the store has come up the cell holds what it held.
-/
namespace Go.Proofs.Ytgpckmolcdafcae
open Go

/-- A always; B till st has come up; st waits for i0 -/
def SK (A B : World → Prop) (i0 st : Nat) (l : Array Bool) (w : World) : Prop := A w ∧ (l.getD i0 true = false → l.getD st true = false) ∧ (l.getD st true = false → B w)
theorem SK.a {A B : World → Prop} {i0 st : Nat} {l : Array Bool} {w : World} (h : SK A B i0 st l w) : A w := h.1
theorem un_of {l : Array Bool} {i j : Nat} (h : (l.setIfInBounds i true).getD j true = false) : l.getD j true = false ∧ i ≠ j := by
  by_cases e : i = j
  · subst e
    by_cases hl : i < l.size
    · simp [hl] at h
    · have hl2 : l.size ≤ i := Nat.le_of_not_lt hl
      simp [hl2] at h
  · exact ⟨by rwa [getD_set_ne true e] at h, e⟩
theorem un_mk {l : Array Bool} {i j : Nat} (h : l.getD j true = false) (e : i ≠ j) : (l.setIfInBounds i true).getD j true = false := by rw [getD_set_ne true e]; exact h
theorem SK.set {A B : World → Prop} {i0 st : Nat} {l : Array Bool} {w : World} (h : SK A B i0 st l w) {i : Nat} (hi : i ≠ st) : SK A B i0 st (l.setIfInBounds i true) w :=
  ⟨h.1, fun e => un_mk (h.2.1 (un_of e).1) hi, fun e => h.2.2 (un_of e).1⟩

section
variable {P : Program} {ops : Array Oper} {Q : Exit → Act → World → Prop} {md : Region.Mode} {A B : World → Prop} {i0 st : Nat}

/-- in whatever order what is left comes up, so it is behind each -/
def AnyK (P : Program) (md : Region.Mode) (ops : Array Oper) (Q : Exit → Act → World → Prop) (A B : World → Prop) (i0 st : Nat) : Nat → Array Bool → Act → World → Prop
  | 0, l, a, w => Region.ready md ops l = [] ∧ Q .normal a w
  | k + 1, l, a, w => (Region.ready md ops l = [] → Q .normal a w) ∧ ∀ j ∈ Region.ready md ops l, wpOp P ops Q j (fun b v => SK A B i0 st (l.setIfInBounds j true) v ∧ AnyK P md ops Q A B i0 st k (l.setIfInBounds j true) b v) a w
theorem AnyK.plain : ∀ (k : Nat) (l : Array Bool) (a : Act) (w : World), AnyK P md ops Q A B i0 st k l a w → wpAny P md ops Q k l a w
  | 0, _, _, _, h => h
  | k + 1, _, _, _, h => ⟨h.1, fun j hj => wpOp_mono (fun b v hb => AnyK.plain k _ b v hb.2) (h.2 j hj)⟩
theorem AnyK.begin {id : Nat} {a : Act} {w : World} (hm : P.follows .mixedOrders = true) (hA : A w.drew) (hB : B w.drew) (h2 : (Array.replicate ops.size false).getD st true = false)
    (h : SK A B i0 st (Array.replicate ops.size false) w.drew → AnyK P .any ops Q A B i0 st ops.size (Array.replicate ops.size false) a w.drew) : (Code.region id ops true).wp P Q a w :=
  wp_region_any hm (AnyK.plain _ _ _ _ (h ⟨hA, fun _ => h2, fun _ => hB⟩))
theorem AnyK.done {l : Array Bool} {a : Act} {w : World} (hr : Region.ready md ops l = []) (h : Q .normal a w) : ∀ k, AnyK P md ops Q A B i0 st k l a w
  | 0 => ⟨hr, h⟩
  | _ + 1 => ⟨fun _ => h, fun j hj => by rw [hr] at hj; cases hj⟩
/-- the one that may come up, carried out -/
theorem AnyK.run {i : Nat} {o : Oper} {k : Nat} {l : Array Bool} {a : Act} {w : World} (hr : Region.ready md ops l = [i]) (ho : ops[i]? = some o)
    (h : ∀ K' : Act → World → Prop, Shut (∀ b v, SK A B i0 st (l.setIfInBounds i true) v → (SK A B i0 st (l.setIfInBounds i true) v → AnyK P md ops Q A B i0 st k (l.setIfInBounds i true) b v) → K' b v) → if Region.wanted o (yielded ops a.tmps) = true then Oper.wp P o a w K' Q else K' (a.put o.dst undef) w) :
    AnyK P md ops Q A B i0 st (k + 1) l a w := by
  refine ⟨fun e => (by rw [hr] at e; cases e), fun j hj => ?_⟩
  rw [hr, List.mem_singleton] at hj
  subst hj
  exact wpOp_step ho (fun K' hK => h K' (fun b v h1 h2 => hK b v ⟨h1, h2 h1⟩))

/-- what an operation waits for has come up -/
theorem waits {i j : Nat} {l : Array Bool} (hi : i ∈ Region.ready md ops l) (hj : j ∈ Region.ready md ops l) {oj : Oper} (hoj : ops[j]? = some oj) : ∀ e ∈ oj.after, Region.binds md e = true → e.on ≠ i := fun e he hb heq => by
  obtain ⟨_, o, ho, hall⟩ := mem_ready.1 hj
  rw [hoj] at ho
  cases ho
  have h1 := hall e he hb
  have h0 := (mem_ready.1 hi).1
  rw [heq] at h1
  by_cases hl : i < l.size
  · simp [hl] at h0 h1
    rw [h0] at h1
    cases h1
  · simp [Array.getElem?_eq_none (Nat.le_of_not_lt hl)] at h1

/-- the store waits for this one -/
def WaitsFor (md : Region.Mode) (ops : Array Oper) (st i : Nat) : Bool := match ops[st]? with | some o => o.after.toList.any (fun e => Region.binds md e && e.on == i) | none => false
theorem AnyK.first {i : Nat} {oi : Oper} {v : Value} {C : World → Prop} (hi : ops[i]? = some oi) (hsel : ∀ (j : Nat) (o : Oper) cs b, ops[j]? = some o → o.op ≠ .select cs b)
    (hQ : ∀ c a w, Q (.panic c) (a.put oi.dst v) w → Q (.panic c) a w) (hC : ∀ l w, l.getD i true = false → SK A B i0 st l w → C w) (his : i ≠ st) (hwt : WaitsFor md ops st i0 = true) :
    ∀ (k : Nat) (l : Array Bool) (a : Act) (w : World), (∀ j oj, ops[j]? = some oj → j ≠ i → l.getD j true = false → (∀ e ∈ oj.after, Region.binds md e = true → e.on ≠ i) → oi.apart ops oj = true) →
      i ∈ Region.ready md ops l → YieldsIf P ops C oi v a → SK A B i0 st l w → AnyK P md ops Q A B i0 st k (l.setIfInBounds i true) (a.put oi.dst v) w → AnyK P md ops Q A B i0 st (k + 1) l a w := by
  intro k
  induction k with
  | zero =>
    intro l a w _ hr hy hS H
    refine ⟨fun h => (by rw [h] at hr; cases hr), fun j hj => ?_⟩
    by_cases e : j = i
    · subst e
      exact hy.wpOp hi (hC _ _ (mem_ready.1 hr).1 hS) ⟨hS.set his, H⟩
    · have := ready_mono hj e
      rw [H.1] at this
      cases this
  | succ k ih =>
    intro l a w hfree hr hy hS H
    refine ⟨fun h => (by rw [h] at hr; cases hr), fun j hj => ?_⟩
    by_cases e : j = i
    · subst e
      exact hy.wpOp hi (hC _ _ (mem_ready.1 hr).1 hS) ⟨hS.set his, H⟩
    · obtain ⟨hun, oj, hoj, _⟩ := mem_ready.1 hj
      have h2 := wpOp_putIf hoj (hfree j oj hoj e hun (waits hr hj hoj)) (fun cs b => hsel i oi cs b hi) (fun cs b => hsel j oj cs b hoj) hQ hy (H.2 j (ready_mono hj e))
      have hback : ∀ u, SK A B i0 st ((l.setIfInBounds i true).setIfInBounds j true) u → SK A B i0 st (l.setIfInBounds j true) u := fun u hu => by
        refine ⟨hu.1, fun h0 => ?_, fun h0 => hu.2.2 (un_mk (un_mk (un_of h0).1 his) (un_of h0).2)⟩
        obtain ⟨g1, g2⟩ := un_of h0
        have g3 := hS.2.1 g1
        refine un_mk g3 (fun ejs => ?_)
        -- st would have come up while what it waits for has not
        subst ejs
        have hj2 := mem_ready.1 hj
        obtain ⟨_, o, ho, hall⟩ := hj2
        unfold WaitsFor at hwt
        rw [ho] at hwt
        obtain ⟨e2, he0, h5⟩ := List.any_eq_true.1 hwt
        have he2 : e2 ∈ o.after := Array.mem_toList_iff.1 he0
        simp only [Bool.and_eq_true, beq_iff_eq] at h5
        have h6 := hall e2 he2 h5.1
        rw [h5.2] at h6
        by_cases hl : i0 < l.size
        · simp [hl] at g1 h6
          rw [g1] at h6
          cases h6
        · simp [Array.getElem?_eq_none (Nat.le_of_not_lt hl)] at h6
      have hfree' : ∀ m om, ops[m]? = some om → m ≠ i → (l.setIfInBounds j true).getD m true = false → (∀ e ∈ om.after, Region.binds md e = true → e.on ≠ i) → oi.apart ops om = true := fun m om hm hmi hu hno => hfree m om hm hmi (un_of hu).1 hno
      refine wpOp_mono (fun b u h3 => ⟨hback u h3.2.1, ih _ b u hfree' (ready_mono hr (Ne.symm e)) h3.1 (hback u h3.2.1) ?_⟩) h2
      rw [Array.setIfInBounds_comm _ _ e]
      exact h3.2.2
theorem AnyK.take {i : Nat} {oi : Oper} {v : Value} {k : Nat} {l : Array Bool} {a : Act} {w : World} {C : World → Prop} (hi : ops[i]? = some oi) (hs : Region.noSelect ops = true) (hf : Region.free md ops l i = true) (hr : (Region.ready md ops l).contains i = true)
    (hQ : ∀ c a w, Q (.panic c) (a.put oi.dst v) w → Q (.panic c) a w) (hC : ∀ l w, l.getD i true = false → SK A B i0 st l w → C w) (his : i ≠ st) (hwt : WaitsFor md ops st i0 = true) (hy : YieldsIf P ops C oi v a) (hS : SK A B i0 st l w)
    (h : SK A B i0 st (l.setIfInBounds i true) w → AnyK P md ops Q A B i0 st k (l.setIfInBounds i true) (a.put oi.dst v) w) : AnyK P md ops Q A B i0 st (k + 1) l a w :=
  AnyK.first hi (Region.noSelect_spec hs) hQ hC his hwt k l a w (Region.free_spec hi hf) (by simpa using hr) hy hS (h (hS.set his))
end
end Go.Proofs.Ytgpckmolcdafcae
