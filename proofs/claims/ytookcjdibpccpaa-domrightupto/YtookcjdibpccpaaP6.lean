/-
  OWN WORK: Ins, Ina, Inm, Atm, Dow, Dow2, Dow3, Fs1, Fs3, Fok, Fma.
-/
import Derived.Test.YtookcjdibpccpaaP5
import Derived.Test.YtookcjdibpccpaaP0
import Derived.Test.YtookcjdibpccpaaP4
import Derived.Test.YtookcjdibpccpaaP3
/-
  THE WALK of slices.Insert at []int: into a row of the call's own.
-/
namespace Go.Proofs.Ytookcjdibpccpaa
open Go.RowKit

/-- append of some elements to a row of the call's own, and where what comes of it lies -/
theorem run_append_blk {w : World} {B tS e size bytes : Nat} {i0 : TypeInfo} {z : Value} (ty : TypeId) (ht : Try.prog.underlying tS = some (.slice e)) (hi : Try.prog.info? e = some i0) (hz : i0.zero = some z) (hsize : i0.size = size) (hby : i0.bytes = bytes) (hzs : z.cells.size = size) (hsz : 0 < size) (hbb : bytes ≤ 1000)
    {v : Value} {n : Nat} {xs : List Value} (hown : w.ownsRow B e size v n xs) (hB : B ≤ w.heap.size) (a : Addr) (m c : Nat) (news : List Value) (hl : news.length = m * size) (hm : 0 < m) (hnews : ∀ j u, news[j]? = some u → w.cell? (a.add j) = some u) (h1 : ∀ u ∈ news, u.oneCell' = true) (hs : n + m ≤ 1000000) :
    ∃ v' w', (Builtin.append_ #[tS, tS] ty #[v, .slice (some a) m c]).run Try.prog w = .ok v' w' ∧ w'.ownsRow B e size v' (n + m) (xs ++ news) ∧ w.grownBy w' v.ownBlock ∧ (v'.ownBlock = v.ownBlock ∨ ∃ g, w.heap.size ≤ g ∧ v'.ownBlock = some g) := by
  have hbt : (n + m) * bytes ≤ 140737488355328 := Nat.le_trans (Nat.mul_le_mul hs hbb) (by decide)
  obtain ⟨v', w', hr, g2, g3, _⟩ := run_append_own (P := Try.prog) w B tS ty e i0 z size bytes ht hi hz hsize hby hzs hsz v n xs hown a m c news hl hnews h1 (by unfold maxLen; omega) hbt hB
  refine ⟨v', w', hr, g2, g3, ?_⟩
  subst hsize
  subst hby
  rcases hown.2 with ⟨rfl, hn0⟩ | ⟨g, cap, cur, rfl, hbg, hg, hnc, hcm, hcs, htake⟩
  · subst hn0
    have hr2 := run_append_nil (P := Try.prog) w tS ty e i0 z ht hi hz a m c news hl hnews hm (by omega) (by rw [Nat.zero_add] at hbt; omega)
    rw [hr2] at hr
    injection hr with e1 e2
    right
    refine ⟨w.heap.size, Nat.le_refl _, ?_⟩
    rw [← e1]
    rfl
  · by_cases hroom : n + m ≤ cap
    · have hr2 := run_append_room (P := Try.prog) w tS ty e i0 ht hi g n cap cur hg a m c news hl hnews h1 hroom (by rw [hl, hcs, ← Nat.add_mul]; exact Nat.mul_le_mul_right _ hroom)
      rw [hr2] at hr
      injection hr with e1 e2
      left
      rw [← e1]
      rfl
    · have hr2 := run_append_grow (P := Try.prog) w tS ty e i0 z ht hi hz ⟨g, 0, none⟩ n cap xs hown.1 (World.ownsRow.cells hown (g := g) rfl) a m c news hl hnews (by omega) (by omega) (growslice_fits (by omega) hbt)
      rw [hr2] at hr
      injection hr with e1 e2
      right
      refine ⟨w.heap.size, Nat.le_refl _, ?_⟩
      rw [← e1]
      rfl

set_option maxHeartbeats 3200000 in
set_option maxRecDepth 100000 in
theorem insI_any {w : World} {B : Nat} {v : Value} {l : List Nat} {vb x : Nat} (hown : OwnI w B v l) (hB : B ≤ w.heap.size) (hl : l.length ≤ 1000) (i : Nat) (hi : i ≤ l.length) (hvb : w.heap[vb]? = some (.cells #[.int .i64 (x : Int)] 3 (0, 0))) (hne : v.ownBlock ≠ some vb) :
    Calls Try.prog 97 #[v, .int .i64 (i : Int), .slice (some ⟨vb, 0, none⟩) 1 1] w fun e w' => ∃ v', e = .returned v' ∧ OwnI w' B v' (Tn.insertAt l i x) ∧ w.grownBy w' v.ownBlock ∧ (v'.ownBlock = v.ownBlock ∨ ∃ g, w.heap.size ≤ g ∧ v'.ownBlock = some g) := by
  obtain ⟨i0, hi0, hz0, hz1, hz2⟩ := info_parts infoI
  have hsz : (Try.prog.info? 3).map (·.size) = some 1 := by rw [hi0]; simp [hz1]
  have hnews : ∀ (j : Nat) (u : Value), ([iv x] : List Value)[j]? = some u → w.cell? ((⟨vb, 0, none⟩ : Addr).add j) = some u := by
    intro j u hu
    rw [add_at, Nat.zero_add]
    cases j with
    | zero => simp at hu; subst hu; simp [World.cell?, hvb, iv]
    | succ j => simp at hu
  have h1 : ∀ u ∈ ([iv x] : List Value), u.oneCell' = true := by intro u hu; simp at hu; subst hu; rfl
  by_cases hin : i = l.length
  · subst hin
    obtain ⟨p, c, rfl⟩ := hown.shape
    have hap : ∀ ty, ∃ v' w', (Builtin.append_ #[44, 44] ty #[.slice p l.length c, .slice (some ⟨vb, 0, none⟩) 1 1]).run Try.prog w = .ok v' w' ∧ w'.ownsRow B 3 1 v' (l.length + 1) (l.map iv ++ [iv x]) ∧ w.grownBy w' (Value.slice p l.length c).ownBlock ∧ (v'.ownBlock = (Value.slice p l.length c).ownBlock ∨ ∃ g, w.heap.size ≤ g ∧ v'.ownBlock = some g) :=
      fun ty => run_append_blk ty Try.underlying44 hi0 hz0 hz1 hz2 rfl (by decide) (by decide) hown hB ⟨vb, 0, none⟩ 1 1 [iv x] rfl (by decide) hnews h1 (by omega)
    obtain ⟨v', w', hr, ho', hg', hb'⟩ := hap 44
    have R : Hid (OwnI w' B v' (Tn.insertAt l l.length x)) := by
      show OwnI _ _ _ _
      unfold OwnI Tn.insertAt
      simpa using ho'
    have hlc : l.length ≤ c := by
      obtain ⟨_, _, he, h, _⟩ := (ints_of_owns hown).at
      cases he
      exact h
    have hcm : c ≤ 9223372036854775807 := by
      obtain ⟨_, _, he, _, h, _⟩ := (ints_of_owns hown).at
      cases he
      exact h
    clear hown hap ho' hnews h1 hvb hne
    generalize (Value.slice p l.length c).ownBlock = ob at *
    go_enter Try.func97, Try.ntmps97
    go_wp2_with (at_builtin; refine wpList_append_at _ rfl _ _ 44 44 rfl _ _ rfl rfl hr ?_)
    all_goals
      go_ret
      exact ⟨_, rfl, R.out, hg', hb'⟩
  · have hil : i < l.length := by omega
    have hxl : (l.map iv).length = l.length * 1 := by simp
    rcases hown.2 with ⟨_, h0⟩ | ⟨g, cap, cur, rfl, hBg, hg, hnc, hcm, hcs, htake⟩
    · omega
    · have hcl : cur.toList.length = cur.size := Array.length_toList
      have hgv : vb ≠ g := fun e => hne (by rw [e]; rfl)
      have hob : (Value.slice (some ⟨g, 0, none⟩) l.length cap).ownBlock = some g := rfl
      have hcm' : cap ≤ 9223372036854775807 := by unfold maxLen at hcm; omega
      have hgl : g < w.heap.size := by rw [Array.getElem?_eq_some_iff] at hg; exact hg.1
      have hone : ∀ u ∈ l.map iv, u.oneCell' = true := by
        intro u hu
        simp at hu
        obtain ⟨q, _, rfl⟩ := hu
        rfl
      have hcell : ∀ (W : World), (∀ k, k < w.heap.size → k ≠ w.heap.size → W.heap[k]? = w.heap[k]?) → ∀ j v, ((l.map iv).drop (i * 1))[j]? = some v → W.cell? ((⟨g, i, none⟩ : Addr).add j) = some v := by
        intro W hW j v hj
        have hc := World.ownsRow.cells hown (g := g) rfl (i + j) v (by rw [List.getElem?_drop, Nat.mul_one] at hj; exact hj)
        rw [add_at] at hc ⊢
        rw [Nat.zero_add] at hc
        rw [← hc]
        exact World.cell?_of_block (hW g hgl (by omega))
      rw [hob]
      by_cases hroom : l.length + 1 ≤ cap
      · obtain ⟨A1, hA1⟩ : ∃ A1 : List Value, A1 = cur.toList.take ((i + 1) * 1) ++ (l.map iv).drop (i * 1) ++ cur.toList.drop ((i + 1) * 1 + ((l.map iv).drop (i * 1)).length) := ⟨_, rfl⟩
        obtain ⟨A2, hA2⟩ : ∃ A2 : List Value, A2 = A1.take (i * 1) ++ [iv x] ++ A1.drop (i * 1 + [iv x].length) := ⟨_, rfl⟩
        obtain ⟨k1, k2⟩ := ins_shift (n := l.length) (K := 1) (ys := [iv x]) (by rw [hcl, hcs]; omega) htake (by omega) rfl hA1 hA2
        have hov : ∀ lb cb, (callFunc 104 #[.slice (some ⟨vb, 0, none⟩) 1 1, .slice (some ⟨g, i + 1, none⟩) lb cb]).run Try.prog w = .ok (.value (.bool false)) w := fun lb cb => by
          rw [run_callFunc_extern Try.func104 (by kernel_rfl) (by kernel_rfl) (by kernel_rfl) (e := Extern.SlicesOverlaps.overlaps #[44, 44] #[4]) (by kernel_rfl),
            Lib.run_overlaps_apart w 44 4 3 Try.underlying44 1 Try.sizeOf3 ⟨vb, 0, none⟩ ⟨g, i + 1, none⟩ 1 1 lb cb hgv 3 3 1 cur.size (by simp [World.shape?, hvb]) (by simp [World.shape?, hg]) (by omega) (by simp [World.frozen?, hvb]) (by simp [World.frozen?, hvb])]
          rfl
        have hcp1 : ∀ ty dc sc, (Builtin.copy_ #[44, 44] ty #[.slice (some ⟨g, i + 1, none⟩) (l.length - i) dc, .slice (some ⟨g, i, none⟩) (l.length + 1 - i) sc]).run Try.prog w.drew = .ok (goInt (Nat.min (l.length + 1 - i) (l.length - i))) (w.drew.setRow g A1.toArray) := fun ty dc sc => by
          rw [hA1]
          have := run_copyK (P := Try.prog) 1 w.drew 44 44 ty 3 g ((i + 1) * 1) (l.length - i) dc ⟨g, i, none⟩ (l.length + 1 - i) sc cur 3 ((l.map iv).drop (i * 1)) Try.underlying44 hsz hg (by show _ = (min (l.length + 1 - i) (l.length - i)) * 1; rw [List.length_drop, List.length_map]; omega) (hcell w.drew (fun _ _ _ => rfl)) (by simp; omega) (fun u hu => hone u (List.mem_of_mem_drop hu))
          rw [Nat.mul_one] at this
          rw [Nat.mul_one]
          exact this
        have hg1 : (w.drew.setRow g A1.toArray).heap[g]? = some (.cells A1.toArray 3 (0, 0)) := setRow_heap w.drew g cur _ 3 _ hg
        have a1l : A1.length = cur.size := by rw [hA1]; simp; omega
        have hcp2 : ∀ (W : World), W.heap = (w.drew.setRow g A1.toArray).heap → ∀ ty dc, (Builtin.copy_ #[44, 44] ty #[.slice (some ⟨g, i, none⟩) (l.length + 1 - i) dc, .slice (some ⟨vb, 0, none⟩) 1 1]).run Try.prog W = .ok (goInt (Nat.min 1 (l.length + 1 - i))) (W.setRow g A2.toArray) := fun W hW ty dc => by
          rw [hA2]
          have := run_copyK (P := Try.prog) 1 W 44 44 ty 3 g (i * 1) (l.length + 1 - i) dc ⟨vb, 0, none⟩ 1 1 A1.toArray 3 [iv x] Try.underlying44 hsz (by rw [hW]; exact hg1) (by show _ = (min 1 (l.length + 1 - i)) * 1; rw [List.length_singleton]; omega) (fun j u hu => by
            have := hnews j u hu
            rw [← this, add_at]
            exact World.cell?_of_block (by rw [hW]; exact setRow_other w.drew g vb _ hgv)) (by simp [a1l]; omega) h1
          rw [Nat.mul_one] at this
          rw [Nat.mul_one]
          simpa using this
        have R : ∀ W : World, W.heap = ((w.drew.setRow g A1.toArray).setRow g A2.toArray).heap → OwnI W B (.slice (some ⟨g, 0, none⟩) (l.length + 1) cap) (Tn.insertAt l i x) := by
          intro W hW
          have hil' : (Tn.insertAt l i x).length = l.length + 1 := Tn.len_insertAt
          unfold OwnI
          rw [hil']
          refine ⟨by simp [hil'], Or.inr ⟨g, cap, A2.toArray, rfl, hBg, by rw [hW]; exact setRow_heap _ g A1.toArray _ 3 _ hg1, hroom, hcm, by simp [k1, hcs], ?_⟩⟩
          show A2.take _ = _
          rw [k2]
          unfold Tn.insertAt
          simp [List.map_take, List.map_drop]
        have hgr : ∀ W : World, W.heap = ((w.drew.setRow g A1.toArray).setRow g A2.toArray).heap → W.os = w.os → W.tape = w.tape → W.output = w.output → w.grownBy W (some g) := by
          intro W hW h1 h2 h3
          refine ⟨h1, h2, h3, by rw [hW]; simp [World.setRow], fun k _ hk => ?_⟩
          rw [hW, setRow_other _ g k _ (fun e => hk (by rw [e])), setRow_other _ g k _ (fun e => hk (by rw [e]))]
          rfl
        have hb4 : ¬ (cap = i) := by omega
        have hb2 : ¬ (cap = i + 1) := by omega
        have hw1 : IntKind.i64.wrap ((i : Int) + 1) = (i : Int) + 1 := by rw [IntKind.wrap_i64]; omega
        have htn : ((i : Int) + 1).toNat = i + 1 := by omega
        have hz2' : ¬ ((i : Int) = (l.length : Int)) := by omega
        have hb1 : (0 : Int) ≤ (i : Int) + 1 := by omega
        have hb3 : (i : Int) ≤ (l.length : Int) + 1 := by omega
        clear hown hcell hone hA1 hA2 hnews h1 hne k1 k2 hg1 a1l htake hvb hob hxl hcl hg hcs
        generalize A1.toArray = R1 at *
        generalize A2.toArray = R2 at *
        have QR : Hid _ := R
        have QG : Hid _ := hgr
        clear R hgr
        have mixed : Try.prog.follows Departure.mixedOrders = true := by kernel_rfl
        go_enter Try.func97, Try.ntmps97
        go_wp2_with (simp only [hov])
        go_region_law_o (refine step_copy_at rfl _ _ 44 44 rfl _ _ (by simp [Act.eval, Act.put]) (by simp [Act.eval, Act.put]) (hcp1 _ _ _) ?_)
        go_wp2_with (at_builtin; refine wpList_copy_at _ rfl _ _ 44 44 rfl _ _ rfl rfl (hcp2 _ rfl _ _) ?_)
        go_ret
        exact ⟨_, rfl, QR.out _ rfl, QG.out _ rfl rfl rfl rfl, Or.inl rfl⟩
      · obtain ⟨G, hG⟩ : ∃ G, G = grownCap w (l.length + 1) cap 3 := ⟨_, rfl⟩
        have hGn : l.length + 1 ≤ G := by rw [hG]; exact grownCap_ge w _ _ _
        have hGm : G ≤ maxLen := by rw [hG]; exact grownCap_le_maxLen w (l.length + 1) cap 3 (by unfold maxLen; omega)
        have hG63 : G ≤ 9223372036854775807 := by unfold maxLen at hGm; omega
        obtain ⟨Z, hZ⟩ : ∃ Z : List Value, Z = (Builtin.zeroCells (Value.int .i64 0).cells (l.length + 1 - i) ++ Builtin.zeroCells (Value.int .i64 0).cells (G - (l.length + 1))).toList := ⟨_, rfl⟩
        obtain ⟨A0, hA0⟩ : ∃ A0 : List Value, A0 = (l.map iv).take (i * 1) ++ Z := ⟨_, rfl⟩
        obtain ⟨A1, hA1⟩ : ∃ A1 : List Value, A1 = A0.take (i * 1) ++ [iv x] ++ A0.drop (i * 1 + [iv x].length) := ⟨_, rfl⟩
        obtain ⟨A2, hA2⟩ : ∃ A2 : List Value, A2 = A1.take ((i + 1) * 1) ++ (l.map iv).drop (i * 1) ++ A1.drop ((i + 1) * 1 + ((l.map iv).drop (i * 1)).length) := ⟨_, rfl⟩
        have hZl : Z.length = (l.length + 1 - i) + (G - (l.length + 1)) := by rw [hZ]; simp [Builtin.zeroCells, Value.cells]
        have hA0l : A0.length = G := by rw [hA0, List.length_append, List.length_take, List.length_map, hZl]; omega
        obtain ⟨k1, k2⟩ := ins_grow (n := l.length) (K := 1) (ys := [iv x]) hxl (by omega) rfl (by rw [hZl]; omega) hA0 hA1 hA2
        have hA1l : A1.length = G := by rw [hA1]; simp; omega
        have hold : (Builtin.firstCells i0.size i (.slice (some ⟨g, 0, none⟩) i cap)).run Try.prog w.drew = .ok ((l.map iv).take i).toArray w.drew := by
          rw [hz1]
          exact run_firstCells_some w.drew 1 i ⟨g, 0, none⟩ i cap ((l.map iv).take i) (by rw [List.length_take, List.length_map]; omega) (fun j v hj => by
            rw [List.getElem?_take] at hj
            split at hj
            · exact World.ownsRow.cells hown (g := g) rfl j v hj
            · cases hj)
        have hik : i + (l.length + 1 - i) = l.length + 1 := by omega
        have hkk : (l.length : Int) + 1 - (i : Int) = ((l.length + 1 - i : Nat) : Int) := by omega
        have hrz : ∀ ty, (Builtin.append_ #[44, 3] ty #[.slice (some ⟨g, 0, none⟩) i cap, .int .i64 ((l.length : Int) + 1 - (i : Int))]).run Try.prog w = .ok (.slice (some ⟨w.heap.size, 0, none⟩) (l.length + 1) G) (w.drew.alloc (.cells A0.toArray 3)) := fun ty => by
          have h := Lib.run_append_grow_zeros w 44 3 ty 3 i0 _ .i64 .i64 Try.underlying44 Try.underlying3 hi0 hz0 (some ⟨g, 0, none⟩) i cap ((l.map iv).take i) hold (l.length + 1 - i) (by omega) (by omega) (by omega) (by omega) (by rw [hz2]; omega) (by rw [hz2, hik]; exact growslice_fits (by omega) (by omega))
          rw [hik, ← hG] at h
          rw [hkk, h, hA0, hZ, Nat.mul_one]
          congr 3
          simp
        have hN0 : (w.drew.alloc (.cells A0.toArray 3)).heap[w.heap.size]? = some (.cells A0.toArray 3 (0, 0)) := heap_alloc_new w.drew _
        have hold0 : ∀ k, k < w.heap.size → (w.drew.alloc (.cells A0.toArray 3)).heap[k]? = w.heap[k]? := fun k hk => heap_alloc_old w.drew _ hk
        have hvl : vb < w.heap.size := by rw [Array.getElem?_eq_some_iff] at hvb; exact hvb.1
        have hcp1 : ∀ (W : World), W.heap = (w.drew.alloc (.cells A0.toArray 3)).heap → ∀ ty dc, (Builtin.copy_ #[44, 44] ty #[.slice (some ⟨w.heap.size, i, none⟩) (l.length + 1 - i) dc, .slice (some ⟨vb, 0, none⟩) 1 1]).run Try.prog W = .ok (goInt (Nat.min 1 (l.length + 1 - i))) (W.setRow w.heap.size A1.toArray) := fun W hW ty dc => by
          rw [hA1]
          have := run_copyK (P := Try.prog) 1 W 44 44 ty 3 w.heap.size (i * 1) (l.length + 1 - i) dc ⟨vb, 0, none⟩ 1 1 A0.toArray 3 [iv x] Try.underlying44 hsz (by rw [hW]; exact hN0) (by show _ = (min 1 (l.length + 1 - i)) * 1; rw [List.length_singleton]; omega) (fun j u hu => by
            have := hnews j u hu
            rw [← this, add_at]
            exact World.cell?_of_block (by rw [hW]; exact hold0 vb hvl)) (by simp [hA0l]; omega) h1
          rw [Nat.mul_one] at this
          rw [Nat.mul_one]
          simpa using this
        have hcp2 : ∀ (W : World) (V : World), V.heap = (w.drew.alloc (.cells A0.toArray 3)).heap → W.heap = (V.setRow w.heap.size A1.toArray).heap → ∀ ty dc sc, (Builtin.copy_ #[44, 44] ty #[.slice (some ⟨w.heap.size, i + 1, none⟩) (l.length - i) dc, .slice (some ⟨g, i, none⟩) (l.length - i) sc]).run Try.prog W = .ok (goInt (Nat.min (l.length - i) (l.length - i))) (W.setRow w.heap.size A2.toArray) := fun W V hV hW ty dc sc => by
          rw [hA2]
          have := run_copyK (P := Try.prog) 1 W 44 44 ty 3 w.heap.size ((i + 1) * 1) (l.length - i) dc ⟨g, i, none⟩ (l.length - i) sc A1.toArray 3 ((l.map iv).drop (i * 1)) Try.underlying44 hsz (by rw [hW]; exact setRow_heap V w.heap.size A0.toArray _ 3 _ (by rw [hV]; exact hN0)) (by show _ = (min (l.length - i) (l.length - i)) * 1; rw [List.length_drop, List.length_map]; omega)
            (hcell W (fun k hk hk2 => by rw [hW, setRow_other _ _ k _ hk2, hV]; exact hold0 k hk)) (by simp [hA1l]; omega) (fun u hu => hone u (List.mem_of_mem_drop hu))
          rw [Nat.mul_one] at this
          rw [Nat.mul_one]
          simpa using this
        have R : ∀ (W U V : World), V.heap = (w.drew.alloc (.cells A0.toArray 3)).heap → U.heap = (V.setRow w.heap.size A1.toArray).heap → W.heap = (U.setRow w.heap.size A2.toArray).heap → OwnI W B (.slice (some ⟨w.heap.size, 0, none⟩) (l.length + 1) G) (Tn.insertAt l i x) := by
          intro W U V hV hU hW
          have hil' : (Tn.insertAt l i x).length = l.length + 1 := Tn.len_insertAt
          have g1 : U.heap[w.heap.size]? = some (.cells A1.toArray 3 (0, 0)) := by rw [hU]; exact setRow_heap V w.heap.size A0.toArray _ 3 _ (by rw [hV]; exact hN0)
          unfold OwnI
          rw [hil']
          refine ⟨by simp [hil'], Or.inr ⟨w.heap.size, G, A2.toArray, rfl, hB, by rw [hW]; exact setRow_heap U w.heap.size A1.toArray _ 3 _ g1, hGn, hGm, by simp [k1, hA0l], ?_⟩⟩
          show A2.take _ = _
          rw [k2]
          unfold Tn.insertAt
          simp [List.map_take, List.map_drop]
        have hgr : ∀ (W U V : World), V.heap = (w.drew.alloc (.cells A0.toArray 3)).heap → U.heap = (V.setRow w.heap.size A1.toArray).heap → W.heap = (U.setRow w.heap.size A2.toArray).heap → W.os = w.os → W.tape = w.tape → W.output = w.output → w.grownBy W (some g) := by
          intro W U V hV hU hW h1 h2 h3
          refine ⟨h1, h2, h3, by rw [hW]; simp [World.setRow, hU, hV], fun k hk _ => ?_⟩
          rw [hW, setRow_other _ _ k _ (by omega), hU, setRow_other _ _ k _ (by omega), hV]
          exact hold0 k hk
        have hb4 : ¬ (cap = i) := by omega
        have hGi : ¬ (G = i) := by omega
        have hGi1 : ¬ (G = i + 1) := by omega
        have hw1 : IntKind.i64.wrap ((i : Int) + 1) = (i : Int) + 1 := by rw [IntKind.wrap_i64]; omega
        have htn : ((i : Int) + 1).toNat = i + 1 := by omega
        have hz2' : ¬ ((i : Int) = (l.length : Int)) := by omega
        have hb1 : (0 : Int) ≤ (i : Int) + 1 := by omega
        have hb3 : (i : Int) ≤ (l.length : Int) + 1 := by omega
        have hb5 : (i : Int) ≤ (l.length : Int) := by omega
        have hgt : (cap : Int) < (l.length : Int) + 1 := by omega
        have mixed : Try.prog.follows Departure.mixedOrders = true := by kernel_rfl
        clear hown hcell hone hA0 hA1 hA2 hnews h1 hne k1 k2 htake hvb hob hxl hcl hg hcs hold hN0 hold0 hZ hZl hA0l hA1l hkk hik hG
        generalize A0.toArray = R0 at *
        generalize A1.toArray = R1 at *
        generalize A2.toArray = R2 at *
        have QR : Hid _ := R
        have QG : Hid _ := hgr
        clear R hgr
        go_enter Try.func97, Try.ntmps97
        have hcpW := hcp1 (w.alloc (.cells R0 3)).drew rfl
        have hcpV := hcp2 (((w.alloc (.cells R0 3)).drew.setRow w.heap.size R1).drew) ((w.alloc (.cells R0 3)).drew) rfl rfl
        go_wp2_with (first
          | (at_builtin; refine wpList_append_at _ rfl _ _ 44 3 rfl _ _ rfl rfl (hrz _) ?_)
          | (simp only [hcpW]))
        go_region_law_o (refine step_copy_at rfl _ _ 44 44 rfl _ _ (by simp [Act.eval, Act.put]) (by simp [Act.eval, Act.put]) (hcpV _ _ _) ?_)
        go_wp2_with fail
        go_ret
        exact ⟨_, rfl, QR.out _ (((w.alloc (.cells R0 3)).drew.setRow w.heap.size R1).drew) ((w.alloc (.cells R0 3)).drew) rfl rfl rfl, QG.out _ (((w.alloc (.cells R0 3)).drew.setRow w.heap.size R1).drew) ((w.alloc (.cells R0 3)).drew) rfl rfl rfl rfl rfl rfl, Or.inr ⟨_, Nat.le_refl _, rfl⟩⟩
end Go.Proofs.Ytookcjdibpccpaa

/-
  THE WALK of slices.Insert at []Attr, at the end of a row of the call's own.
-/
namespace Go.Proofs.Ytookcjdibpccpaa
open Go.RowKit

set_option maxHeartbeats 3200000 in
set_option maxRecDepth 100000 in
theorem insA_end {w : World} {B : Nat} {v : Value} {l : List Tn.At} {vb : Nat} {n u : ByteArray} (hown : OwnA w B v l) (hB : B ≤ w.heap.size) (hl : l.length ≤ 1000) (hvb : w.heap[vb]? = some (.cells #[.string n, .string u] 62 (0, 0))) :
    Calls Try.prog 85 #[v, .int .i64 (l.length : Int), .slice (some ⟨vb, 0, none⟩) 1 1] w fun e w' => ∃ v', e = .returned v' ∧ OwnA w' B v' (l ++ [(n, u)]) ∧ w.grownBy w' v.ownBlock ∧ (v'.ownBlock = v.ownBlock ∨ ∃ g, w.heap.size ≤ g ∧ v'.ownBlock = some g) := by
  obtain ⟨i0, hi0, hz0, hz1, hz2⟩ := info_parts infoA
  have hnews : ∀ (j : Nat) (y : Value), (av (n, u))[j]? = some y → w.cell? ((⟨vb, 0, none⟩ : Addr).add j) = some y := by
    intro j y hy
    rw [add_at, Nat.zero_add]
    match j, hy with
    | 0, hy => simp [av] at hy; subst hy; simp [World.cell?, hvb]
    | 1, hy => simp [av] at hy; subst hy; simp [World.cell?, hvb]
    | j + 2, hy => simp [av] at hy
  have h1 : ∀ y ∈ av (n, u), y.oneCell' = true := by
    intro y hy
    simp [av] at hy
    rcases hy with rfl | rfl <;> rfl
  obtain ⟨p, c, rfl⟩ := hown.shape
  obtain ⟨v', w', hr, ho', hg', hb'⟩ := run_append_blk 54 Try.underlying54 hi0 hz0 hz1 hz2 rfl (by decide) (by decide) hown hB ⟨vb, 0, none⟩ 1 1 (av (n, u)) rfl (by decide) hnews h1 (by omega)
  have R : Hid (OwnA w' B v' (l ++ [(n, u)])) := by
    show OwnA _ _ _ _
    unfold OwnA
    simpa using ho'
  have hlc : l.length ≤ c := by
    obtain ⟨_, _, he, h, _⟩ := (attrs_of_owns hown).at
    cases he
    exact h
  have hcm : c ≤ 9223372036854775807 := by
    obtain ⟨_, _, he, _, h, _⟩ := (attrs_of_owns hown).at
    cases he
    exact h
  clear hown ho' hnews h1 hvb
  generalize (Value.slice p l.length c).ownBlock = ob at *
  go_enter Try.func85, Try.ntmps85
  go_wp2_with (at_builtin; refine wpList_append_at _ rfl _ _ 54 54 rfl _ _ rfl rfl hr ?_)
  all_goals
    go_ret
    exact ⟨_, rfl, R.out, hg', hb'⟩
end Go.Proofs.Ytookcjdibpccpaa

/-
  THE WALK of slices.Insert at []Attr, in the midst of a row of the call's own.
-/
namespace Go.Proofs.Ytookcjdibpccpaa
open Go.RowKit

def insA (l : List Tn.At) (i : Nat) (a : Tn.At) : List Tn.At := l.take i ++ [a] ++ l.drop i
theorem flat_take (l : List Tn.At) : ∀ i, (l.take i).flatMap av = (l.flatMap av).take (i * 2) := by
  induction l with
  | nil => intro i; simp
  | cons a l ih =>
    intro i
    cases i with
    | zero => simp
    | succ i =>
      rw [List.take_succ_cons, List.flatMap_cons, List.flatMap_cons, ih, List.take_append, av_len]
      have : (i + 1) * 2 - 2 = i * 2 := by omega
      rw [this, List.take_of_length_le (l := av a) (by rw [av_len]; omega)]
theorem flat_drop (l : List Tn.At) : ∀ i, (l.drop i).flatMap av = (l.flatMap av).drop (i * 2) := by
  induction l with
  | nil => intro i; simp
  | cons a l ih =>
    intro i
    cases i with
    | zero => simp
    | succ i =>
      rw [List.drop_succ_cons, List.flatMap_cons, ih, List.drop_append, av_len]
      have : (i + 1) * 2 - 2 = i * 2 := by omega
      rw [this, show (av a).drop ((i + 1) * 2) = [] from List.drop_eq_nil_of_le (by rw [av_len]; omega), List.nil_append]

set_option maxHeartbeats 3200000 in
set_option maxRecDepth 100000 in
theorem insA_mid {w : World} {B : Nat} {v : Value} {l : List Tn.At} {vb : Nat} {n u : ByteArray} (hown : OwnA w B v l) (hB : B ≤ w.heap.size) (hl : l.length ≤ 1000) (i : Nat) (hil : i < l.length) (hvb : w.heap[vb]? = some (.cells #[.string n, .string u] 62 (0, 0))) (hne : v.ownBlock ≠ some vb) :
    Calls Try.prog 85 #[v, .int .i64 (i : Int), .slice (some ⟨vb, 0, none⟩) 1 1] w fun e w' => ∃ v', e = .returned v' ∧ OwnA w' B v' (insA l i (n, u)) ∧ w.grownBy w' v.ownBlock ∧ (v'.ownBlock = v.ownBlock ∨ ∃ g, w.heap.size ≤ g ∧ v'.ownBlock = some g) := by
  have hi : i ≤ l.length := by omega
  obtain ⟨i0, hi0, hz0, hz1, hz2⟩ := info_parts infoA
  have hsz : (Try.prog.info? 62).map (·.size) = some 2 := by rw [hi0]; simp [hz1]
  have hnews : ∀ (j : Nat) (y : Value), (av (n, u))[j]? = some y → w.cell? ((⟨vb, 0, none⟩ : Addr).add j) = some y := by
    intro j y hy
    rw [add_at, Nat.zero_add]
    match j, hy with
    | 0, hy => simp [av] at hy; subst hy; simp [World.cell?, hvb]
    | 1, hy => simp [av] at hy; subst hy; simp [World.cell?, hvb]
    | j + 2, hy => simp [av] at hy
  have h1 : ∀ y ∈ av (n, u), y.oneCell' = true := by
    intro y hy
    simp [av] at hy
    rcases hy with rfl | rfl <;> rfl
  have hul : (av (n, u)).length = 2 := rfl
  have hxl : (l.flatMap av).length = l.length * 2 := flat_len av 2 av_len l
  rcases hown.2 with ⟨_, h0⟩ | ⟨g, cap, cur, rfl, hBg, hg, hnc, hcm, hcs, htake⟩
  · omega
  · have hcl : cur.toList.length = cur.size := Array.length_toList
    have hgv : vb ≠ g := fun e => hne (by rw [e]; rfl)
    have hob : (Value.slice (some ⟨g, 0, none⟩) l.length cap).ownBlock = some g := rfl
    have hcm' : cap ≤ 9223372036854775807 := by unfold maxLen at hcm; omega
    have hgl : g < w.heap.size := by rw [Array.getElem?_eq_some_iff] at hg; exact hg.1
    have hone : ∀ y ∈ l.flatMap av, y.oneCell' = true := by
      intro y hy
      obtain ⟨q, _, hq⟩ := List.mem_flatMap.mp hy
      simp [av] at hq
      rcases hq with rfl | rfl <;> rfl
    have hcell : ∀ (W : World), (∀ k, k < w.heap.size → k ≠ w.heap.size → W.heap[k]? = w.heap[k]?) → ∀ j v, ((l.flatMap av).drop (i * 2))[j]? = some v → W.cell? ((⟨g, i * 2, none⟩ : Addr).add j) = some v := by
      intro W hW j v hj
      have hc := World.ownsRow.cells hown (g := g) rfl (i * 2 + j) v (by rw [List.getElem?_drop] at hj; exact hj)
      rw [add_at] at hc ⊢
      rw [Nat.zero_add] at hc
      rw [← hc]
      exact World.cell?_of_block (hW g hgl (by omega))
    rw [hob]
    by_cases hroom : l.length + 1 ≤ cap
    · obtain ⟨A1, hA1⟩ : ∃ A1 : List Value, A1 = cur.toList.take ((i + 1) * 2) ++ (l.flatMap av).drop (i * 2) ++ cur.toList.drop ((i + 1) * 2 + ((l.flatMap av).drop (i * 2)).length) := ⟨_, rfl⟩
      obtain ⟨A2, hA2⟩ : ∃ A2 : List Value, A2 = A1.take (i * 2) ++ av (n, u) ++ A1.drop (i * 2 + (av (n, u)).length) := ⟨_, rfl⟩
      obtain ⟨k1, k2⟩ := ins_shift (n := l.length) (K := 2) (ys := av (n, u)) (by rw [hcl, hcs]; omega) htake (by omega) hul hA1 hA2
      have hov : ∀ lb cb, (callFunc 100 #[.slice (some ⟨vb, 0, none⟩) 1 1, .slice (some ⟨g, (i + 1) * 2, none⟩) lb cb]).run Try.prog w = .ok (.value (.bool false)) w := fun lb cb => by
        rw [run_callFunc_extern Try.func100 (by kernel_rfl) (by kernel_rfl) (by kernel_rfl) (e := Extern.SlicesOverlaps.overlaps #[54, 54] #[4]) (by kernel_rfl),
          Lib.run_overlaps_apart w 54 4 62 Try.underlying54 2 Try.sizeOf62 ⟨vb, 0, none⟩ ⟨g, (i + 1) * 2, none⟩ 1 1 lb cb hgv 62 62 2 cur.size (by simp [World.shape?, hvb]) (by simp [World.shape?, hg]) (by omega) (by simp [World.frozen?, hvb]) (by simp [World.frozen?, hvb])]
        rfl
      have hcp1 : ∀ ty dc sc, (Builtin.copy_ #[54, 54] ty #[.slice (some ⟨g, (i + 1) * 2, none⟩) (l.length - i) dc, .slice (some ⟨g, i * 2, none⟩) (l.length + 1 - i) sc]).run Try.prog w.drew = .ok (goInt (Nat.min (l.length + 1 - i) (l.length - i))) (w.drew.setRow g A1.toArray) := fun ty dc sc => by
        rw [hA1]
        have := run_copyK (P := Try.prog) 2 w.drew 54 54 ty 62 g ((i + 1) * 2) (l.length - i) dc ⟨g, i * 2, none⟩ (l.length + 1 - i) sc cur 62 ((l.flatMap av).drop (i * 2)) Try.underlying54 hsz hg (by show _ = (min (l.length + 1 - i) (l.length - i)) * 2; rw [List.length_drop, hxl]; omega) (hcell w.drew (fun _ _ _ => rfl)) (by rw [List.length_drop, hxl, hcs]; omega) (fun u hu => hone u (List.mem_of_mem_drop hu))
        exact this
      have hg1 : (w.drew.setRow g A1.toArray).heap[g]? = some (.cells A1.toArray 62 (0, 0)) := setRow_heap w.drew g cur _ 62 _ hg
      have a1l : A1.length = cur.size := by rw [hA1, List.length_append, List.length_append, List.length_take, List.length_drop, List.length_drop, hxl, hcl, hcs]; omega
      have hcp2 : ∀ (W : World), W.heap = (w.drew.setRow g A1.toArray).heap → ∀ ty dc, (Builtin.copy_ #[54, 54] ty #[.slice (some ⟨g, i * 2, none⟩) (l.length + 1 - i) dc, .slice (some ⟨vb, 0, none⟩) 1 1]).run Try.prog W = .ok (goInt (Nat.min 1 (l.length + 1 - i))) (W.setRow g A2.toArray) := fun W hW ty dc => by
        rw [hA2]
        have := run_copyK (P := Try.prog) 2 W 54 54 ty 62 g (i * 2) (l.length + 1 - i) dc ⟨vb, 0, none⟩ 1 1 A1.toArray 62 (av (n, u)) Try.underlying54 hsz (by rw [hW]; exact hg1) (by show _ = (min 1 (l.length + 1 - i)) * 2; rw [hul]; omega) (fun j u hu => by
          have := hnews j u hu
          rw [← this, add_at]
          exact World.cell?_of_block (by rw [hW]; exact setRow_other w.drew g vb _ hgv)) (by rw [hul, List.size_toArray, a1l, hcs]; omega) h1
        simpa using this
      have R : ∀ W : World, W.heap = ((w.drew.setRow g A1.toArray).setRow g A2.toArray).heap → OwnA W B (.slice (some ⟨g, 0, none⟩) (l.length + 1) cap) (insA l i (n, u)) := by
        intro W hW
        have hil' : (insA l i (n, u)).length = l.length + 1 := by unfold insA; simp; omega
        unfold OwnA
        rw [hil']
        refine ⟨by rw [flat_len av 2 av_len, hil'], Or.inr ⟨g, cap, A2.toArray, rfl, hBg, by rw [hW]; exact setRow_heap _ g A1.toArray _ 62 _ hg1, hroom, hcm, by simp [k1, hcs], ?_⟩⟩
        show A2.take _ = _
        rw [k2]
        unfold insA
        simp [flat_take, flat_drop]
      have hgr : ∀ W : World, W.heap = ((w.drew.setRow g A1.toArray).setRow g A2.toArray).heap → W.os = w.os → W.tape = w.tape → W.output = w.output → w.grownBy W (some g) := by
        intro W hW h1 h2 h3
        refine ⟨h1, h2, h3, by rw [hW]; simp [World.setRow], fun k _ hk => ?_⟩
        rw [hW, setRow_other _ g k _ (fun e => hk (by rw [e])), setRow_other _ g k _ (fun e => hk (by rw [e]))]
        rfl
      have hb4 : ¬ (cap = i) := by omega
      have hb2 : ¬ (cap = i + 1) := by omega
      have hw1 : IntKind.i64.wrap ((i : Int) + 1) = (i : Int) + 1 := by rw [IntKind.wrap_i64]; omega
      have htn : ((i : Int) + 1).toNat = i + 1 := by omega
      have hz2' : ¬ ((i : Int) = (l.length : Int)) := by omega
      have hb1 : (0 : Int) ≤ (i : Int) + 1 := by omega
      have hb3 : (i : Int) ≤ (l.length : Int) + 1 := by omega
      clear hown hcell hone hA1 hA2 hnews h1 hne k1 k2 hg1 a1l htake hvb hob hxl hcl hg hcs
      generalize A1.toArray = R1 at *
      generalize A2.toArray = R2 at *
      have QR : Hid _ := R
      have QG : Hid _ := hgr
      clear R hgr
      have mixed : Try.prog.follows Departure.mixedOrders = true := by kernel_rfl
      go_enter Try.func85, Try.ntmps85
      go_wp2_with (simp only [hov])
      go_region_law_o (refine step_copy_at rfl _ _ 54 54 rfl _ _ (by simp [Act.eval, Act.put]) (by simp [Act.eval, Act.put]) (hcp1 _ _ _) ?_)
      go_wp2_with (at_builtin; refine wpList_copy_at _ rfl _ _ 54 54 rfl _ _ rfl rfl (hcp2 _ rfl _ _) ?_)
      go_ret
      exact ⟨_, rfl, QR.out _ rfl, QG.out _ rfl rfl rfl rfl, Or.inl rfl⟩
    · obtain ⟨G, hG⟩ : ∃ G, G = grownCap w (l.length + 1) cap 62 := ⟨_, rfl⟩
      have hGn : l.length + 1 ≤ G := by rw [hG]; exact grownCap_ge w _ _ _
      have hGm : G ≤ maxLen := by rw [hG]; exact grownCap_le_maxLen w (l.length + 1) cap 62 (by unfold maxLen; omega)
      have hG63 : G ≤ 9223372036854775807 := by unfold maxLen at hGm; omega
      obtain ⟨Z, hZ⟩ : ∃ Z : List Value, Z = (Builtin.zeroCells (Value.agg #[.string ⟨#[]⟩, .string ⟨#[]⟩]).cells (l.length + 1 - i) ++ Builtin.zeroCells (Value.agg #[.string ⟨#[]⟩, .string ⟨#[]⟩]).cells (G - (l.length + 1))).toList := ⟨_, rfl⟩
      obtain ⟨A0, hA0⟩ : ∃ A0 : List Value, A0 = (l.flatMap av).take (i * 2) ++ Z := ⟨_, rfl⟩
      obtain ⟨A1, hA1⟩ : ∃ A1 : List Value, A1 = A0.take (i * 2) ++ av (n, u) ++ A0.drop (i * 2 + (av (n, u)).length) := ⟨_, rfl⟩
      obtain ⟨A2, hA2⟩ : ∃ A2 : List Value, A2 = A1.take ((i + 1) * 2) ++ (l.flatMap av).drop (i * 2) ++ A1.drop ((i + 1) * 2 + ((l.flatMap av).drop (i * 2)).length) := ⟨_, rfl⟩
      have hZl : Z.length = (l.length + 1 - i) * 2 + (G - (l.length + 1)) * 2 := by rw [hZ]; simp [Builtin.zeroCells, Value.cells]
      have hA0l : A0.length = G * 2 := by rw [hA0, List.length_append, List.length_take, hxl, hZl]; omega
      obtain ⟨k1, k2⟩ := ins_grow (n := l.length) (K := 2) (ys := av (n, u)) hxl (by omega) hul (by rw [hZl]; omega) hA0 hA1 hA2
      have hA1l : A1.length = G * 2 := by rw [hA1, List.length_append, List.length_append, List.length_take, List.length_drop, hul, hA0l]; omega
      have hold : (Builtin.firstCells i0.size i (.slice (some ⟨g, 0, none⟩) i cap)).run Try.prog w.drew = .ok ((l.flatMap av).take (i * 2)).toArray w.drew := by
        rw [hz1]
        exact run_firstCells_some w.drew 2 i ⟨g, 0, none⟩ i cap ((l.flatMap av).take (i * 2)) (by rw [List.length_take, hxl]; omega) (fun j v hj => by
          rw [List.getElem?_take] at hj
          split at hj
          · exact World.ownsRow.cells hown (g := g) rfl j v hj
          · cases hj)
      have hik : i + (l.length + 1 - i) = l.length + 1 := by omega
      have hkk : (l.length : Int) + 1 - (i : Int) = ((l.length + 1 - i : Nat) : Int) := by omega
      have hrz : ∀ ty, (Builtin.append_ #[54, 3] ty #[.slice (some ⟨g, 0, none⟩) i cap, .int .i64 ((l.length : Int) + 1 - (i : Int))]).run Try.prog w = .ok (.slice (some ⟨w.heap.size, 0, none⟩) (l.length + 1) G) (w.drew.alloc (.cells A0.toArray 62)) := fun ty => by
        have h := Lib.run_append_grow_zeros w 54 3 ty 62 i0 _ .i64 .i64 Try.underlying54 Try.underlying3 hi0 hz0 (some ⟨g, 0, none⟩) i cap ((l.flatMap av).take (i * 2)) hold (l.length + 1 - i) (by omega) (by omega) (by omega) (by omega) (by rw [hz2]; omega) (by rw [hz2, hik]; exact growslice_fits (by omega) (by omega))
        rw [hik, ← hG] at h
        rw [hkk, h, hA0, hZ]
        congr 3
        simp
      have hN0 : (w.drew.alloc (.cells A0.toArray 62)).heap[w.heap.size]? = some (.cells A0.toArray 62 (0, 0)) := heap_alloc_new w.drew _
      have hold0 : ∀ k, k < w.heap.size → (w.drew.alloc (.cells A0.toArray 62)).heap[k]? = w.heap[k]? := fun k hk => heap_alloc_old w.drew _ hk
      have hvl : vb < w.heap.size := by rw [Array.getElem?_eq_some_iff] at hvb; exact hvb.1
      have hcp1 : ∀ (W : World), W.heap = (w.drew.alloc (.cells A0.toArray 62)).heap → ∀ ty dc, (Builtin.copy_ #[54, 54] ty #[.slice (some ⟨w.heap.size, i * 2, none⟩) (l.length + 1 - i) dc, .slice (some ⟨vb, 0, none⟩) 1 1]).run Try.prog W = .ok (goInt (Nat.min 1 (l.length + 1 - i))) (W.setRow w.heap.size A1.toArray) := fun W hW ty dc => by
        rw [hA1]
        have := run_copyK (P := Try.prog) 2 W 54 54 ty 62 w.heap.size (i * 2) (l.length + 1 - i) dc ⟨vb, 0, none⟩ 1 1 A0.toArray 62 (av (n, u)) Try.underlying54 hsz (by rw [hW]; exact hN0) (by show _ = (min 1 (l.length + 1 - i)) * 2; rw [hul]; omega) (fun j u hu => by
          have := hnews j u hu
          rw [← this, add_at]
          exact World.cell?_of_block (by rw [hW]; exact hold0 vb hvl)) (by rw [hul, List.size_toArray, hA0l]; omega) h1
        simpa using this
      have hcp2 : ∀ (W : World) (V : World), V.heap = (w.drew.alloc (.cells A0.toArray 62)).heap → W.heap = (V.setRow w.heap.size A1.toArray).heap → ∀ ty dc sc, (Builtin.copy_ #[54, 54] ty #[.slice (some ⟨w.heap.size, (i + 1) * 2, none⟩) (l.length - i) dc, .slice (some ⟨g, i * 2, none⟩) (l.length - i) sc]).run Try.prog W = .ok (goInt (Nat.min (l.length - i) (l.length - i))) (W.setRow w.heap.size A2.toArray) := fun W V hV hW ty dc sc => by
        rw [hA2]
        have := run_copyK (P := Try.prog) 2 W 54 54 ty 62 w.heap.size ((i + 1) * 2) (l.length - i) dc ⟨g, i * 2, none⟩ (l.length - i) sc A1.toArray 62 ((l.flatMap av).drop (i * 2)) Try.underlying54 hsz (by rw [hW]; exact setRow_heap V w.heap.size A0.toArray _ 62 _ (by rw [hV]; exact hN0)) (by show _ = (min (l.length - i) (l.length - i)) * 2; rw [List.length_drop, hxl]; omega)
          (hcell W (fun k hk hk2 => by rw [hW, setRow_other _ _ k _ hk2, hV]; exact hold0 k hk)) (by rw [List.length_drop, hxl, List.size_toArray, hA1l]; omega) (fun u hu => hone u (List.mem_of_mem_drop hu))
        simpa using this
      have R : ∀ (W U V : World), V.heap = (w.drew.alloc (.cells A0.toArray 62)).heap → U.heap = (V.setRow w.heap.size A1.toArray).heap → W.heap = (U.setRow w.heap.size A2.toArray).heap → OwnA W B (.slice (some ⟨w.heap.size, 0, none⟩) (l.length + 1) G) (insA l i (n, u)) := by
        intro W U V hV hU hW
        have hil' : (insA l i (n, u)).length = l.length + 1 := by unfold insA; simp; omega
        have g1 : U.heap[w.heap.size]? = some (.cells A1.toArray 62 (0, 0)) := by rw [hU]; exact setRow_heap V w.heap.size A0.toArray _ 62 _ (by rw [hV]; exact hN0)
        unfold OwnA
        rw [hil']
        refine ⟨by rw [flat_len av 2 av_len, hil'], Or.inr ⟨w.heap.size, G, A2.toArray, rfl, hB, by rw [hW]; exact setRow_heap U w.heap.size A1.toArray _ 62 _ g1, hGn, hGm, by simp [k1, hA0l], ?_⟩⟩
        show A2.take _ = _
        rw [k2]
        unfold insA
        simp [flat_take, flat_drop]
      have hgr : ∀ (W U V : World), V.heap = (w.drew.alloc (.cells A0.toArray 62)).heap → U.heap = (V.setRow w.heap.size A1.toArray).heap → W.heap = (U.setRow w.heap.size A2.toArray).heap → W.os = w.os → W.tape = w.tape → W.output = w.output → w.grownBy W (some g) := by
        intro W U V hV hU hW h1 h2 h3
        refine ⟨h1, h2, h3, by rw [hW]; simp [World.setRow, hU, hV], fun k hk _ => ?_⟩
        rw [hW, setRow_other _ _ k _ (by omega), hU, setRow_other _ _ k _ (by omega), hV]
        exact hold0 k hk
      have hb4 : ¬ (cap = i) := by omega
      have hGi : ¬ (G = i) := by omega
      have hGi1 : ¬ (G = i + 1) := by omega
      have hw1 : IntKind.i64.wrap ((i : Int) + 1) = (i : Int) + 1 := by rw [IntKind.wrap_i64]; omega
      have htn : ((i : Int) + 1).toNat = i + 1 := by omega
      have hz2' : ¬ ((i : Int) = (l.length : Int)) := by omega
      have hb1 : (0 : Int) ≤ (i : Int) + 1 := by omega
      have hb3 : (i : Int) ≤ (l.length : Int) + 1 := by omega
      have hb5 : (i : Int) ≤ (l.length : Int) := by omega
      have hgt : (cap : Int) < (l.length : Int) + 1 := by omega
      have mixed : Try.prog.follows Departure.mixedOrders = true := by kernel_rfl
      clear hown hcell hone hA0 hA1 hA2 hnews h1 hne k1 k2 htake hvb hob hxl hcl hg hcs hold hN0 hold0 hZ hZl hA0l hA1l hkk hik hG
      generalize A0.toArray = R0 at *
      generalize A1.toArray = R1 at *
      generalize A2.toArray = R2 at *
      have QR : Hid _ := R
      have QG : Hid _ := hgr
      clear R hgr
      go_enter Try.func85, Try.ntmps85
      have hcpW := hcp1 (w.alloc (.cells R0 62)).drew rfl
      have hcpV := hcp2 (((w.alloc (.cells R0 62)).drew.setRow w.heap.size R1).drew) ((w.alloc (.cells R0 62)).drew) rfl rfl
      go_wp2_with (first
        | (at_builtin; refine wpList_append_at _ rfl _ _ 54 3 rfl _ _ rfl rfl (hrz _) ?_)
        | (simp only [hcpW]))
      go_region_law_o (refine step_copy_at rfl _ _ 54 54 rfl _ _ (by simp [Act.eval, Act.put]) (by simp [Act.eval, Act.put]) (hcpV _ _ _) ?_)
      go_wp2_with fail
      go_ret
      exact ⟨_, rfl, QR.out _ (((w.alloc (.cells R0 62)).drew.setRow w.heap.size R1).drew) ((w.alloc (.cells R0 62)).drew) rfl rfl rfl, QG.out _ (((w.alloc (.cells R0 62)).drew.setRow w.heap.size R1).drew) ((w.alloc (.cells R0 62)).drew) rfl rfl rfl rfl rfl rfl, Or.inr ⟨_, Nat.le_refl _, rfl⟩⟩
end Go.Proofs.Ytookcjdibpccpaa

/-
  PLAIN MATHEMATICS: attributes that rise: where one stands, what comes of the list.
-/
namespace Go.Proofs.Ytookcjdibpccpaa
open Tn

theorem less_asym {a b : ByteArray} (h : lessS a b = true) : lessS b a = false := by
  cases h2 : lessS b a with
  | false => rfl
  | true =>
    unfold lessS at h h2
    exact absurd (List.lt_trans (of_decide_eq_true h) (of_decide_eq_true h2)) (List.lt_irrefl _)
theorem less_eq_no {a b : ByteArray} (h : lessS a b = true) : eqS a b = false := by
  cases hq : eqS a b with
  | false => rfl
  | true => rw [eqS_less hq] at h; cases h
theorem eqS_comm (a b : ByteArray) : eqS a b = eqS b a := by
  unfold eqS
  rw [Bool.eq_iff_iff]
  simp only [beq_iff_eq]
  exact ⟨fun h => h.symm, fun h => h.symm⟩

theorem fold_lo (nm vl : ByteArray) : ∀ (l out : List At) (dn : Bool), (∀ a ∈ l, lessS a.1 nm = true) → l.foldl (aStep nm vl) (out, dn) = (out ++ l, dn)
  | [], out, dn, _ => by simp
  | a :: l, out, dn, h => by
    have h1 := h a (by simp)
    rw [List.foldl_cons]
    have e : aStep nm vl (out, dn) a = (out ++ [a], dn) := by
      unfold aStep
      rw [less_eq_no h1, less_asym h1]
      simp
    rw [e, fold_lo nm vl l (out ++ [a]) dn (fun b hb => h b (by simp [hb]))]
    simp
theorem fold_hi (nm vl : ByteArray) : ∀ (l out : List At), (∀ a ∈ l, eqS a.1 nm = false) → l.foldl (aStep nm vl) (out, true) = (out ++ l, true)
  | [], out, _ => by simp
  | a :: l, out, h => by
    have h1 := h a (by simp)
    rw [List.foldl_cons]
    have e : aStep nm vl (out, true) a = (out ++ [a], true) := by
      unfold aStep
      rw [h1]
      simp
    rw [e, fold_hi nm vl l (out ++ [a]) (fun b hb => h b (by simp [hb]))]
    simp

theorem stands_eq {l : List At} (hr : Rising l) {t : ByteArray} {i : Nat} (h : Stands l t i) : (attrOf l t).isSome = true ↔ ∃ hi : i < l.length, eqS l[i].1 t = true := by
  rw [← stands_has hr h]
  by_cases hi : i < l.length
  · rw [List.getElem?_eq_getElem hi]
    show (cmpI l[i].1 t == 0) = true ↔ _
    rw [cmp_zero]
    exact ⟨fun h => ⟨hi, h⟩, fun ⟨_, h⟩ => h⟩
  · rw [List.getElem?_eq_none (by omega)]
    exact ⟨fun h => by simp at h, fun ⟨h, _⟩ => absurd h hi⟩

theorem lo_all {l : List At} {t : ByteArray} {i : Nat} (h : Stands l t i) : ∀ a ∈ l.take i, lessS a.1 t = true := by
  intro a ha
  obtain ⟨j, hj, rfl⟩ := List.mem_take_iff_getElem.mp ha
  exact h.lo j (by omega) (by omega)

theorem attrs_has {l : List At} (hr : Rising l) {nm vl : ByteArray} {i : Nat} (h : Stands l nm i) (hi : i < l.length) (hq : eqS l[i].1 nm = true) : attrsD l nm vl = l.set i (l[i].1, vl) := by
  have hl : l = l.take i ++ l[i] :: l.drop (i + 1) := by rw [← List.drop_eq_getElem_cons hi, List.take_append_drop]
  have hf : aFold nm vl l = (l.take i ++ (l[i].1, vl) :: l.drop (i + 1), true) := by
    unfold aFold
    conv => lhs; rw [hl]
    rw [List.foldl_append, fold_lo nm vl _ _ _ (lo_all h), List.foldl_cons]
    have e : aStep nm vl ([] ++ l.take i, false) l[i] = (l.take i ++ [(l[i].1, vl)], true) := by
      unfold aStep
      rw [hq]
      simp
    rw [e, fold_hi]
    · simp
    · intro a ha
      obtain ⟨j, hj, rfl⟩ := List.mem_drop_iff_getElem.mp ha
      have h3 := List.pairwise_iff_getElem.mp hr i (i + 1 + j) hi (by omega) (by omega)
      have := less_eq_no (eqS_lessL hq h3)
      rw [eqS_comm]
      exact this
  unfold attrsD
  rw [hf]
  simp only [if_true]
  rw [List.set_eq_take_append_cons_drop, if_pos hi]

theorem attrs_not {l : List At} (hr : Rising l) {nm vl : ByteArray} {i : Nat} (h : Stands l nm i) (hn : ¬ ∃ hi : i < l.length, eqS l[i].1 nm = true) : attrsD l nm vl = insA l i (nm, vl) := by
  unfold insA
  by_cases hi : i < l.length
  · have hl : l = l.take i ++ l[i] :: l.drop (i + 1) := by rw [← List.drop_eq_getElem_cons hi, List.take_append_drop]
    have hq : eqS l[i].1 nm = false := by
      cases hq : eqS l[i].1 nm with
      | false => rfl
      | true => exact absurd ⟨hi, hq⟩ hn
    have hlt : lessS nm l[i].1 = true := by
      rcases lessS_or nm l[i].1 with h1 | h1 | h1
      · exact h1
      · rw [eqS_comm, hq] at h1; cases h1
      · rw [h.hi i hi (Nat.le_refl _)] at h1; cases h1
    have hf : aFold nm vl l = (l.take i ++ (nm, vl) :: l[i] :: l.drop (i + 1), true) := by
      unfold aFold
      conv => lhs; rw [hl]
      rw [List.foldl_append, fold_lo nm vl _ _ _ (lo_all h), List.foldl_cons]
      have e : aStep nm vl ([] ++ l.take i, false) l[i] = (l.take i ++ [(nm, vl)] ++ [l[i]], true) := by
        unfold aStep
        rw [hq, hlt]
        simp
      rw [e, fold_hi]
      · simp
      · intro a ha
        obtain ⟨j, hj, rfl⟩ := List.mem_drop_iff_getElem.mp ha
        have h3 := List.pairwise_iff_getElem.mp hr i (i + 1 + j) hi (by omega) (by omega)
        cases hq2 : eqS l[i + 1 + j].1 nm with
        | false => rfl
        | true =>
          have h4 := h.hi i hi (Nat.le_refl _)
          unfold eqS at hq2
          unfold lessS at h3 h4
          rw [beq_iff_eq.mp hq2, h4] at h3
          cases h3
    unfold attrsD
    rw [hf]
    simp only [if_true]
    rw [← List.drop_eq_getElem_cons hi]
    simp
  · have hil : i = l.length := by have := h.le; omega
    have hf : aFold nm vl l = (l, false) := by
      unfold aFold
      rw [fold_lo nm vl l [] false (fun a ha => lo_all h a (by rw [hil, List.take_length]; exact ha))]
      simp
    unfold attrsD
    rw [hf, hil]
    simp

theorem attrs_off {l : List At} (hr : Rising l) {nm : ByteArray} {i : Nat} (h : Stands l nm i) (hi : i < l.length) (hq : eqS l[i].1 nm = true) : attrsOff l nm = l.eraseIdx i := by
  have hl : l = l.take i ++ l[i] :: l.drop (i + 1) := by rw [← List.drop_eq_getElem_cons hi, List.take_append_drop]
  unfold attrsOff
  rw [List.eraseIdx_eq_take_drop_succ]
  conv => lhs; rw [hl]
  rw [List.filter_append, List.filter_cons, hq]
  simp only [Bool.not_true, Bool.false_eq_true, if_false]
  congr 1
  · rw [List.filter_eq_self]
    intro a ha
    rw [less_eq_no (lo_all h a ha)]
    rfl
  · rw [List.filter_eq_self]
    intro a ha
    obtain ⟨j, hj, rfl⟩ := List.mem_drop_iff_getElem.mp ha
    have h3 := List.pairwise_iff_getElem.mp hr i (i + 1 + j) hi (by omega) (by omega)
    have := less_eq_no (eqS_lessL hq h3)
    rw [eqS_comm] at this
    rw [this]
    rfl

/-- the error of an attribute that is set -/
def setE (l : List At) (nm vl : ByteArray) : Int := if okName nm = false then 7 else if 60 < vl.size then 4 else if 8 < (attrsD l nm vl).length then 5 else 0

theorem flat_set2 (x : ByteArray) : ∀ (l : List At) (i : Nat) (hi : i < l.length), (l.flatMap av).set (i * 2 + 1) (.string x) = (l.set i (l[i].1, x)).flatMap av
  | [], i, h => by simp at h
  | a :: l, 0, _ => by simp [av]
  | a :: l, i + 1, h => by
    have h' : i < l.length := by simpa using h
    rw [List.flatMap_cons, List.set_append_right _ _ (by rw [av_len]; omega), av_len]
    have e : (i + 1) * 2 + 1 - 2 = i * 2 + 1 := by omega
    rw [e, flat_set2 x l i h']
    simp
end Go.Proofs.Ytookcjdibpccpaa

/-
  DOCUMENTS OF ONE's OWN: the row, and each list, in a block by itself; append of attributes; dom.New.
-/
namespace Go.Proofs.Ytookcjdibpccpaa
open Go.RowKit

theorem flat_av_one (m : List Tn.At) : ∀ u ∈ m.flatMap av, u.oneCell' = true := by
  intro u hu
  rw [List.mem_flatMap] at hu
  obtain ⟨a, _, hm⟩ := hu
  simp only [av, List.mem_cons, List.not_mem_nil, or_false] at hm
  rcases hm with rfl | rfl <;> rfl

theorem wp_append_attrs {w0 wr : World} {o : Oper} {a : Act} {K : Act → World → Prop} {Q : Exit → Act → World → Prop}
    (s x : Operand) (ho : o.op = Op.call { callee := Callee.builtin Builtin.append, args := #[s, x], argTypes := #[54, 54] }) {B : Nat} {v u : Value} {l m : List Tn.At}
    (hs : a.eval s = v) (hx : a.eval x = u) (hown : OwnA wr B v l) (hm : AttrsAt wr u m) (hnx : Below B w0 wr) (hB : B ≤ wr.heap.size) (hsz : l.length + m.length ≤ 1000000)
    (h : ∀ v' w1, OwnA w1 B v' (l ++ m) → Below B w0 w1 → w1.heap.size ≥ B → wr.grownBy w1 v.ownBlock → K (a.put o.dst v') w1) : o.wp Try.prog a wr K Q := by
  obtain ⟨i0, hi, hz0, hz1, hz2⟩ := info_parts infoA
  unfold OwnA at hown h
  obtain ⟨p, c, rfl, h1, h2, h3, h4⟩ := hm
  cases p with
  | none =>
    have hc : c = 0 := by
      rcases h3 with h3 | ⟨_, _, h3⟩
      · exact h3.2
      · cases h3
    subst hc
    have hl : m = [] := List.length_eq_zero_iff.mp (by omega)
    subst hl
    have hrun := run_append_owned_none (P := Try.prog) (w := wr) B 54 o.type 62 i0 2 Try.underlying54 hi v _ _ hown
    have hk := h v wr (by simpa using hown) hnx hB (grown_refl _ _)
    unfold Oper.wp
    simp [execOp, ho, resolve, invoke, builtin, hs, hx, hrun, Result.andThen]
    exact hk
  | some ad =>
    obtain ⟨b, off, hab⟩ : ∃ b off, ad = ⟨b, off, none⟩ := by
      rcases h3 with ⟨h3, _⟩ | ⟨b, off, h3⟩
      · cases h3
      · exact ⟨b, off, by cases h3; rfl⟩
    subst hab
    refine wp_append_own _ s x 54 ho B 62 i0 (.agg #[.string ⟨#[]⟩, .string ⟨#[]⟩]) 2 32 Try.underlying54 hi hz0 hz1 hz2 rfl (by decide) v _ _ hs hown ⟨b, off, none⟩ m.length c (m.flatMap av) hx (flat_len _ 2 av_len _) ?_ (flat_av_one m) ?_ ?_ ?_ ?_
    · intro j u hu
      obtain ⟨b', o', e1, e2⟩ := h4 j u hu
      cases e1
      rw [add_at]
      exact e2
    · unfold maxLen; omega
    · omega
    · exact hB
    · intro v' w1 k1 k2 _
      exact h v' w1 (by simpa using k1) (hnx.grown k2 hB (fun j hj => (hown.lt j hj).1)) (by have := k2.size; omega) k2

theorem append_attrs {w0 wr : World} {ops : Array Oper} {rest : List Oper} {o : Oper} {a : Act} {Q : Exit → Act → World → Prop} (hgd : o.guard = none)
    (s x : Operand) (ho : o.op = Op.call { callee := Callee.builtin Builtin.append, args := #[s, x], argTypes := #[54, 54] }) {B : Nat} {v u : Value} {l m : List Tn.At}
    (hs : a.eval s = v) (hx : a.eval x = u) (hown : OwnA wr B v l) (hm : AttrsAt wr u m) (hnx : Below B w0 wr) (hB : B ≤ wr.heap.size) (hsz : l.length + m.length ≤ 1000000)
    (h : ∀ v' w1, OwnA w1 B v' (l ++ m) → Below B w0 w1 → w1.heap.size ≥ B → wpList Try.prog ops Q rest (a.put o.dst v') w1) :
    wpList Try.prog ops Q (o :: rest) a wr :=
  wpList_plain hgd fun _ hK => wp_append_attrs s x ho hs hx hown hm hnx hB hsz fun v' w1 h2 h3 h4 _ => hK _ _ (h v' w1 h2 h3 h4)

theorem OwnA.below {w w' : World} {B C : Nat} {v : Value} {l : List Tn.At} (h : OwnA w B v l) (hb : Below C w w') (hC : w.heap.size ≤ C) : OwnA w' B v l := by
  unfold OwnA at *
  obtain ⟨hl, hz⟩ := h
  refine ⟨hl, ?_⟩
  rcases hz with h5 | ⟨g, cap, cur, e, h3, h6, h7⟩
  · exact Or.inl h5
  · refine Or.inr ⟨g, cap, cur, e, h3, ?_, h7⟩
    have hlt : g < w.heap.size := by
      rw [Array.getElem?_eq_some_iff] at h6
      exact h6.1
    rw [hb.block g (by omega)]
    exact h6

/-- a row of its own stays so when another block is written -/
theorem owns_other {w : World} {B e k n : Nat} {v : Value} {xs : List Value} (h : w.ownsRow B e k v n xs) {p : Addr} (hp : v.ownBlock ≠ some p.block) (u : Value) : (w.setCell p u).ownsRow B e k v n xs := by
  obtain ⟨hl, hz⟩ := h
  refine ⟨hl, ?_⟩
  rcases hz with h5 | ⟨g, cap, cur, rfl, h3, h6, h7⟩
  · exact Or.inl h5
  · refine Or.inr ⟨g, cap, cur, rfl, h3, ?_, h7⟩
    have hne : g ≠ p.block := fun e => hp (by rw [← e]; rfl)
    rw [← h6]
    exact heap_setCell_other _ _ _ _ hne

theorem owns_low {w : World} {B B' e k n : Nat} {v : Value} {xs : List Value} (h : w.ownsRow B e k v n xs) (hB : B' ≤ B) : w.ownsRow B' e k v n xs := by
  obtain ⟨hl, hz⟩ := h
  refine ⟨hl, ?_⟩
  rcases hz with h5 | ⟨g, cap, cur, rfl, h3, h6⟩
  · exact Or.inl h5
  · exact Or.inr ⟨g, cap, cur, rfl, by omega, h6⟩

/-- a node whose lists are the call's own -/
structure OwnNd (w : World) (B : Nat) (r : Raw) (n : Tn.Nd) : Prop where
  live : r.live = n.live
  tag : r.tag = n.tag
  text : r.text = n.text
  up : r.up = n.up
  hasS : r.hasS = n.hasS
  inS : r.inS = n.inS
  attrs : OwnA w B (.slice r.a.p r.a.n r.a.c) n.attrs
  kids : OwnI w B (.slice r.k.p r.k.n r.k.c) n.kids
  shadow : OwnI w B (.slice r.s.p r.s.n r.s.c) n.shadow

theorem OwnNd.nd {w : World} {B : Nat} {r : Raw} {n : Tn.Nd} (h : OwnNd w B r n) : NdAt w r n :=
  ⟨h.live, h.tag, h.text, h.up, h.hasS, h.inS, attrs_of_owns h.attrs, ints_of_owns h.kids, ints_of_owns h.shadow⟩

/-- the blocks of a node's lists -/
def Raw.blocks (r : Raw) : List Nat := (r.a.p.toList ++ r.k.p.toList ++ r.s.p.toList).map (·.block)

/-- a document that is the call's own: row and lists, each in a block by itself -/
structure OwnDoc (w : World) (B g c : Nat) (rs : List Raw) (d : Tn.Dc) : Prop where
  row : OwnN w B (.slice (some ⟨g, 0, none⟩) rs.length c) rs
  len : rs.length = d.length
  nds : ∀ k (h : k < rs.length) (h' : k < d.length), OwnNd w B rs[k] d[k]
  sep : (g :: rs.flatMap Raw.blocks).Nodup
  low : ∀ x ∈ rs.flatMap Raw.blocks, x < w.heap.size

theorem OwnDoc.doc {w : World} {B g c : Nat} {rs : List Raw} {d : Tn.Dc} (h : OwnDoc w B g c rs d) (h0 : 0 < rs.length) : DocAt w g 0 c rs d := by
  obtain ⟨g', c', e, h1, h2, _, _, h4, _⟩ := own_at h.row h0
  cases e
  exact ⟨h1, h2, h.len, h4, fun k hk hk' => (h.nds k hk hk').nd⟩

set_option maxHeartbeats 1600000 in
theorem dnew_any {w : World} :
    Calls Try.prog 24 #[] w fun e w' => e = .returned (.slice (some ⟨w.heap.size, 0, none⟩) [rootR].length 1) ∧ DocAt w' w.heap.size 0 1 [rootR] [Tn.root] ∧ Below w.heap.size w w' := by
  go_enter Try.func24, Try.ntmps24
  go_wp2_with fail
  go_ret
  exact ⟨rfl, root_doc w, (Below.refl _ _).alloc (Nat.le_refl _) _⟩
end Go.Proofs.Ytookcjdibpccpaa

/-
  THE WALK of dom.Own.
-/
namespace Go.Proofs.Ytookcjdibpccpaa
open Go.RowKit

theorem flat_set_at (r' : Raw) (i : Nat) (x : Value) (hi : i < 9) : ∀ (rs : List Raw) (k : Nat) (hk : k < rs.length), r'.cells = rs[k].cells.set i x → (rs.flatMap Raw.cells).set (k * 9 + i) x = (rs.set k r').flatMap Raw.cells
  | [], k, h, _ => by simp at h
  | a :: l, 0, _, hr => by
    rw [List.set_cons_zero, List.flatMap_cons, List.flatMap_cons, List.set_append_left _ _ (by rw [raw_len]; omega), hr]
    simp
  | a :: l, k + 1, h, hr => by
    have ih := flat_set_at r' i x hi l k (by simpa using h) (by simpa using hr)
    rw [List.set_cons_succ, List.flatMap_cons, List.flatMap_cons, List.set_append_right _ _ (by rw [raw_len]; omega), raw_len, ← ih]
    congr 2
    omega

theorem own_set1 {w : World} {B g n c : Nat} {rs : List Raw} (hn : n = rs.length) (h : OwnN w B (.slice (some ⟨g, 0, none⟩) n c) rs) (k : Nat) (hk : k < rs.length) (i : Nat) (hi : i < 9) (x : Value) (r' : Raw) (hr : r'.cells = rs[k].cells.set i x) :
    OwnN (w.setCell ⟨g, k * 9 + i, none⟩ x) B (.slice (some ⟨g, 0, none⟩) n c) (rs.set k r') := by
  subst hn
  unfold OwnN at *
  have := owns_set h (k * 9 + i) x
  rw [flat_set_at r' i x hi rs k hk hr] at this
  rw [List.length_set]
  exact this

theorem owns_below {w w' : World} {B C e k n : Nat} {v : Value} {xs : List Value} (h : w.ownsRow B e k v n xs) (hb : Below C w w') (hC : w.heap.size ≤ C) : w'.ownsRow B e k v n xs := by
  obtain ⟨hl, hz⟩ := h
  refine ⟨hl, ?_⟩
  rcases hz with h5 | ⟨g, cap, cur, e, h3, h6, h7⟩
  · exact Or.inl h5
  · refine Or.inr ⟨g, cap, cur, e, h3, ?_, h7⟩
    have hlt : g < w.heap.size := by
      rw [Array.getElem?_eq_some_iff] at h6
      exact h6.1
    rw [hb.block g (by omega)]
    exact h6

theorem OwnNd.below {w w' : World} {B C : Nat} {r : Raw} {n : Tn.Nd} (h : OwnNd w B r n) (hb : Below C w w') (hC : w.heap.size ≤ C) : OwnNd w' B r n :=
  ⟨h.live, h.tag, h.text, h.up, h.hasS, h.inS, owns_below h.attrs hb hC, owns_below h.kids hb hC, owns_below h.shadow hb hC⟩

theorem ownBlock_sl {p : Option Addr} {n c x : Nat} (h : (Value.slice p n c).ownBlock = some x) : x ∈ (p.toList).map (·.block) := by
  cases p with
  | none => simp [Value.ownBlock] at h
  | some a => simp [Value.ownBlock] at h; simp [h]

theorem OwnNd.other {w : World} {B : Nat} {r : Raw} {n : Tn.Nd} (h : OwnNd w B r n) {p : Addr} (hp : p.block ∉ r.blocks) (u : Value) : OwnNd (w.setCell p u) B r n := by
  have e : ∀ q : Sl, (∀ x ∈ q.p.toList.map (·.block), x ∈ r.blocks) → (Value.slice q.p q.n q.c).ownBlock ≠ some p.block := fun q hq he => hp (hq _ (ownBlock_sl he))
  refine ⟨h.live, h.tag, h.text, h.up, h.hasS, h.inS, owns_other h.attrs (e _ ?_) u, owns_other h.kids (e _ ?_) u, owns_other h.shadow (e _ ?_) u⟩ <;>
  · intro x hx
    simp only [Raw.blocks, List.map_append, List.mem_append]
    first | exact Or.inl (Or.inl hx) | exact Or.inl (Or.inr hx) | exact Or.inr hx

/-- a copy under way: of the nodes ahead of r the lists are the call's own -/
structure Half (w : World) (B g c : Nat) (ts : List Raw) (r : Raw) (tl : List Raw) (d : Tn.Dc) : Prop where
  row : OwnN w B (.slice (some ⟨g, 0, none⟩) (ts ++ r :: tl).length c) (ts ++ r :: tl)
  nds : ∀ k (h : k < ts.length) (h' : k < d.length), OwnNd w B ts[k] d[k]
  sep : (g :: ts.flatMap Raw.blocks).Nodup
  low : ∀ x ∈ ts.flatMap Raw.blocks, x < w.heap.size

theorem Half.below {w w' : World} {B C g c : Nat} {ts tl : List Raw} {r : Raw} {d : Tn.Dc} (h : Half w B g c ts r tl d) (hb : Below C w w') (hC : w.heap.size ≤ C) : Half w' B g c ts r tl d :=
  ⟨owns_below h.row hb hC, fun k hk hk' => (h.nds k hk hk').below hb hC, h.sep, fun x hx => Nat.lt_of_lt_of_le (h.low x hx) hb.size⟩

theorem Half.set {w : World} {B g c : Nat} {ts tl : List Raw} {r : Raw} {d : Tn.Dc} (h : Half w B g c ts r tl d) (i : Nat) (hi : i < 9) (x : Value) (r' : Raw) (hr : r'.cells = r.cells.set i x) : Half (w.setCell ⟨g, ts.length * 9 + i, none⟩ x) B g c ts r' tl d := by
  have hrow := own_set1 rfl h.row ts.length (by simp) i hi x r' (by simpa using hr)
  have e : (ts ++ r :: tl).set ts.length r' = ts ++ r' :: tl := by simp
  rw [e] at hrow
  refine ⟨by simpa using hrow, fun k hk hk' => (h.nds k hk hk').other ?_ _, h.sep, fun y hy => by simpa using h.low y hy⟩
  intro hm
  have := (List.nodup_cons.mp h.sep).1
  exact this (List.mem_flatMap.mpr ⟨ts[k], List.getElem_mem hk, hm⟩)

theorem Half.at {w : World} {B g c : Nat} {ts tl : List Raw} {r : Raw} {d : Tn.Dc} (h : Half w B g c ts r tl d) : B ≤ g ∧ g < w.heap.size ∧ w.cell? ⟨g, ts.length * 9 + 3, none⟩ = some (.slice r.a.p r.a.n r.a.c) ∧ w.cell? ⟨g, ts.length * 9 + 5, none⟩ = some (.slice r.k.p r.k.n r.k.c) ∧ w.cell? ⟨g, ts.length * 9 + 7, none⟩ = some (.slice r.s.p r.s.n r.s.c) ∧ (∀ j, w.frozen? ⟨g, j, none⟩ = false) := by
  obtain ⟨g', c', e, h1, h2, h3, h4, h5, h6⟩ := own_at h.row (by simp; omega)
  cases e
  have c3 := h5.c3 ts.length (by simp)
  have c5 := h5.c5 ts.length (by simp)
  have c7 := h5.c7 ts.length (by simp)
  simp only [List.getElem_append_right (Nat.le_refl _), Nat.sub_self, List.getElem_cons_zero, Nat.zero_add] at c3 c5 c7
  exact ⟨h3, h4, c3, c5, c7, h6⟩

theorem sl_range {w : World} {B e k n m c : Nat} {p : Option Addr} {xs : List Value} (h : w.ownsRow B e k (.slice p m c) n xs) : ∀ x ∈ p.toList.map (·.block), B ≤ x ∧ x < w.heap.size := by
  intro x hx
  cases p with
  | none => simp at hx
  | some a =>
    simp at hx
    subst hx
    exact World.ownsRow.lt h a.block rfl

theorem sep_new {g h0 h1 h2 h3 : Nat} {l : List Nat} {r : Raw} (hn : (g :: l).Nodup) (hl : ∀ x ∈ l, x < h0) (hg : g < h0) (ha : ∀ x ∈ r.a.p.toList.map (·.block), h0 ≤ x ∧ x < h1) (hk : ∀ x ∈ r.k.p.toList.map (·.block), h1 ≤ x ∧ x < h2) (hs : ∀ x ∈ r.s.p.toList.map (·.block), h2 ≤ x ∧ x < h3)
    (h01 : h0 ≤ h1) (h12 : h1 ≤ h2) (h23 : h2 ≤ h3) : (g :: (l ++ r.blocks)).Nodup ∧ ∀ x ∈ r.blocks, h0 ≤ x ∧ x < h3 := by
  have hb : ∀ x ∈ r.blocks, h0 ≤ x ∧ x < h3 := by
    intro x hx
    simp only [Raw.blocks, List.map_append, List.mem_append] at hx
    rcases hx with (hx | hx) | hx
    · have := ha x hx; omega
    · have := hk x hx; omega
    · have := hs x hx; omega
  refine ⟨?_, hb⟩
  rw [← List.cons_append, List.nodup_append]
  refine ⟨hn, ?_, ?_⟩
  · simp only [Raw.blocks, List.map_append]
    rw [List.nodup_append, List.nodup_append]
    have one : ∀ q : Option Addr, (q.toList.map (·.block)).Nodup := fun q => by cases q <;> simp
    refine ⟨⟨one _, one _, ?_⟩, one _, ?_⟩
    · intro x hx y hy e
      have := ha x hx; have := hk y hy; omega
    · intro x hx y hy e
      rw [List.mem_append] at hx
      have := hs y hy
      rcases hx with hx | hx
      · have := ha x hx; omega
      · have := hk x hx; omega
  · intro x hx y hy e
    have h1 := hb y hy
    rcases List.mem_cons.mp hx with rfl | hx
    · omega
    · have := hl x hx; omega
end Go.Proofs.Ytookcjdibpccpaa

/-
  THE WALK of dom.Own.
-/
namespace Go.Proofs.Ytookcjdibpccpaa
open Go.RowKit

/-- the copy under way -/
structure OwnUp (w : World) (B g c : Nat) (ts rs : List Raw) (d : Tn.Dc) (j : Nat) : Prop where
  tl : ts.length = j
  row : OwnN w B (.slice (some ⟨g, 0, none⟩) (ts ++ rs.drop j).length c) (ts ++ rs.drop j)
  nds : ∀ k (h : k < ts.length) (h' : k < d.length), OwnNd w B ts[k] d[k]
  sep : (g :: ts.flatMap Raw.blocks).Nodup
  low : ∀ x ∈ ts.flatMap Raw.blocks, x < w.heap.size

theorem OwnUp.half {w : World} {B g c j : Nat} {ts rs : List Raw} {d : Tn.Dc} (h : OwnUp w B g c ts rs d j) (hj : j < rs.length) : Half w B g c ts rs[j] (rs.drop (j + 1)) d := by
  have e : rs.drop j = rs[j] :: rs.drop (j + 1) := List.drop_eq_getElem_cons hj
  exact ⟨by rw [← e]; exact h.row, h.nds, h.sep, h.low⟩

theorem Half.up {w : World} {B g c j : Nat} {ts rs : List Raw} {r : Raw} {d : Tn.Dc} (h : Half w B g c ts r (rs.drop (j + 1)) d) (hj : ts.length = j) (hjd : j < d.length) (hn : OwnNd w B r d[j]) (hs : (g :: (ts.flatMap Raw.blocks ++ r.blocks)).Nodup) (hl : ∀ x ∈ r.blocks, x < w.heap.size) : OwnUp w B g c (ts ++ [r]) rs d (j + 1) := by
  have e : (ts ++ [r]) ++ rs.drop (j + 1) = ts ++ r :: rs.drop (j + 1) := by simp
  refine ⟨by simp [hj], by rw [e]; exact h.row, ?_, by simpa using hs, ?_⟩
  · intro k hk hk'
    by_cases hkt : k < ts.length
    · rw [List.getElem_append_left hkt]; exact h.nds k hkt hk'
    · have : k = j := by simp at hk; omega
      subst this
      subst hj
      simpa using hn
  · intro x hx
    simp only [List.flatMap_append, List.flatMap_cons, List.flatMap_nil, List.append_nil, List.mem_append] at hx
    rcases hx with hx | hx
    · exact h.low x hx
    · exact hl x hx

set_option maxHeartbeats 1600000 in
theorem down_any {w : World} {b o c : Nat} {rs : List Raw} {d : Tn.Dc} (hd : DocAt w b o c rs d) (h0 : 0 < rs.length) (hlen : d.length ≤ 1000) (hls : ∀ j s, (Tn.liD d j s).length ≤ 1000) (hal : ∀ k, (Tn.nd d k).attrs.length ≤ 1000) :
    Calls Try.prog 25 #[.slice (some ⟨b, o, none⟩) rs.length c] w fun e w' => ∃ g c' rs', e = .returned (.slice (some ⟨g, 0, none⟩) rs'.length c') ∧ OwnDoc w' w.heap.size g c' rs' d ∧ Below w.heap.size w w' := by
  have H : Hid (DocAt w b o c rs d) := hd
  have LN : Hid (rs.length = d.length) := hd.len
  have hlr : rs.length ≤ 1000 := by rw [LN.out]; exact hlen
  have RW : Hid (RowOf w b o rs) := hd.row
  have LA : Hid (∀ k (h : k < d.length), d[k].attrs.length ≤ 1000 ∧ d[k].kids.length ≤ 1000 ∧ d[k].shadow.length ≤ 1000) := by
    intro k hk
    have e : Tn.nd d k = d[k] := by simp [Tn.nd, hk]
    have h1 := hal k
    have h2 := hls k false
    have h3 := hls k true
    rw [e] at h1
    simp [Tn.liD, e] at h2 h3
    exact ⟨h1, h2, h3⟩
  clear hd hlen hls hal
  go_enter Try.func25, Try.ntmps25
  go_wp2_with (at_builtin; refine append_nodes (w0 := w) rfl _ _ rfl (rs := []) (ts := rs) rfl rfl (World.ownsRow_nil _ _ _ _) RW.out (Below.refl w.heap.size w) (Nat.le_refl _) (by simp; omega) ?_; intro v1 w1 o1 n1 _; rw [List.nil_append] at o1; obtain ⟨g, cc, rfl, e1, e2, e3, e4, e5, e6⟩ := own_at o1 h0)
  have hcM : cc ≤ 9223372036854775807 := by unfold maxLen at e2; omega
  clear e2 e5 e6
  go_loopw [10] (fun i wr => ∃ (j : Nat) (ts : List Raw), j ≤ rs.length ∧ i = .int .i64 j ∧ Hid (OwnUp wr w.heap.size g cc ts rs d j) ∧ Below w.heap.size w wr) (fun i _ => rs.length - (intOf i).toNat)
  case atStart => exact ⟨0, [], Nat.zero_le _, rfl, ⟨rfl, by simpa using o1, fun k hk => by simp at hk, by simp, fun x hx => by simp at hx⟩, n1⟩
  case round =>
    obtain ⟨j, ts, hj, rfl, U, hnx⟩ := hrel
    have hbz := hnx.size
    by_cases hlt : j < rs.length
    · have M : Hid (Half wr w.heap.size g cc ts rs[j] (rs.drop (j + 1)) d) := U.out.half hlt
      have TL : Hid (ts.length = j) := U.out.tl
      have hjd : j < d.length := by rw [← LN.out]; exact hlt
      have hN := (H.out.nds j hlt hjd).keeps (keeps_below hnx (Nat.le_refl _))
      have hLA := LA.out j hjd
      have ND : Hid (NdAt wr rs[j] d[j]) := hN
      have LO : Hid (∀ x ∈ ts.flatMap Raw.blocks, x < wr.heap.size) := U.out.low
      clear U hN
      generalize rs[j] = r at *
      generalize hDj : d[j] = nn at *
      have EJ : Hid (d[j] = nn) := hDj
      clear hDj
      obtain ⟨rl, rt, rx, ⟨ap, an, ac⟩, ru, ⟨kp, kn, kc⟩, rh, ⟨sp, sn, sc⟩, ri⟩ := r
      obtain ⟨m1, m2, c3, c5, c7, fz⟩ := M.out.at
      have AT := ND.out.attrs
      have KT := ND.out.kids
      have ST := ND.out.shadow
      rw [TL.out] at c3 c5 c7
      simp only at c3 c5 c7 AT KT ST
      have f3 := fz (j * 9 + 3)
      clear fz c5 c7
      go_upto_region 7 with (at_builtin; refine append_attrs (w0 := wr) rfl _ _ rfl rfl rfl (OwnA.nil _ wr.heap.size) AT (Below.refl _ _) (Nat.le_refl _) (by simp; omega) ?_; intro v2 w2 o2 n2 z2; rw [List.nil_append] at o2; obtain ⟨p2, q2, rfl⟩ := o2.shape; have c3' : w2.cell? ⟨g, j * 9 + 3, none⟩ = some (.slice ap an ac) := (n2.cell (p := ⟨g, j * 9 + 3, none⟩) m2).trans c3; have f3' : w2.frozen? ⟨g, j * 9 + 3, none⟩ = false := (n2.frozen (p := ⟨g, j * 9 + 3, none⟩) m2).trans f3)
      have M3 : Hid (Half (w2.setCell ⟨g, j * 9 + 3, none⟩ (.slice p2 nn.attrs.length q2)) w.heap.size g cc ts ⟨rl, rt, rx, ⟨p2, nn.attrs.length, q2⟩, ru, ⟨kp, kn, kc⟩, rh, ⟨sp, sn, sc⟩, ri⟩ (rs.drop (j + 1)) d) := by
        have := (M.out.below n2 (Nat.le_refl _)).set 3 (by decide) (.slice p2 nn.attrs.length q2) ⟨rl, rt, rx, ⟨p2, nn.attrs.length, q2⟩, ru, ⟨kp, kn, kc⟩, rh, ⟨sp, sn, sc⟩, ri⟩ rfl
        rw [TL.out] at this
        exact this
      have A3 : Hid (OwnA (w2.setCell ⟨g, j * 9 + 3, none⟩ (.slice p2 nn.attrs.length q2)) wr.heap.size (.slice p2 nn.attrs.length q2) nn.attrs) := ownsRow_setCell_below o2 (a := ⟨g, j * 9 + 3, none⟩) m2 _
      have K3 : IntsAt (w2.setCell ⟨g, j * 9 + 3, none⟩ (.slice p2 nn.attrs.length q2)) (.slice kp kn kc) nn.kids := ints_set (KT.keeps (keeps_below n2 (Nat.le_refl _))) c3' (fun k => by simp)
      have S3 : IntsAt (w2.setCell ⟨g, j * 9 + 3, none⟩ (.slice p2 nn.attrs.length q2)) (.slice sp sn sc) nn.shadow := ints_set (ST.keeps (keeps_below n2 (Nat.le_refl _))) c3' (fun k => by simp)
      have N3 : Below w.heap.size w (w2.setCell ⟨g, j * 9 + 3, none⟩ (.slice p2 nn.attrs.length q2)) := (hnx.trans (n2.mono hbz)).setCell (p := ⟨g, j * 9 + 3, none⟩) m1 _
      have Z3 : Hid (wr.heap.size ≤ (w2.setCell ⟨g, j * 9 + 3, none⟩ (.slice p2 nn.attrs.length q2)).heap.size) := by show _ ≤ _; simpa using z2
      clear KT ST AT c3 f3 c3' f3' o2 M n2 z2
      generalize w2.setCell ⟨g, j * 9 + 3, none⟩ (.slice p2 nn.attrs.length q2) = W3 at *
      obtain ⟨_, m3, _, c5, _, fz⟩ := M3.out.at
      rw [TL.out] at c5
      simp only at c5
      have f5 := fz (j * 9 + 5)
      clear fz
      go_upto_region 8 with (at_builtin; refine append_ints (w0 := W3) rfl _ _ rfl rfl rfl (OwnI.nil _ W3.heap.size) K3 (Below.refl _ _) (Nat.le_refl _) (by simp; omega) ?_; intro v4 w4 o4 n4 z4 _; rw [List.nil_append] at o4; obtain ⟨p4, q4, rfl⟩ := o4.shape; have c5' : w4.cell? ⟨g, j * 9 + 5, none⟩ = some (.slice kp kn kc) := (n4.cell (p := ⟨g, j * 9 + 5, none⟩) m3).trans c5; have f5' : w4.frozen? ⟨g, j * 9 + 5, none⟩ = false := (n4.frozen (p := ⟨g, j * 9 + 5, none⟩) m3).trans f5)
      have M5 : Hid (Half (w4.setCell ⟨g, j * 9 + 5, none⟩ (.slice p4 nn.kids.length q4)) w.heap.size g cc ts ⟨rl, rt, rx, ⟨p2, nn.attrs.length, q2⟩, ru, ⟨p4, nn.kids.length, q4⟩, rh, ⟨sp, sn, sc⟩, ri⟩ (rs.drop (j + 1)) d) := by
        have := (M3.out.below n4 (Nat.le_refl _)).set 5 (by decide) (.slice p4 nn.kids.length q4) ⟨rl, rt, rx, ⟨p2, nn.attrs.length, q2⟩, ru, ⟨p4, nn.kids.length, q4⟩, rh, ⟨sp, sn, sc⟩, ri⟩ rfl
        rw [TL.out] at this
        exact this
      have A5 : Hid (OwnA (w4.setCell ⟨g, j * 9 + 5, none⟩ (.slice p4 nn.kids.length q4)) wr.heap.size (.slice p2 nn.attrs.length q2) nn.attrs) := ownsRow_setCell_below (owns_below A3.out n4 (Nat.le_refl _)) (a := ⟨g, j * 9 + 5, none⟩) m2 _
      have R3 : Hid (∀ x ∈ p2.toList.map (·.block), wr.heap.size ≤ x ∧ x < W3.heap.size) := sl_range A3.out
      have K5 : Hid (OwnI (w4.setCell ⟨g, j * 9 + 5, none⟩ (.slice p4 nn.kids.length q4)) W3.heap.size (.slice p4 nn.kids.length q4) nn.kids) := ownsRow_setCell_below o4 (a := ⟨g, j * 9 + 5, none⟩) m3 _
      have S5 : IntsAt (w4.setCell ⟨g, j * 9 + 5, none⟩ (.slice p4 nn.kids.length q4)) (.slice sp sn sc) nn.shadow := ints_set (S3.keeps (keeps_below n4 (Nat.le_refl _))) c5' (fun k => by simp)
      have N5 : Below w.heap.size w (w4.setCell ⟨g, j * 9 + 5, none⟩ (.slice p4 nn.kids.length q4)) := (N3.trans (n4.mono N3.size)).setCell (p := ⟨g, j * 9 + 5, none⟩) m1 _
      have Z5 : Hid (W3.heap.size ≤ (w4.setCell ⟨g, j * 9 + 5, none⟩ (.slice p4 nn.kids.length q4)).heap.size) := by show _ ≤ _; simpa using z4
      clear K3 S3 c5 f5 c5' f5' o4 M3 n4 z4 A3
      generalize w4.setCell ⟨g, j * 9 + 5, none⟩ (.slice p4 nn.kids.length q4) = W5 at *
      obtain ⟨_, m5, _, _, c7, fz⟩ := M5.out.at
      rw [TL.out] at c7
      simp only at c7
      have f7 := fz (j * 9 + 7)
      clear fz
      go_wp2_with (at_builtin; refine append_ints (w0 := W5) rfl _ _ rfl rfl rfl (OwnI.nil _ W5.heap.size) S5 (Below.refl _ _) (Nat.le_refl _) (by simp; omega) ?_; intro v6 w6 o6 n6 z6 _; rw [List.nil_append] at o6; obtain ⟨p6, q6, rfl⟩ := o6.shape; have c7' : w6.cell? ⟨g, j * 9 + 7, none⟩ = some (.slice sp sn sc) := (n6.cell (p := ⟨g, j * 9 + 7, none⟩) m5).trans c7; have f7' : w6.frozen? ⟨g, j * 9 + 7, none⟩ = false := (n6.frozen (p := ⟨g, j * 9 + 7, none⟩) m5).trans f7)
      have M7 : Hid (Half (w6.setCell ⟨g, j * 9 + 7, none⟩ (.slice p6 nn.shadow.length q6)) w.heap.size g cc ts ⟨rl, rt, rx, ⟨p2, nn.attrs.length, q2⟩, ru, ⟨p4, nn.kids.length, q4⟩, rh, ⟨p6, nn.shadow.length, q6⟩, ri⟩ (rs.drop (j + 1)) d) := by
        have := (M5.out.below n6 (Nat.le_refl _)).set 7 (by decide) (.slice p6 nn.shadow.length q6) ⟨rl, rt, rx, ⟨p2, nn.attrs.length, q2⟩, ru, ⟨p4, nn.kids.length, q4⟩, rh, ⟨p6, nn.shadow.length, q6⟩, ri⟩ rfl
        rw [TL.out] at this
        exact this
      have A7 : OwnA (w6.setCell ⟨g, j * 9 + 7, none⟩ (.slice p6 nn.shadow.length q6)) wr.heap.size (.slice p2 nn.attrs.length q2) nn.attrs := ownsRow_setCell_below (owns_below A5.out n6 (Nat.le_refl _)) (a := ⟨g, j * 9 + 7, none⟩) m2 _
      have K7 : OwnI (w6.setCell ⟨g, j * 9 + 7, none⟩ (.slice p6 nn.shadow.length q6)) W3.heap.size (.slice p4 nn.kids.length q4) nn.kids := ownsRow_setCell_below (owns_below K5.out n6 (Nat.le_refl _)) (a := ⟨g, j * 9 + 7, none⟩) m3 _
      have S7 : OwnI (w6.setCell ⟨g, j * 9 + 7, none⟩ (.slice p6 nn.shadow.length q6)) W5.heap.size (.slice p6 nn.shadow.length q6) nn.shadow := ownsRow_setCell_below o6 (a := ⟨g, j * 9 + 7, none⟩) m5 _
      have R5 : ∀ x ∈ p4.toList.map (·.block), W3.heap.size ≤ x ∧ x < W5.heap.size := sl_range K5.out
      have N7 : Below w.heap.size w (w6.setCell ⟨g, j * 9 + 7, none⟩ (.slice p6 nn.shadow.length q6)) := (N5.trans (n6.mono N5.size)).setCell (p := ⟨g, j * 9 + 7, none⟩) m1 _
      have Z7 : W5.heap.size ≤ (w6.setCell ⟨g, j * 9 + 7, none⟩ (.slice p6 nn.shadow.length q6)).heap.size := by simpa using z6
      have R7 : ∀ x ∈ p6.toList.map (·.block), W5.heap.size ≤ x ∧ x < (w6.setCell ⟨g, j * 9 + 7, none⟩ (.slice p6 nn.shadow.length q6)).heap.size := sl_range S7
      have b3 := N3.size
      have b5 := N5.size
      have UP : Hid (OwnUp (w6.setCell ⟨g, j * 9 + 7, none⟩ (.slice p6 nn.shadow.length q6)) w.heap.size g cc (ts ++ [⟨rl, rt, rx, ⟨p2, nn.attrs.length, q2⟩, ru, ⟨p4, nn.kids.length, q4⟩, rh, ⟨p6, nn.shadow.length, q6⟩, ri⟩]) rs d (j + 1)) := by
        have hsn := sep_new (r := ⟨rl, rt, rx, ⟨p2, nn.attrs.length, q2⟩, ru, ⟨p4, nn.kids.length, q4⟩, rh, ⟨p6, nn.shadow.length, q6⟩, ri⟩) M7.out.sep LO.out m2 R3.out R5 R7 Z3.out Z5.out Z7
        refine M7.out.up TL.out hjd ?_ hsn.1 (fun x hx => (hsn.2 x hx).2)
        rw [EJ.out]
        exact ⟨ND.out.live, ND.out.tag, ND.out.text, ND.out.up, ND.out.hasS, ND.out.inS, owns_low A7 hbz, owns_low K7 b3, owns_low S7 b5⟩
      clear M7 A7 K7 S7 R7 M5 A5 K5 S5 c7 f7
      go_roundw
      case rel => exact ⟨j + 1, _, by omega, by go_num, UP, N7⟩
      case measure => simp [intOf]; omega
    · obtain rfl : j = rs.length := by omega
      have V := U.out
      have hts : ts.length = rs.length := V.tl
      have hrow := V.row
      rw [List.drop_length, List.append_nil] at hrow
      rw [← hts]
      go_wp2_with fail
      go_ret
      exact ⟨g, cc, ts, rfl, ⟨hrow, hts.trans LN.out, V.nds, V.sep, V.low⟩, hnx⟩
end Go.Proofs.Ytookcjdibpccpaa

/-
  THE WALK of the function in flat.Shown that calls itself.
-/
namespace Go.Proofs.Ytookcjdibpccpaa
open Go.RowKit

/-- all blocks that there were are as they were, but for A and r; the row lies in r still, or in a block that was not there -/
structure Mv (A : Nat) (r r' : Option Nat) (w w' : World) : Prop where
  os : w'.os = w.os
  tape : w'.tape = w.tape
  output : w'.output = w.output
  size : w.heap.size ≤ w'.heap.size
  block : ∀ k, k < w.heap.size → k ≠ A → some k ≠ r → w'.heap[k]? = w.heap[k]?
  own : r' = r ∨ ∃ g, w.heap.size ≤ g ∧ r' = some g

theorem Mv.refl (A : Nat) (r : Option Nat) (w : World) : Mv A r r w w := ⟨rfl, rfl, rfl, Nat.le_refl _, fun _ _ _ _ => rfl, Or.inl rfl⟩
theorem Mv.trans {A : Nat} {r r' r'' : Option Nat} {a b c : World} (h : Mv A r r' a b) (k : Mv A r' r'' b c) : Mv A r r'' a c := by
  refine ⟨k.os.trans h.os, k.tape.trans h.tape, k.output.trans h.output, Nat.le_trans h.size k.size, fun i hi hA hr => ?_, ?_⟩
  · rw [k.block i (Nat.lt_of_lt_of_le hi h.size) hA ?_, h.block i hi hA hr]
    rcases h.own with e | ⟨g, hg, e⟩
    · rw [e]; exact hr
    · rw [e]
      intro x
      cases x
      omega
  · rcases k.own with e | ⟨g, hg, e⟩
    · rw [e]
      exact h.own
    · exact Or.inr ⟨g, Nat.le_trans h.size hg, e⟩
theorem Mv.below {A : Nat} {r r' : Option Nat} {a b c : World} (h : Mv A r r' a b) (k : Below b.heap.size b c) : Mv A r r' a c :=
  ⟨k.os.trans h.os, k.tape.trans h.tape, k.output.trans h.output, Nat.le_trans h.size k.size, fun i hi hA hr => (k.block i (Nat.lt_of_lt_of_le hi h.size)).trans (h.block i hi hA hr), h.own⟩
theorem Mv.drew {A : Nat} {r r' : Option Nat} {a b : World} (h : Mv A r r' a b) : Mv A r r' a b.drew := ⟨h.os, h.tape, h.output, h.size, h.block, h.own⟩
theorem Mv.set {A : Nat} {r r' : Option Nat} {a b : World} (h : Mv A r r' a b) (u : Value) : Mv A r r' a (b.setCell ⟨A, 0, none⟩ u) := by
  have hb := (Below.refl 0 b).setCell (p := ⟨A, 0, none⟩) (Nat.zero_le _) u
  exact ⟨hb.os.trans h.os, hb.tape.trans h.tape, hb.output.trans h.output, Nat.le_trans h.size hb.size, fun i hi hn hr => by rw [heap_setCell_other _ _ _ _ hn]; exact h.block i hi hn hr, h.own⟩
theorem Mv.cell {A : Nat} {r r' : Option Nat} {w w' : World} (h : Mv A r r' w w') {p : Addr} {v : Value} (hv : w.cell? p = some v) (hp : p.block ≠ A) (hr : some p.block ≠ r) : w'.cell? p = some v := by
  have hl := lt_of_cell hv
  rw [← hv]
  exact World.cell?_of_block (h.block p.block hl hp hr)
theorem Mv.but {A : Nat} {r r' : Option Nat} {w w' : World} (h : Mv A r r' w w') {B : Nat} (hB : B ≤ w.heap.size) (hr : ∀ k, r = some k → B ≤ k) : But B A w w' :=
  ⟨h.os, h.tape, h.output, h.size, fun i hi hA => h.block i (by omega) hA (fun e => by have := hr i e.symm; omega)⟩

/-- what is shown below n ends within f calls -/
def EndF : Nat → Tn.Dc → Nat → Prop
  | 0, _, _ => False
  | f + 1, d, n => ∀ k ∈ kidsD d (n : Int), EndF f d k

end Go.Proofs.Ytookcjdibpccpaa

/-
  THE WALK of flat.Shown.
-/
namespace Go.Proofs.Ytookcjdibpccpaa
open Go.RowKit

end Go.Proofs.Ytookcjdibpccpaa

/-
  PLAIN MATHEMATICS: what the walks ask of a document holds of each that was built; documents without shadow trees.
-/
namespace Go.Proofs.Ytookcjdibpccpaa
open Tn

theorem path_live (d : Dc) : ∀ (f : Nat) (n : Int), ∀ k ∈ path f d n, lvD d k = true
  | 0, _, k, h => by simp [path] at h
  | f + 1, n, k, h => by
    rw [path] at h
    split at h
    · rename_i hn
      obtain ⟨m, rfl, _, hl⟩ := isN_nat hn
      rcases List.mem_cons.mp h with h | h
      · rw [h, Int.toNat_natCast]
        exact hl
      · exact path_live d f _ k h
    · simp at h

theorem scopeL_live {d : Dc} (h : Tn.Good d) (hf : ∀ j, Fit j (nd d j)) : ∀ l : List Nat, (∀ k ∈ l, lvD d k = true) → ∃ s : Nat, scopeL d l = (s : Int) ∧ lvD d s = true
  | [], _ => by
    obtain ⟨r, hr, _⟩ := h.tr
    exact ⟨0, rfl, hr.1.root⟩
  | k :: l, hl => by
    obtain ⟨r, hr, _⟩ := h.tr
    rw [scopeL]
    split
    · rename_i hi
      have hk := hl k (by simp)
      have h0 : 0 < k := by
        apply Classical.byContradiction
        intro hn
        have hk0 : k = 0 := by omega
        have := ((hf k).root hk0).2.2
        rw [hi] at this
        cases this
      have h1 := hr.2 k h0 hk
      exact ⟨(nd d k).up.toNat, by omega, hr.1.upLive h0 hk⟩
    · exact scopeL_live h hf l (fun x hx => hl x (by simp [hx]))

theorem okd_of {d : Dc} (h : Tn.Good d) (hf : ∀ j, Fit j (nd d j)) : Okd d := by
  obtain ⟨r, hr, _⟩ := h.tr
  exact ⟨tame_good h, fun j s => Nat.le_trans (h.small j s) (by decide), fun k => (hf k).rise, fun k => Nat.le_trans (h.attrs k) (by decide), hr.1.root, fun k _ => scopeL_live h hf _ (path_live d _ _)⟩

theorem build_okd (l : List Chg) : Okd (Tn.build l) := okd_of (build_good l) (build_fit l)

def endB : Nat → Dc → Nat → Bool
  | 0, _, _ => false
  | f + 1, d, n => (kidsD d (n : Int)).all (endB f d)
theorem endB_end (d : Dc) : ∀ (f n : Nat), endB f d n = true → EndF f d n
  | 0, _, h => by simp [endB] at h
  | f + 1, n, h => fun k hk => endB_end d f k (List.all_eq_true.mp h k hk)

/-- without shadow trees: no node goes to a slot, each shows what it has -/
theorem plain_slot {d : Dc} (hs : ∀ j, (nd d j).hasS = false) (n : Int) : slotD d n = -1 := by
  unfold slotD
  rw [if_neg]
  unfold slottedD
  simp [hs]
theorem plain_given {d : Dc} (hs : ∀ j, (nd d j).hasS = false) (n : Nat) : givenD d (n : Int) = [] := by
  unfold givenD
  split
  · rw [List.filter_eq_nil_iff]
    intro a _
    rw [plain_slot hs]
    simp
  · rfl
theorem plain_kids {d : Dc} (hs : ∀ j, (nd d j).hasS = false) {n : Nat} (hn : isN d (n : Int) false = true) : kidsD d (n : Int) = (nd d n).kids := by
  unfold kidsD
  rw [if_pos hn, Int.toNat_natCast, hs n, plain_given hs]
  rfl
theorem plain_shown {d : Dc} (hs : ∀ j, (nd d j).hasS = false) (hz : ∀ j, (nd d j).shadow = []) {r : Nat → Nat} (hr : TrD d r) : ∀ (f n : Nat), lvD d n = true → shownF f d n = all f d n
  | 0, _, _ => rfl
  | f + 1, n, hn => by
    have hi : isN d (n : Int) false = true := by rw [isN_iff]; exact hn
    rw [shownF, all, if_pos hi, plain_kids hs hi, hz n]
    simp only [List.flatMap_nil, List.nil_append]
    congr 1
    rw [List.flatMap_def, List.flatMap_def]
    congr 1
    refine List.map_congr_left fun k hk => plain_shown hs hz hr f k ?_
    exact (hr.1.mem n false k hk).2.1
theorem plain_end {d : Dc} (hs : ∀ j, (nd d j).hasS = false) {r : Nat → Nat} (hr : TrD d r) : ∀ (f n : Nat), lvD d n = true → Tn.Ends f d n → EndF f d n
  | 0, _, _, h => h
  | f + 1, n, hn, h => by
    have hi : isN d (n : Int) false = true := by rw [isN_iff]; exact hn
    intro k hk
    rw [plain_kids hs hi] at hk
    exact plain_end hs hr f k (hr.1.mem n false k hk).2.1 (h.2.2 k hk)
end Go.Proofs.Ytookcjdibpccpaa

/-
  PLAIN MATHEMATICS: what is shown is shown once; each node in one other, that stands ahead of it.
-/
namespace Go.Proofs.Ytookcjdibpccpaa
open Tn

/-- more steps tell no more -/
theorem all_more (d : Dc) : ∀ (f n g : Nat), Tn.Ends f d n → f ≤ g → all g d n = all f d n
  | 0, _, _, h, _ => absurd h (by simp [Tn.Ends])
  | f + 1, n, 0, _, hg => by omega
  | f + 1, n, g + 1, h, hg => by
    rw [all, all]
    split
    · congr 1
      have e : ∀ l : List Nat, (∀ k ∈ l, Tn.Ends f d k) → l.flatMap (all g d) = l.flatMap (all f d) := by
        intro l hl
        rw [List.flatMap_def, List.flatMap_def]
        congr 1
        exact List.map_congr_left fun k hk => all_more d f k g (hl k hk) (by omega)
      rw [e _ h.2.1, e _ h.2.2]
    · rfl

/-- a document as it is built -/
structure Fine (d : Dc) : Prop where
  good : Tn.Good d
  fit : ∀ j, Fit j (nd d j)

theorem build_fine (l : List Chg) : Fine (Tn.build l) := ⟨build_good l, build_fit l⟩
theorem Fine.okd {d : Dc} (h : Fine d) : Okd d := okd_of h.good h.fit

/-- all that is in n -/
def allD (d : Dc) (n : Nat) : List Nat := all fuel d n

theorem all_step {d : Dc} {g n : Nat} (hi : isN d (n : Int) false = true) (hE : ∀ s, ∀ k ∈ liD d n s, Tn.Ends g d k) : all (g + 1) d n = n :: ((nd d n).shadow.flatMap (all (g + 1) d) ++ (nd d n).kids.flatMap (all (g + 1) d)) := by
  have e : ∀ l : List Nat, (∀ k ∈ l, Tn.Ends g d k) → l.flatMap (all (g + 1) d) = l.flatMap (all g d) := by
    intro l hl
    rw [List.flatMap_def, List.flatMap_def]
    congr 1
    exact List.map_congr_left fun k hk => all_more d g k (g + 1) (hl k hk) (by omega)
  rw [e (nd d n).shadow (hE true), e (nd d n).kids (hE false), all, if_pos hi]

theorem allD_eq {d : Dc} (h : Fine d) {n : Nat} (hn : lvD d n = true) : allD d n = n :: ((nd d n).shadow.flatMap (allD d) ++ (nd d n).kids.flatMap (allD d)) := by
  obtain ⟨r, hr, hR⟩ := h.good.tr
  have hi : isN d (n : Int) false = true := by rw [isN_iff]; exact hn
  exact all_step (g := 63) hi (fun s k hk => ends_of hr hR 63 k (hr.1.mem n s k hk).2.1 (by omega))

theorem sub_flat {g : Nat → List Nat} : ∀ {l : List Nat} {k : Nat}, k ∈ l → (g k).Sublist (l.flatMap g)
  | a :: l, k, h => by
    rw [List.flatMap_cons]
    rcases List.mem_cons.mp h with rfl | h
    · exact List.sublist_append_left _ _
    · exact (sub_flat h).trans (List.sublist_append_right _ _)

theorem allD_self {d : Dc} (h : Fine d) {n : Nat} (hn : lvD d n = true) : n ∈ allD d n := by rw [allD_eq h hn]; simp

/-- what is in n's list s is in n, behind n -/
theorem sub_child {d : Dc} (h : Fine d) {n k : Nat} {s : Bool} (hk : k ∈ liD d n s) : (n :: allD d k).Sublist (allD d n) := by
  obtain ⟨r, hr, _⟩ := h.good.tr
  obtain ⟨hn, hkl, _⟩ := hr.1.mem n s k hk
  rw [allD_eq h hn]
  refine List.Sublist.cons_cons _ ?_
  cases s with
  | true => exact (sub_flat (l := (nd d n).shadow) hk).trans (List.sublist_append_left _ _)
  | false => exact (sub_flat (l := (nd d n).kids) hk).trans (List.sublist_append_right _ _)

theorem sub_root {d : Dc} (h : Fine d) {r : Nat → Nat} (hr : TrD d r) : ∀ (i n : Nat), r n = i → lvD d n = true → (allD d n).Sublist (allD d 0) := by
  intro i
  induction i with
  | zero =>
    intro n hi hn
    have h0 : n = 0 := by
      apply Classical.byContradiction
      intro hne
      have := hr.1.rank n (by omega) hn
      omega
    rw [h0]
    exact List.Sublist.refl _
  | succ i ih =>
    intro n hi hn
    have h0 : 0 < n := hr.1.pos (by omega)
    have h1 := hr.1.rank n h0 hn
    have hu := hr.1.upLive h0 hn
    exact ((List.sublist_cons_self _ _).trans (sub_child h (hr.1.par n h0 hn))).trans (ih _ (by omega) hu)

theorem allD_nodup {d : Dc} (h : Fine d) {n : Nat} (hn : lvD d n = true) : (allD d n).Nodup := by
  obtain ⟨r, hr, _⟩ := h.good.tr
  exact all_nodup hr fuel n hn

/-- the first node on the way up that is in a shadow tree -/
theorem scope_cases {d : Dc} {r : Nat → Nat} (hr : TrD d r) : ∀ l : List Nat, scopeL d l = 0 ∨ ∃ x ∈ l, (nd d x).inS = true ∧ scopeL d l = (nd d x).up
  | [] => Or.inl rfl
  | k :: l => by
    rw [scopeL]
    split
    · rename_i hi
      exact Or.inr ⟨k, by simp, hi, rfl⟩
    · rcases scope_cases hr l with e | ⟨x, hx, h1, h2⟩
      · exact Or.inl e
      · exact Or.inr ⟨x, by simp [hx], h1, h2⟩

/-- of what is in the element host, but not in its shadow tree, nothing is of its scope -/
theorem scope_out {d : Dc} (h : Fine d) {host p : Nat} (hh : lvD d host = true) (hs : (nd d host).hasS = true) (hp : lvD d p = true) (hsc : scopeD d (p : Int) = (host : Int)) : p ∉ host :: (nd d host).kids.flatMap (allD d) := by
  obtain ⟨r, hr, hR⟩ := h.good.tr
  have h0 : host ≠ 0 := by
    rintro rfl
    have := ((h.fit 0).root rfl).1
    rw [hs] at this
    cases this
  unfold scopeD pathOf at hsc
  rw [path_anc hr (d.length + 1) p hp (by have := rank_lt hr hp; omega) h.good.rootUp] at hsc
  rcases scope_cases hr ((List.range (r p + 1)).map fun i => anc (upD d) i p) with e | ⟨x, hx, hin, e⟩
  · rw [e] at hsc
    omega
  · rw [e] at hsc
    obtain ⟨i, hi, rfl⟩ := List.mem_map.mp hx
    have hi' : i ≤ r p := by have := List.mem_range.mp hi; omega
    obtain ⟨hxl, hxr⟩ := hr.1.anc i p hp hi'
    have hx0 : 0 < anc (upD d) i p := by
      apply Classical.byContradiction
      intro hn
      have := ((h.fit (anc (upD d) i p)).root (by omega)).2.2
      rw [hin] at this
      cases this
    have hup : upD d (anc (upD d) i p) = host := by
      show (nd d (anc (upD d) i p)).up.toNat = host
      rw [hsc]
      simp
    have hrx := hr.1.rank _ hx0 hxl
    rw [hup] at hrx
    intro hm
    rcases List.mem_cons.mp hm with rfl | hm
    · omega
    · obtain ⟨c, hc, hpc⟩ := List.mem_flatMap.mp hm
      obtain ⟨_, hcl, hc0, hcu, hci⟩ := hr.1.mem host false c hc
      have hrc := hr.1.rank c hc0 hcl
      rw [hcu] at hrc
      obtain ⟨_, hde⟩ := all_desc hr fuel c p hpc hcl
      obtain ⟨h1, h2⟩ := hde
      have : r p - r c = i := by omega
      rw [this] at h2
      rw [h2] at hin
      have : insD d c = (nd d c).inS := rfl
      rw [hci] at this
      rw [← this] at hin
      cases hin

theorem find_skip {p : Nat → Bool} {a b : List Nat} (h : ∀ x ∈ a, p x = false) : (a ++ b).find? p = b.find? p := by
  rw [List.find?_append]
  have : a.find? p = none := List.find?_eq_none.mpr (fun x hx => by simp [h x hx])
  rw [this]
  rfl
theorem find_drop {p : Nat → Bool} {a b : List Nat} (h : ∀ x ∈ b, p x = false) : (a ++ b).find? p = a.find? p := by
  rw [List.find?_append]
  have : b.find? p = none := List.find?_eq_none.mpr (fun x hx => by simp [h x hx])
  rw [this]
  cases a.find? p <;> rfl

theorem allD_live {d : Dc} (h : Fine d) {n x : Nat} (hn : lvD d n = true) (hx : x ∈ allD d n) : lvD d x = true := by
  obtain ⟨r, hr, _⟩ := h.good.tr
  exact (all_desc hr fuel n x hx hn).1

/-- the slot is looked for in the shadow tree alone -/
theorem slot_shadow {d : Dc} (h : Fine d) {host : Nat} (hh : lvD d host = true) (hs : (nd d host).hasS = true) (want : ByteArray) :
    (allD d host).find? (fitsD d want (host : Int)) = ((nd d host).shadow.flatMap (allD d)).find? (fitsD d want (host : Int)) := by
  obtain ⟨r, hr, _⟩ := h.good.tr
  have hno : ∀ x, lvD d x = true → x ∈ host :: (nd d host).kids.flatMap (allD d) → fitsD d want (host : Int) x = false := by
    intro x hx hm
    cases hf : fitsD d want (host : Int) x with
    | false => rfl
    | true =>
      unfold fitsD at hf
      simp only [Bool.and_eq_true] at hf
      have : scopeD d (x : Int) = (host : Int) := by simpa using hf.2
      exact absurd hm (scope_out h hh hs hx this)
  rw [allD_eq h hh, ← List.singleton_append, find_skip, find_drop]
  · intro x hx
    obtain ⟨c, hc, hxc⟩ := List.mem_flatMap.mp hx
    exact hno x (allD_live h (hr.1.mem host false c hc).2.1 hxc) (by simp [hx])
  · intro x hx
    rw [List.mem_singleton.mp hx]
    exact hno host hh (by simp)
end Go.Proofs.Ytookcjdibpccpaa
