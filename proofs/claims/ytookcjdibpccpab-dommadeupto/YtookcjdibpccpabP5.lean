/-
  OWN WORK: Dal2, Dfi, Dfi2, Dow, Dow2, Dow3, Sta, Fmo.
-/
import Derived.Test.YtookcjdibpccpabP4
import Derived.Test.YtookcjdibpccpabP3
/-
  THE WALK of dom.All.
-/
namespace Go.Proofs.Ytookcjdibpccpab
open Go.RowKit

theorem blk_alloc {w : World} {g : Nat} {x : Obj} (h : w.heap[g]? = some x) (o : Obj) : (w.alloc o).heap[g]? = some x := by
  have hlt : g < w.heap.size := by
    apply Classical.byContradiction
    intro hn
    rw [Array.getElem?_eq_none (by omega)] at h
    cases h
  rw [heap_alloc_old w o hlt]
  exact h
theorem blk_new (w : World) (o : Obj) {n : Nat} (hn : w.heap.size = n) : (w.alloc o).heap[n]? = some o := by
  rw [← hn]
  exact heap_alloc_new w o

set_option maxHeartbeats 800000 in
theorem dall_any {w : World} {b o c : Nat} {rs : List Raw} {d : Tn.Dc} (hd : DocAt w b o c rs d) (hg : Tame d) (hls : ∀ j s, (Tn.liD d j s).length ≤ 1000) (n : Nat) (hn : Tn.lvD d n = true) :
    Calls Try.prog 31 #[.slice (some ⟨b, o, none⟩) rs.length c, .int .i64 (n : Int)] w fun e w' => ∃ v, e = .returned v ∧ OwnI w' w.heap.size v (Tn.all Tn.fuel d n) ∧ Below w.heap.size w w' := by
  have h0 : 0 < rs.length := by rw [hd.len]; exact hg.len.1
  have hoff : DocOff (w.heap.size + 1) b rs := doc_old hd h0 (by omega)
  have hst : ∀ (W : World) (a : Addr) (fn : Fn) (x y : Array Value), Sem.run Try.prog (store a (.func fn x y)) W = stored Try.prog W a (.func fn x y) .plain := fun W a fn x y => run_store Try.prog W a (.func fn x y) .plain rfl
  have hfew := hg.few Tn.fuel n
  have hlen := hg.len.2
  have hC : Calls Try.prog 54 #[.slice (some ⟨w.heap.size + 1 + 1 + 1, 0, none⟩) 1 1, .pointer (some ⟨w.heap.size, 0, none⟩), .pointer (some ⟨w.heap.size + 1, 0, none⟩), .pointer (some ⟨w.heap.size + 1 + 1, 0, none⟩)]
      ((((w.alloc (.cells #[.slice (some ⟨b, o, none⟩) rs.length c] 25)).alloc (.cells #[.slice none 0 0] 38)).alloc (.cells #[.func (.func 54) #[] #[.pointer (some ⟨w.heap.size, 0, none⟩), .pointer (some ⟨w.heap.size + 1, 0, none⟩), .pointer (some ⟨w.heap.size + 1 + 1, 0, none⟩)]] 65)).alloc (.cells #[.int .i64 (n : Int)] 3))
      fun e w' => e = .returned (.tuple #[]) ∧ Below w.heap.size w w' ∧ ∃ va', w'.cell? ⟨w.heap.size + 1, 0, none⟩ = some va' ∧ OwnI w' w.heap.size va' (Tn.all Tn.fuel d n) := by
    generalize hf67 : (Obj.cells #[.func (.func 54) #[] #[.pointer (some ⟨w.heap.size, 0, none⟩), .pointer (some ⟨w.heap.size + 1, 0, none⟩), .pointer (some ⟨w.heap.size + 1 + 1, 0, none⟩)]] 65) = o3
    have z1 : (w.alloc (.cells #[.slice (some ⟨b, o, none⟩) rs.length c] 25)).heap.size = w.heap.size + 1 := by simp
    have b1 := heap_alloc_new w (.cells #[.slice (some ⟨b, o, none⟩) rs.length c] 25)
    have B1 := (Below.refl w.heap.size w).alloc (Nat.le_refl _) (.cells #[.slice (some ⟨b, o, none⟩) rs.length c] 25)
    generalize w.alloc (.cells #[.slice (some ⟨b, o, none⟩) rs.length c] 25) = w1 at *
    have z2 : (w1.alloc (.cells #[.slice none 0 0] 38)).heap.size = w.heap.size + 2 := by simp [z1]
    have b2 := blk_new w1 (.cells #[.slice none 0 0] 38) z1
    have b12 := blk_alloc b1 (.cells #[.slice none 0 0] 38)
    have B2 := B1.alloc (by omega) (.cells #[.slice none 0 0] 38)
    generalize w1.alloc (.cells #[.slice none 0 0] 38) = w2 at *
    have z3 : (w2.alloc o3).heap.size = w.heap.size + 3 := by simp [z2]
    have b3 := blk_new w2 o3 z2
    have b23 := blk_alloc b2 o3
    have b13 := blk_alloc b12 o3
    have B3 := B2.alloc (by omega) o3
    generalize w2.alloc o3 = w3 at *
    have z4 : (w3.alloc (.cells #[.int .i64 (n : Int)] 3)).heap.size = w.heap.size + 4 := by simp [z3]
    have b4 := blk_new w3 (.cells #[.int .i64 (n : Int)] 3) z3
    have b34 := blk_alloc b3 (.cells #[.int .i64 (n : Int)] 3)
    have b24 := blk_alloc b23 (.cells #[.int .i64 (n : Int)] 3)
    have b14 := blk_alloc b13 (.cells #[.int .i64 (n : Int)] 3)
    have B4 := B3.alloc (by omega) (.cells #[.int .i64 (n : Int)] 3)
    generalize w3.alloc (.cells #[.int .i64 (n : Int)] 3) = w4 at *
    subst hf67
    have hd4 := hd.keeps (keeps_below B4 (Nat.le_refl _))
    refine (all1_any (w0 := w4) (D := w.heap.size) (A := w.heap.size + 1) (K := w.heap.size + 1 + 1) (B := w.heap.size + 4) z4 hd4 hoff (by omega) (by omega) (by omega) (by omega) (by omega) hls Tn.fuel (some ⟨w.heap.size + 1 + 1 + 1, 0, none⟩) 1 [n] [] (.slice none 0 0) w4 ?_ (by simp) ?_ (But.refl _ _ _) ?_ ?_).mono ?_
    · intro j hj
      have hj0 : j = 0 := by simp at hj; omega
      subst hj0
      exact ⟨_, 0, rfl, by omega, by simp [World.cell?, b4]⟩
    · intro k hk
      simp at hk
      subst hk
      exact hg.ends _ hn
    · exact ⟨by simp [World.cell?, b14], by simp [World.cell?, b34], by simp [World.cell?, b24], by simp [World.frozen?, b24], OwnI.nil _ _⟩
    · simp
      omega
    · rintro e w' ⟨rfl, hbut, va', V⟩
      refine ⟨rfl, B4.trans (hbut.below (by omega) (by omega)), va', V.a, ?_⟩
      have := V.own
      simp only [List.nil_append, List.flatMap_cons, List.flatMap_nil, List.append_nil] at this
      obtain ⟨q1, q2⟩ := this
      refine ⟨q1, ?_⟩
      rcases q2 with q2 | ⟨g, cap, cur, e, q3, q4⟩
      · exact Or.inl q2
      · exact Or.inr ⟨g, cap, cur, e, by omega, q4⟩
  clear hd hoff
  go_enter Try.func31, Try.ntmps31
  go_wp2_with (go_at_call 54; refine hC.mono ?_; rintro e w9 ⟨rfl, hb9, va9, hc9, ho9⟩)
  go_ret
  exact ⟨_, rfl, ho9, hb9⟩
end Go.Proofs.Ytookcjdibpccpab

/-
  THE WALKS of dom.Find: its own function, the search, and itself.
-/
namespace Go.Proofs.Ytookcjdibpccpab
open Go.RowKit

set_option maxHeartbeats 800000 in
theorem dattr_no {w : World} {b o c : Nat} {rs : List Raw} {d : Tn.Dc} (hd : DocAt w b o c rs d) (n : Int) (hn : Tn.isN d n true = false) (name : ByteArray) :
    Calls Try.prog 29 #[.slice (some ⟨b, o, none⟩) rs.length c, .int .i64 n, .string name] w fun e w' => e = .returned (.tuple #[.string ⟨#[]⟩, .bool false]) ∧ w' = w := by
  have H : Hid (DocAt w b o c rs d) := hd
  clear hd
  go_enter Try.func29, Try.ntmps29
  go_wp2_with (go_at_call 10; refine (dis_any H.out _ _).mono ?_; rintro e w' ⟨rfl, hww⟩; subst hww; rw [hn])
  go_ret2
  exact ⟨rfl, rfl⟩

def idT : ByteArray := ⟨#[105, 100]⟩
/-- the attribute id of a node -/
def idOf (d : Tn.Dc) (k : Nat) : Option ByteArray := if Tn.isN d (k : Int) true then Tn.attrOf (Tn.nd d k).attrs idT else none

theorem dattr_id {w : World} {b o c : Nat} {rs : List Raw} {d : Tn.Dc} (hd : DocAt w b o c rs d) (n : Nat) (hr : Rising (Tn.nd d n).attrs) (hal : (Tn.nd d n).attrs.length ≤ 1000) :
    Calls Try.prog 29 #[.slice (some ⟨b, o, none⟩) rs.length c, .int .i64 (n : Int), .string ⟨#[105, 100]⟩] w fun e w' =>
      e = .returned (.tuple #[.string ((idOf d n).getD ⟨#[]⟩), .bool (idOf d n).isSome]) ∧ Below w.heap.size w w' := by
  unfold idOf
  cases hn : Tn.isN d (n : Int) true with
  | true =>
    rw [if_pos rfl]
    exact dattr_yes hd n hn hr hal idT
  | false =>
    rw [if_neg (by simp)]
    refine (dattr_no hd n hn _).mono ?_
    rintro e w' ⟨rfl, rfl⟩
    exact ⟨rfl, Below.refl _ _⟩

/-- the test of Find -/
def hitD (d : Tn.Dc) (id : ByteArray) (sc : Int) (k : Nat) : Bool := (idOf d k).isSome && (((idOf d k).getD ⟨#[]⟩).toList == id.toList) && (scopeD d (k : Int) == sc)

set_option maxHeartbeats 1600000 in
theorem find1_any {w : World} {b o c D I C : Nat} {rs : List Raw} {d : Tn.Dc} {id : ByteArray} {sc : Int} (hd : DocAt w b o c rs d) (hg : Tame d) (hD : w.cell? ⟨D, 0, none⟩ = some (.slice (some ⟨b, o, none⟩) rs.length c)) (hI : w.cell? ⟨I, 0, none⟩ = some (.string id)) (hC : w.cell? ⟨C, 0, none⟩ = some (.int .i64 sc))
    (k : Nat) (hr : Rising (Tn.nd d k).attrs) (hal : (Tn.nd d k).attrs.length ≤ 1000) :
    Calls Try.prog 53 #[.int .i64 (k : Int), .pointer (some ⟨D, 0, none⟩), .pointer (some ⟨I, 0, none⟩), .pointer (some ⟨C, 0, none⟩)] w fun e w' => e = .returned (.bool (hitD d id sc k)) ∧ Below w.heap.size w w' := by
  have H : Hid (DocAt w b o c rs d) := hd
  have hA := dattr_id hd k hr hal
  have HD : Hid (hitD d id sc k = ((idOf d k).isSome && (((idOf d k).getD ⟨#[]⟩).toList == id.toList) && (scopeD d (k : Int) == sc))) := rfl
  have hS : ∀ W, DocAt W b o c rs d → Calls Try.prog 32 #[.slice (some ⟨b, o, none⟩) rs.length c, .int .i64 (k : Int)] W fun e w' => e = .returned (.int .i64 (scopeD d (k : Int))) ∧ Below W.heap.size W w' := fun W h => dscope_any h hg k
  clear hd
  generalize hitD d id sc k = res at *
  generalize scopeD d (k : Int) = sk at *
  cases hx : (idOf d k).isSome with
  | false =>
    have E : Hid (res = false) := by show _ = _; rw [HD.out, hx]; rfl
    rw [hx] at hA
    clear hx HD
    generalize (idOf d k).getD ⟨#[]⟩ = vv at *
    go_enter Try.func53, Try.ntmps53
    go_wp2_with (go_at_call 29; refine hA.mono ?_; rintro e w9 ⟨rfl, hb9⟩)
    have d9 := keeps_below hb9 (Nat.le_refl _) _ _ hD
    have i9 := keeps_below hb9 (Nat.le_refl _) _ _ hI
    have c9 := keeps_below hb9 (Nat.le_refl _) _ _ hC
    go_quiet (fail)
    go_wp2_with fail
    go_ret
    exact ⟨by rw [E.out]; rfl, hb9.trans ⟨rfl, rfl, rfl, Nat.le_refl _, fun _ _ => rfl⟩⟩
  | true =>
    rw [hx] at hA HD
    clear hx
    generalize (idOf d k).getD ⟨#[]⟩ = vv at *
    cases hq : (vv.toList == id.toList) with
    | false =>
      have E : Hid (res = false) := by show _ = _; rw [HD.out, hq]; rfl
      clear HD
      go_enter Try.func53, Try.ntmps53
      go_wp2_with (go_at_call 29; refine hA.mono ?_; rintro e w9 ⟨rfl, hb9⟩)
      have d9 := keeps_below hb9 (Nat.le_refl _) _ _ hD
      have i9 := keeps_below hb9 (Nat.le_refl _) _ _ hI
      have c9 := keeps_below hb9 (Nat.le_refl _) _ _ hC
      go_quiet (fail)
      go_wp2_with fail
      go_ret
      exact ⟨by rw [E.out]; rfl, hb9.trans ⟨rfl, rfl, rfl, Nat.le_refl _, fun _ _ => rfl⟩⟩
    | true =>
      have E : Hid (res = (sk == sc)) := by show _ = _; rw [HD.out, hq]; rfl
      clear HD
      go_enter Try.func53, Try.ntmps53
      go_wp2_with (go_at_call 29; refine hA.mono ?_; rintro e w9 ⟨rfl, hb9⟩)
      have J9 := keeps_below hb9 (Nat.le_refl _)
      have d9 := J9 _ _ hD
      have i9 := J9 _ _ hI
      have c9 := J9 _ _ hC
      have D9 : Hid (DocAt w9 b o c rs d) := H.out.keeps J9
      have SS : ∀ w'', Keeps w9 w'' → (fun w'' => w''.cell? ⟨D, 0, none⟩ = some (.slice (some ⟨b, o, none⟩) rs.length c) ∧ w''.cell? ⟨I, 0, none⟩ = some (.string id) ∧ w''.cell? ⟨C, 0, none⟩ = some (.int .i64 sc)) w'' := fun w'' hk => ⟨hk _ _ d9, hk _ _ i9, hk _ _ c9⟩
      go_region_held3 (fun w'' => w''.cell? ⟨D, 0, none⟩ = some (.slice (some ⟨b, o, none⟩) rs.length c) ∧ w''.cell? ⟨I, 0, none⟩ = some (.string id) ∧ w''.cell? ⟨C, 0, none⟩ = some (.int .i64 sc))
        ((apply SS; first | exact Keeps.refl _ | assumption | exact keeps_drew (Keeps.refl _)))
        (first
          | (go_at_call 32; refine (hS _ (D9.out.keeps (keeps_drew (Keeps.refl _)))).mono ?_; rintro e wa ⟨rfl, hba⟩; have Ja : Keeps w9 wa := (keeps_drew (Keeps.refl w9)).trans (keeps_below hba (Nat.le_refl _))))
      all_goals
        go_wp2_with fail
        go_ret
        exact ⟨by rw [E.out]; rfl, hb9.trans ((Below.refl _ w9).drew.trans (hba.mono hb9.size))⟩
end Go.Proofs.Ytookcjdibpccpab

/-
  THE WALKS of the search in dom.Find, and of dom.Find.
-/
namespace Go.Proofs.Ytookcjdibpccpab
open Go.RowKit

def idxI (p : Nat → Bool) (l : List Nat) : Int := match l.findIdx? p with
  | some i => (i : Int)
  | none => -1

theorem idxI_some {p : Nat → Bool} {l : List Nat} {j : Nat} (hj : j < l.length) (hp : p l[j] = true) (hn : ∀ k ∈ l.take j, p k = false) : idxI p l = (j : Int) := by
  have : l.findIdx? p = some j := by
    rw [List.findIdx?_eq_some_iff_getElem]
    refine ⟨hj, hp, fun k hk => ?_⟩
    have := hn l[k] (List.mem_take_iff_getElem.mpr ⟨k, by omega, rfl⟩)
    simp [this]
  unfold idxI
  rw [this]
theorem idxI_none {p : Nat → Bool} {l : List Nat} (hn : ∀ k ∈ l, p k = false) : idxI p l = -1 := by
  have : l.findIdx? p = none := by
    rw [List.findIdx?_eq_none_iff]
    intro x hx
    exact hn x hx
  unfold idxI
  rw [this]

set_option maxHeartbeats 1600000 in
theorem findIdx_any {w : World} {b o c D I C : Nat} {rs : List Raw} {d : Tn.Dc} {id : ByteArray} {sc : Int} (hd : DocAt w b o c rs d) (hg : Tame d) (hD : w.cell? ⟨D, 0, none⟩ = some (.slice (some ⟨b, o, none⟩) rs.length c)) (hI : w.cell? ⟨I, 0, none⟩ = some (.string id)) (hC : w.cell? ⟨C, 0, none⟩ = some (.int .i64 sc))
    (hr : ∀ k, Rising (Tn.nd d k).attrs) (hal : ∀ k, (Tn.nd d k).attrs.length ≤ 1000) {vl : Value} {l : List Nat} (hl : IntsAt w vl l) :
    Calls Try.prog 41 #[vl, .func (.func 53) #[] #[.pointer (some ⟨D, 0, none⟩), .pointer (some ⟨I, 0, none⟩), .pointer (some ⟨C, 0, none⟩)]] w fun e w' => e = .returned (.int .i64 (idxI (hitD d id sc) l)) ∧ Below w.heap.size w w' := by
  obtain ⟨p, cc, rfl, h1, h2, _, hat⟩ := hl.at
  have T : Hid (∀ j (hj : j < l.length), ∃ b o, p = some ⟨b, o, none⟩ ∧ w.cell? ⟨b, o + j, none⟩ = some (.int .i64 (l[j] : Int))) := hat
  clear hat hl
  have H : Hid (DocAt w b o c rs d) := hd
  have HA : Hid (∀ W (k : Nat), Keeps w W → Calls Try.prog 53 #[.int .i64 (k : Int), .pointer (some ⟨D, 0, none⟩), .pointer (some ⟨I, 0, none⟩), .pointer (some ⟨C, 0, none⟩)] W fun e w' => e = .returned (.bool (hitD d id sc k)) ∧ Below W.heap.size W w') :=
    fun W k hk => find1_any (hd.keeps hk) hg (hk _ _ hD) (hk _ _ hI) (hk _ _ hC) k (hr k) (hal k)
  clear hd hr hal
  go_enter Try.func41, Try.ntmps41
  go_wp2_with fail
  go_loopw [8] (fun i wr => ∃ j : Nat, j ≤ l.length ∧ i = .int .i64 j ∧ Hid (∀ k ∈ l.take j, hitD d id sc k = false) ∧ Below w.heap.size w wr) (fun i _ => l.length - (intOf i).toNat)
  case atStart => exact ⟨0, Nat.zero_le _, rfl, fun k hk => by simp at hk, Below.refl _ _⟩
  case round =>
    obtain ⟨j, hj, rfl, NO, hnx⟩ := hrel
    by_cases hlt : j < l.length
    · obtain ⟨e1, o1, rfl, k1⟩ := T.out j hlt
      have JR := keeps_below hnx (Nat.le_refl _)
      have y1 := JR _ _ k1
      clear k1
      have hF := HA.out wr l[j] JR
      cases hh : hitD d id sc l[j] with
      | true =>
        have E : Hid (idxI (hitD d id sc) l = (j : Int)) := idxI_some hlt hh NO.out
        rw [hh] at hF
        clear hh
        generalize l[j] = x at *
        go_wp2_with (go_at_call 53; refine hF.mono ?_; rintro e w9 ⟨rfl, hb9⟩)
        go_ret
        exact ⟨by rw [E.out]; rfl, hnx.trans (hb9.mono hnx.size)⟩
      | false =>
        have N2 : Hid (∀ k ∈ l.take (j + 1), hitD d id sc k = false) := by
          intro k hk
          rw [List.take_succ_eq_append_getElem hlt, List.mem_append, List.mem_singleton] at hk
          rcases hk with hk | rfl
          · exact NO.out k hk
          · exact hh
        rw [hh] at hF
        clear hh
        generalize l[j] = x at *
        go_wp2_with (go_at_call 53; refine hF.mono ?_; rintro e w9 ⟨rfl, hb9⟩)
        go_roundw
        case rel => exact ⟨j + 1, by omega, by go_num, N2, hnx.trans (hb9.mono hnx.size)⟩
        case measure => simp [intOf]; omega
    · obtain rfl : j = l.length := by omega
      have E : Hid (idxI (hitD d id sc) l = -1) := idxI_none (fun k hk => NO.out k (by rw [List.take_length]; exact hk))
      go_wp2_with fail
      go_ret
      exact ⟨by rw [E.out]; rfl, hnx⟩


theorem cell_box (w : World) (v : Value) {t : Nat} : (w.alloc (.cells #[v] t)).cell? ⟨w.heap.size, 0, none⟩ = some v := by
  rw [World.cell?_alloc_new]; rfl
theorem bx_new {w w' : World} {v : Value} {t : Nat} (h : Below (w.alloc (.cells #[v] t)).heap.size (w.alloc (.cells #[v] t)) w') : w'.cell? ⟨w.heap.size, 0, none⟩ = some v ∧ w'.frozen? ⟨w.heap.size, 0, none⟩ = false := by
  refine ⟨keeps_below h (Nat.le_refl _) _ _ (cell_box _ _), ?_⟩
  rw [h.frozen (by simp), box_frozen]
theorem bx_newd {w w' : World} {v : Value} {t : Nat} (h : Below (w.alloc (.cells #[v] t)).drew.heap.size (w.alloc (.cells #[v] t)).drew w') : w'.cell? ⟨w.heap.size, 0, none⟩ = some v ∧ w'.frozen? ⟨w.heap.size, 0, none⟩ = false := by
  refine ⟨keeps_below h (Nat.le_refl _) _ _ (cell_box _ _), ?_⟩
  rw [h.frozen (by simp), World.frozen?_drew, box_frozen]
theorem bx_set {w w' : World} {u v : Value} {t : Nat} (h : Below ((w.alloc (.cells #[v] t)).setCell ⟨w.heap.size, 0, none⟩ u).heap.size ((w.alloc (.cells #[v] t)).setCell ⟨w.heap.size, 0, none⟩ u) w') : w'.cell? ⟨w.heap.size, 0, none⟩ = some u ∧ w'.frozen? ⟨w.heap.size, 0, none⟩ = false := by
  refine ⟨keeps_below h (Nat.le_refl _) _ _ (World.cell?_setCell_same _ _ _ (cell_box _ _)), ?_⟩
  rw [h.frozen (by simp), World.frozen?_setCell, box_frozen]
theorem bx_old {w w' : World} {C : Nat} {v : Value} (h : Below w.heap.size w w') (hx : w.cell? ⟨C, 0, none⟩ = some v) (hf : w.frozen? ⟨C, 0, none⟩ = false) : w'.cell? ⟨C, 0, none⟩ = some v ∧ w'.frozen? ⟨C, 0, none⟩ = false := by
  refine ⟨keeps_below h (Nat.le_refl _) _ _ hx, ?_⟩
  rw [h.frozen (lt_of_cell hx), hf]

theorem idx_cases (p : Nat → Bool) (l : List Nat) : (idxI p l = -1 ∧ l.find? p = none) ∨ ∃ j, ∃ hj : j < l.length, idxI p l = (j : Int) ∧ l.find? p = some l[j] := by
  cases h : l.findIdx? p with
  | none =>
    left
    refine ⟨by unfold idxI; rw [h], ?_⟩
    rw [List.find?_eq_none]
    intro x hx
    have := List.findIdx?_eq_none_iff.mp h x hx
    simp [this]
  | some j =>
    right
    obtain ⟨hj, hp, hn⟩ := List.findIdx?_eq_some_iff_getElem.mp h
    refine ⟨j, hj, by unfold idxI; rw [h], ?_⟩
    rw [List.find?_eq_some_iff_getElem]
    exact ⟨hp, j, hj, rfl, fun k hk => by have := hn k hk; simpa using this⟩

/-- what Find tells -/
def findD (d : Tn.Dc) (n : Int) (id : ByteArray) : Int :=
  if id.toList.isEmpty = true ∨ Tn.isN d n false = false then -1
  else match (Tn.all Tn.fuel d 0).find? (hitD d id (scopeD d n)) with
    | some k => (k : Int)
    | none => -1

set_option maxHeartbeats 1600000 in
theorem dfind_any {w : World} {b o c : Nat} {rs : List Raw} {d : Tn.Dc} (hd : DocAt w b o c rs d) (hg : Tame d) (hls : ∀ j s, (Tn.liD d j s).length ≤ 1000) (h0 : Tn.lvD d 0 = true) (hr : ∀ k, Rising (Tn.nd d k).attrs) (hal : ∀ k, (Tn.nd d k).attrs.length ≤ 1000) (n : Int) (id : ByteArray) :
    Calls Try.prog 30 #[.slice (some ⟨b, o, none⟩) rs.length c, .int .i64 n, .string id] w fun e w' => e = .returned (.int .i64 (findD d n id)) ∧ Below w.heap.size w w' := by
  have H : Hid (DocAt w b o c rs d) := hd
  have K2 : Keeps w ((w.alloc (.cells #[.slice (some ⟨b, o, none⟩) rs.length c] 25)).alloc (.cells #[.string id] 9)) := keeps_alloc' _ (keeps_alloc _ _)
  have B2 : Below w.heap.size w ((w.alloc (.cells #[.slice (some ⟨b, o, none⟩) rs.length c] 25)).alloc (.cells #[.string id] 9)) := ((Below.refl w.heap.size w).alloc (Nat.le_refl _) _).alloc (by simp) _
  clear hd
  cases hem : id.toList.isEmpty with
  | true =>
    have E : Hid (findD d n id = -1) := by show _ = _; unfold findD; rw [if_pos (Or.inl hem)]
    go_enter Try.func30, Try.ntmps30
    go_wp2_with fail
    go_ret
    exact ⟨by rw [E.out]; rfl, B2⟩
  | false =>
    cases his : Tn.isN d n false with
    | false =>
      have E : Hid (findD d n id = -1) := by show _ = _; unfold findD; rw [if_pos (Or.inr his)]
      go_enter Try.func30, Try.ntmps30
      go_wp2_with (go_at_call 10; refine (dis_any (H.out.keeps K2) _ _).mono ?_; rintro e w' ⟨rfl, hww⟩; subst hww; rw [his])
      go_ret
      exact ⟨by rw [E.out]; rfl, B2⟩
    | true =>
      have E : Hid (findD d n id = match (Tn.all Tn.fuel d 0).find? (hitD d id (scopeD d n)) with
          | some k => (k : Int)
          | none => -1) := by show _ = _; unfold findD; rw [if_neg (by simp [hem, his])]
      have q0 : ((w.alloc (.cells #[.slice (some ⟨b, o, none⟩) rs.length c] 25)).alloc (.cells #[.string id] 9)).cell? ⟨w.heap.size, 0, none⟩ = some (.slice (some ⟨b, o, none⟩) rs.length c) := by rw [World.cell?_alloc2_first]; rfl
      have q1 : ((w.alloc (.cells #[.slice (some ⟨b, o, none⟩) rs.length c] 25)).alloc (.cells #[.string id] 9)).cell? ⟨w.heap.size + 1, 0, none⟩ = some (.string id) := by rw [World.cell?_alloc2_new]; rfl
      go_enter Try.func30, Try.ntmps30
      go_upto_region 3 with (go_at_call 10; refine (dis_any (H.out.keeps K2) _ _).mono ?_; rintro e w' ⟨rfl, hww⟩; subst hww; rw [his])
      have B2' := B2
      have D2 : Hid (DocAt ((w.alloc (.cells #[.slice (some ⟨b, o, none⟩) rs.length c] 25)).alloc (.cells #[.string id] 9)) b o c rs d) := H.out.keeps K2
      generalize ((w.alloc (.cells #[.slice (some ⟨b, o, none⟩) rs.length c] 25)).alloc (.cells #[.string id] 9)) = w2 at *
      have z2 := B2.size
      have SS : ∀ w'', Keeps w2 w'' → (fun w'' => w''.cell? ⟨w.heap.size, 0, none⟩ = some (.slice (some ⟨b, o, none⟩) rs.length c)) w'' := fun w'' hk => hk _ _ q0
      go_region_held3 (fun w'' => w''.cell? ⟨w.heap.size, 0, none⟩ = some (.slice (some ⟨b, o, none⟩) rs.length c))
        ((apply SS; repeat (first | assumption | exact Keeps.refl _ | apply keeps_drew | apply keeps_alloc' | (refine keeps_set ?_ _ _ (by first | exact Nat.le_refl _ | omega | (simp at *; omega))))))
        (first
          | (go_at_call 32; refine (dscope_any (D2.out.keeps (by (repeat (first | assumption | exact Keeps.refl _ | apply keeps_drew | apply keeps_alloc' | (refine keeps_set ?_ _ _ (by first | exact Nat.le_refl _ | omega | (simp at *; omega))))))) hg n).mono ?_; rintro e wa ⟨rfl, hba⟩; have Ja : Keeps w2 wa := Keeps.trans (by (repeat (first | assumption | exact Keeps.refl _ | apply keeps_drew | apply keeps_alloc' | (refine keeps_set ?_ _ _ (by first | exact Nat.le_refl _ | omega | (simp at *; omega)))))) (keeps_below hba (Nat.le_refl _)); have za := hba.size; try (have hxa := bx_newd hba; obtain ⟨xa, fa⟩ := hxa))
          | (go_at_call 31; refine (dall_any (n := 0) (D2.out.keeps (by (repeat (first | assumption | exact Keeps.refl _ | apply keeps_drew | apply keeps_alloc' | (refine keeps_set ?_ _ _ (by first | exact Nat.le_refl _ | omega | (simp at *; omega))))))) hg hls h0).mono ?_; rintro e wb ⟨v, rfl, hov, hbb⟩; have Jb : Keeps w2 wb := Keeps.trans (by (repeat (first | assumption | exact Keeps.refl _ | apply keeps_drew | apply keeps_alloc' | (refine keeps_set ?_ _ _ (by first | exact Nat.le_refl _ | omega | (simp at *; omega)))))) (keeps_below hbb (Nat.le_refl _)); have zb := hbb.size; first | (have hxb := bx_new hbb; obtain ⟨xb, fb⟩ := hxb) | (have hxb := bx_old hbb xa fa; obtain ⟨xb, fb⟩ := hxb) | (have hxb := bx_set hbb; obtain ⟨xb, fb⟩ := hxb) | (have nobox := trivial)))
      · have XC : (wb.alloc (.cells #[.int .i64 (scopeD d n)] 3)).cell? ⟨wb.heap.size, 0, none⟩ = some (.int .i64 (scopeD d n)) := cell_box _ _
        have KW : Keeps w2 (wb.alloc (.cells #[.int .i64 (scopeD d n)] 3)) := by (repeat (first | assumption | exact Keeps.refl _ | apply keeps_drew | apply keeps_alloc' | (refine keeps_set ?_ _ _ (by first | exact Nat.le_refl _ | omega | (simp at *; omega)))))
        have BW : Below w.heap.size w (wb.alloc (.cells #[.int .i64 (scopeD d n)] 3)) := ((B2.trans ((Below.refl _ _).drew.trans (hba.mono z2))).trans (hbb.mono (by simp at za; omega))).alloc (by simp at za; omega) _
        have IW : IntsAt (wb.alloc (.cells #[.int .i64 (scopeD d n)] 3)) v (Tn.all Tn.fuel d 0) := ints_of_owns (hov.alloc _)
        generalize (wb.alloc (.cells #[.int .i64 (scopeD d n)] 3)) = W at *
        clear hba hbb Ja Jb za zb SS hov K2 B2 B2'
        obtain ⟨p, cc, rfl, i1, i2, _, hat⟩ := IW.at
        have hF := findIdx_any (D2.out.keeps KW) hg (KW _ _ q0) (KW _ _ q1) XC hr hal IW
        rcases idx_cases (hitD d id (scopeD d n)) (Tn.all Tn.fuel d 0) with ⟨x1, x2⟩ | ⟨j, hj, x1, x2⟩
        · rw [x1] at hF
          have E2 : Hid (findD d n id = -1) := by show _ = _; rw [E.out, x2]
          clear x1 x2 E hat IW
          generalize scopeD d n = sc at *
          go_wp2_with (go_at_call 41; refine hF.mono ?_; rintro e w9 ⟨rfl, hb9⟩)
          go_ret
          exact ⟨by rw [E2.out]; rfl, BW.trans (hb9.mono BW.size)⟩
        · rw [x1] at hF
          have E2 : Hid (findD d n id = ((Tn.all Tn.fuel d 0)[j] : Nat)) := by show _ = _; rw [E.out, x2]
          obtain ⟨e1, o1, rfl, k1⟩ := hat j hj
          clear x1 x2 E hat IW
          generalize scopeD d n = sc at *
          generalize (Tn.all Tn.fuel d 0)[j] = y at *
          go_wp2_with (go_at_call 41; refine hF.mono ?_; rintro e w9 ⟨rfl, hb9⟩; have k9 := keeps_below hb9 (Nat.le_refl _) _ _ k1)
          go_ret
          exact ⟨by rw [E2.out]; rfl, BW.trans (hb9.mono BW.size)⟩
      · have XC : (wb.setCell ⟨wa.heap.size, 0, none⟩ (.int .i64 (scopeD d n))).cell? ⟨wa.heap.size, 0, none⟩ = some (.int .i64 (scopeD d n)) := World.cell?_setCell_same _ _ _ xb
        have KW : Keeps w2 (wb.setCell ⟨wa.heap.size, 0, none⟩ (.int .i64 (scopeD d n))) := by (repeat (first | assumption | exact Keeps.refl _ | apply keeps_drew | apply keeps_alloc' | (refine keeps_set ?_ _ _ (by first | exact Nat.le_refl _ | omega | (simp at *; omega)))))
        have BW : Below w.heap.size w (wb.setCell ⟨wa.heap.size, 0, none⟩ (.int .i64 (scopeD d n))) := (((B2.trans ((Below.refl _ _).drew.trans (hba.mono z2))).alloc (by simp at za; omega) _).trans (hbb.mono (by simp at za ⊢; omega))).setCell (p := ⟨wa.heap.size, 0, none⟩) (by simp at za ⊢; omega) _
        have IW : IntsAt (wb.setCell ⟨wa.heap.size, 0, none⟩ (.int .i64 (scopeD d n))) v (Tn.all Tn.fuel d 0) := ints_of_owns (hov.set (by simp) _)
        generalize (wb.setCell ⟨wa.heap.size, 0, none⟩ (.int .i64 (scopeD d n))) = W at *
        clear hba hbb Ja Jb za zb SS hov K2 B2 B2'
        obtain ⟨p, cc, rfl, i1, i2, _, hat⟩ := IW.at
        have hF := findIdx_any (D2.out.keeps KW) hg (KW _ _ q0) (KW _ _ q1) XC hr hal IW
        rcases idx_cases (hitD d id (scopeD d n)) (Tn.all Tn.fuel d 0) with ⟨x1, x2⟩ | ⟨j, hj, x1, x2⟩
        · rw [x1] at hF
          have E2 : Hid (findD d n id = -1) := by show _ = _; rw [E.out, x2]
          clear x1 x2 E hat IW
          generalize scopeD d n = sc at *
          go_wp2_with (go_at_call 41; refine hF.mono ?_; rintro e w9 ⟨rfl, hb9⟩)
          go_ret
          exact ⟨by rw [E2.out]; rfl, BW.trans (hb9.mono BW.size)⟩
        · rw [x1] at hF
          have E2 : Hid (findD d n id = ((Tn.all Tn.fuel d 0)[j] : Nat)) := by show _ = _; rw [E.out, x2]
          obtain ⟨e1, o1, rfl, k1⟩ := hat j hj
          clear x1 x2 E hat IW
          generalize scopeD d n = sc at *
          generalize (Tn.all Tn.fuel d 0)[j] = y at *
          go_wp2_with (go_at_call 41; refine hF.mono ?_; rintro e w9 ⟨rfl, hb9⟩; have k9 := keeps_below hb9 (Nat.le_refl _) _ _ k1)
          go_ret
          exact ⟨by rw [E2.out]; rfl, BW.trans (hb9.mono BW.size)⟩
      · have XC : (wb.setCell ⟨w2.heap.size, 0, none⟩ (.int .i64 (scopeD d n))).cell? ⟨w2.heap.size, 0, none⟩ = some (.int .i64 (scopeD d n)) := World.cell?_setCell_same _ _ _ xb
        have KW : Keeps w2 (wb.setCell ⟨w2.heap.size, 0, none⟩ (.int .i64 (scopeD d n))) := by (repeat (first | assumption | exact Keeps.refl _ | apply keeps_drew | apply keeps_alloc' | (refine keeps_set ?_ _ _ (by first | exact Nat.le_refl _ | omega | (simp at *; omega)))))
        have BW : Below w.heap.size w (wb.setCell ⟨w2.heap.size, 0, none⟩ (.int .i64 (scopeD d n))) := (((B2.alloc z2 _).drew.trans (hba.mono (by simp; omega))).trans (hbb.mono (by simp at za; omega))).setCell (p := ⟨w2.heap.size, 0, none⟩) z2 _
        have IW : IntsAt (wb.setCell ⟨w2.heap.size, 0, none⟩ (.int .i64 (scopeD d n))) v (Tn.all Tn.fuel d 0) := ints_of_owns (hov.set (by simp at za; omega) _)
        generalize (wb.setCell ⟨w2.heap.size, 0, none⟩ (.int .i64 (scopeD d n))) = W at *
        clear hba hbb Ja Jb za zb SS hov K2 B2 B2'
        obtain ⟨p, cc, rfl, i1, i2, _, hat⟩ := IW.at
        have hF := findIdx_any (D2.out.keeps KW) hg (KW _ _ q0) (KW _ _ q1) XC hr hal IW
        rcases idx_cases (hitD d id (scopeD d n)) (Tn.all Tn.fuel d 0) with ⟨x1, x2⟩ | ⟨j, hj, x1, x2⟩
        · rw [x1] at hF
          have E2 : Hid (findD d n id = -1) := by show _ = _; rw [E.out, x2]
          clear x1 x2 E hat IW
          generalize scopeD d n = sc at *
          go_wp2_with (go_at_call 41; refine hF.mono ?_; rintro e w9 ⟨rfl, hb9⟩)
          go_ret
          exact ⟨by rw [E2.out]; rfl, BW.trans (hb9.mono BW.size)⟩
        · rw [x1] at hF
          have E2 : Hid (findD d n id = ((Tn.all Tn.fuel d 0)[j] : Nat)) := by show _ = _; rw [E.out, x2]
          obtain ⟨e1, o1, rfl, k1⟩ := hat j hj
          clear x1 x2 E hat IW
          generalize scopeD d n = sc at *
          generalize (Tn.all Tn.fuel d 0)[j] = y at *
          go_wp2_with (go_at_call 41; refine hF.mono ?_; rintro e w9 ⟨rfl, hb9⟩; have k9 := keeps_below hb9 (Nat.le_refl _) _ _ k1)
          go_ret
          exact ⟨by rw [E2.out]; rfl, BW.trans (hb9.mono BW.size)⟩
end Go.Proofs.Ytookcjdibpccpab

/-
  DOCUMENTS OF ONE's OWN: the row, and each list, in a block by itself; append of attributes; dom.New.
-/
namespace Go.Proofs.Ytookcjdibpccpab
open Go.RowKit

theorem flat_av_one (m : List Tn.At) : ∀ u ∈ m.flatMap av, u.oneCell' = true := by
  intro u hu
  rw [List.mem_flatMap] at hu
  obtain ⟨a, _, hm⟩ := hu
  simp only [av, List.mem_cons, List.not_mem_nil, or_false] at hm
  rcases hm with rfl | rfl <;> rfl

theorem wp_append_attrs {w0 wr : World} {o : Oper} {a : Act} {K : Act → World → Prop} {Q : Exit → Act → World → Prop}
    (s x : Operand) (ho : o.op = Op.call { callee := Callee.builtin Builtin.append, args := #[s, x], argTypes := #[48, 48] }) {B : Nat} {v u : Value} {l m : List Tn.At}
    (hs : a.eval s = v) (hx : a.eval x = u) (hown : OwnA wr B v l) (hm : AttrsAt wr u m) (hnx : Below B w0 wr) (hB : B ≤ wr.heap.size) (hsz : l.length + m.length ≤ 1000000)
    (h : ∀ v' w1, OwnA w1 B v' (l ++ m) → Below B w0 w1 → w1.heap.size ≥ B → wr.grownBy w1 v.ownBlock → K (a.put o.dst v') w1) : o.wp Try.prog a wr K Q := by
  obtain ⟨i0, hi, hz0, hz1, hz2⟩ := info_parts infoA
  unfold OwnA at hown h
  obtain ⟨p, c, rfl, h1, h2, h3, h4⟩ := hm
  cases p with
  | none =>
    have hc : c = 0 := by
      rcases h3 with h3 | ⟨_, _, h3⟩
      · exact h3.2
      · cases h3
    subst hc
    have hl : m = [] := List.length_eq_zero_iff.mp (by omega)
    subst hl
    have hrun := run_append_owned_none (P := Try.prog) (w := wr) B 48 o.type 55 i0 2 Try.underlying48 hi v _ _ hown
    have hk := h v wr (by simpa using hown) hnx hB (grown_refl _ _)
    unfold Oper.wp
    simp [execOp, ho, resolve, invoke, builtin, hs, hx, hrun, Result.andThen]
    exact hk
  | some ad =>
    obtain ⟨b, off, hab⟩ : ∃ b off, ad = ⟨b, off, none⟩ := by
      rcases h3 with ⟨h3, _⟩ | ⟨b, off, h3⟩
      · cases h3
      · exact ⟨b, off, by cases h3; rfl⟩
    subst hab
    refine wp_append_own _ s x 48 ho B 55 i0 (.agg #[.string ⟨#[]⟩, .string ⟨#[]⟩]) 2 32 Try.underlying48 hi hz0 hz1 hz2 rfl (by decide) v _ _ hs hown ⟨b, off, none⟩ m.length c (m.flatMap av) hx (flat_len _ 2 av_len _) ?_ (flat_av_one m) ?_ ?_ ?_ ?_
    · intro j u hu
      obtain ⟨b', o', e1, e2⟩ := h4 j u hu
      cases e1
      rw [add_at]
      exact e2
    · unfold maxLen; omega
    · omega
    · exact hB
    · intro v' w1 k1 k2 _
      exact h v' w1 (by simpa using k1) (hnx.grown k2 hB (fun j hj => (hown.lt j hj).1)) (by have := k2.size; omega) k2

theorem append_attrs {w0 wr : World} {ops : Array Oper} {rest : List Oper} {o : Oper} {a : Act} {Q : Exit → Act → World → Prop} (hgd : o.guard = none)
    (s x : Operand) (ho : o.op = Op.call { callee := Callee.builtin Builtin.append, args := #[s, x], argTypes := #[48, 48] }) {B : Nat} {v u : Value} {l m : List Tn.At}
    (hs : a.eval s = v) (hx : a.eval x = u) (hown : OwnA wr B v l) (hm : AttrsAt wr u m) (hnx : Below B w0 wr) (hB : B ≤ wr.heap.size) (hsz : l.length + m.length ≤ 1000000)
    (h : ∀ v' w1, OwnA w1 B v' (l ++ m) → Below B w0 w1 → w1.heap.size ≥ B → wpList Try.prog ops Q rest (a.put o.dst v') w1) :
    wpList Try.prog ops Q (o :: rest) a wr :=
  wpList_plain hgd fun _ hK => wp_append_attrs s x ho hs hx hown hm hnx hB hsz fun v' w1 h2 h3 h4 _ => hK _ _ (h v' w1 h2 h3 h4)

theorem OwnA.below {w w' : World} {B C : Nat} {v : Value} {l : List Tn.At} (h : OwnA w B v l) (hb : Below C w w') (hC : w.heap.size ≤ C) : OwnA w' B v l := by
  unfold OwnA at *
  obtain ⟨hl, hz⟩ := h
  refine ⟨hl, ?_⟩
  rcases hz with h5 | ⟨g, cap, cur, e, h3, h6, h7⟩
  · exact Or.inl h5
  · refine Or.inr ⟨g, cap, cur, e, h3, ?_, h7⟩
    have hlt : g < w.heap.size := by
      rw [Array.getElem?_eq_some_iff] at h6
      exact h6.1
    rw [hb.block g (by omega)]
    exact h6

/-- a row of its own stays so when another block is written -/
theorem owns_other {w : World} {B e k n : Nat} {v : Value} {xs : List Value} (h : w.ownsRow B e k v n xs) {p : Addr} (hp : v.ownBlock ≠ some p.block) (u : Value) : (w.setCell p u).ownsRow B e k v n xs := by
  obtain ⟨hl, hz⟩ := h
  refine ⟨hl, ?_⟩
  rcases hz with h5 | ⟨g, cap, cur, rfl, h3, h6, h7⟩
  · exact Or.inl h5
  · refine Or.inr ⟨g, cap, cur, rfl, h3, ?_, h7⟩
    have hne : g ≠ p.block := fun e => hp (by rw [← e]; rfl)
    rw [← h6]
    exact heap_setCell_other _ _ _ _ hne

theorem owns_low {w : World} {B B' e k n : Nat} {v : Value} {xs : List Value} (h : w.ownsRow B e k v n xs) (hB : B' ≤ B) : w.ownsRow B' e k v n xs := by
  obtain ⟨hl, hz⟩ := h
  refine ⟨hl, ?_⟩
  rcases hz with h5 | ⟨g, cap, cur, rfl, h3, h6⟩
  · exact Or.inl h5
  · exact Or.inr ⟨g, cap, cur, rfl, by omega, h6⟩

/-- a node whose lists are the call's own -/
structure OwnNd (w : World) (B : Nat) (r : Raw) (n : Tn.Nd) : Prop where
  live : r.live = n.live
  tag : r.tag = n.tag
  text : r.text = n.text
  up : r.up = n.up
  hasS : r.hasS = n.hasS
  inS : r.inS = n.inS
  attrs : OwnA w B (.slice r.a.p r.a.n r.a.c) n.attrs
  kids : OwnI w B (.slice r.k.p r.k.n r.k.c) n.kids
  shadow : OwnI w B (.slice r.s.p r.s.n r.s.c) n.shadow

theorem OwnNd.nd {w : World} {B : Nat} {r : Raw} {n : Tn.Nd} (h : OwnNd w B r n) : NdAt w r n :=
  ⟨h.live, h.tag, h.text, h.up, h.hasS, h.inS, attrs_of_owns h.attrs, ints_of_owns h.kids, ints_of_owns h.shadow⟩

/-- the blocks of a node's lists -/
def Raw.blocks (r : Raw) : List Nat := (r.a.p.toList ++ r.k.p.toList ++ r.s.p.toList).map (·.block)

/-- a document that is the call's own: row and lists, each in a block by itself -/
structure OwnDoc (w : World) (B g c : Nat) (rs : List Raw) (d : Tn.Dc) : Prop where
  row : OwnN w B (.slice (some ⟨g, 0, none⟩) rs.length c) rs
  len : rs.length = d.length
  nds : ∀ k (h : k < rs.length) (h' : k < d.length), OwnNd w B rs[k] d[k]
  sep : (g :: rs.flatMap Raw.blocks).Nodup
  low : ∀ x ∈ rs.flatMap Raw.blocks, x < w.heap.size

theorem OwnDoc.doc {w : World} {B g c : Nat} {rs : List Raw} {d : Tn.Dc} (h : OwnDoc w B g c rs d) (h0 : 0 < rs.length) : DocAt w g 0 c rs d := by
  obtain ⟨g', c', e, h1, h2, _, _, h4, _⟩ := own_at h.row h0
  cases e
  exact ⟨h1, h2, h.len, h4, fun k hk hk' => (h.nds k hk hk').nd⟩

set_option maxHeartbeats 1600000 in
theorem dnew_any {w : World} :
    Calls Try.prog 28 #[] w fun e w' => e = .returned (.slice (some ⟨w.heap.size, 0, none⟩) [rootR].length 1) ∧ DocAt w' w.heap.size 0 1 [rootR] [Tn.root] ∧ Below w.heap.size w w' := by
  go_enter Try.func28, Try.ntmps28
  go_wp2_with fail
  go_ret
  exact ⟨rfl, root_doc w, (Below.refl _ _).alloc (Nat.le_refl _) _⟩
end Go.Proofs.Ytookcjdibpccpab

/-
  THE WALK of dom.Own.
-/
namespace Go.Proofs.Ytookcjdibpccpab
open Go.RowKit

theorem flat_set_at (r' : Raw) (i : Nat) (x : Value) (hi : i < 9) : ∀ (rs : List Raw) (k : Nat) (hk : k < rs.length), r'.cells = rs[k].cells.set i x → (rs.flatMap Raw.cells).set (k * 9 + i) x = (rs.set k r').flatMap Raw.cells
  | [], k, h, _ => by simp at h
  | a :: l, 0, _, hr => by
    rw [List.set_cons_zero, List.flatMap_cons, List.flatMap_cons, List.set_append_left _ _ (by rw [raw_len]; omega), hr]
    simp
  | a :: l, k + 1, h, hr => by
    have ih := flat_set_at r' i x hi l k (by simpa using h) (by simpa using hr)
    rw [List.set_cons_succ, List.flatMap_cons, List.flatMap_cons, List.set_append_right _ _ (by rw [raw_len]; omega), raw_len, ← ih]
    congr 2
    omega

theorem own_set1 {w : World} {B g n c : Nat} {rs : List Raw} (hn : n = rs.length) (h : OwnN w B (.slice (some ⟨g, 0, none⟩) n c) rs) (k : Nat) (hk : k < rs.length) (i : Nat) (hi : i < 9) (x : Value) (r' : Raw) (hr : r'.cells = rs[k].cells.set i x) :
    OwnN (w.setCell ⟨g, k * 9 + i, none⟩ x) B (.slice (some ⟨g, 0, none⟩) n c) (rs.set k r') := by
  subst hn
  unfold OwnN at *
  have := owns_set h (k * 9 + i) x
  rw [flat_set_at r' i x hi rs k hk hr] at this
  rw [List.length_set]
  exact this

theorem owns_below {w w' : World} {B C e k n : Nat} {v : Value} {xs : List Value} (h : w.ownsRow B e k v n xs) (hb : Below C w w') (hC : w.heap.size ≤ C) : w'.ownsRow B e k v n xs := by
  obtain ⟨hl, hz⟩ := h
  refine ⟨hl, ?_⟩
  rcases hz with h5 | ⟨g, cap, cur, e, h3, h6, h7⟩
  · exact Or.inl h5
  · refine Or.inr ⟨g, cap, cur, e, h3, ?_, h7⟩
    have hlt : g < w.heap.size := by
      rw [Array.getElem?_eq_some_iff] at h6
      exact h6.1
    rw [hb.block g (by omega)]
    exact h6

theorem OwnNd.below {w w' : World} {B C : Nat} {r : Raw} {n : Tn.Nd} (h : OwnNd w B r n) (hb : Below C w w') (hC : w.heap.size ≤ C) : OwnNd w' B r n :=
  ⟨h.live, h.tag, h.text, h.up, h.hasS, h.inS, owns_below h.attrs hb hC, owns_below h.kids hb hC, owns_below h.shadow hb hC⟩

theorem ownBlock_sl {p : Option Addr} {n c x : Nat} (h : (Value.slice p n c).ownBlock = some x) : x ∈ (p.toList).map (·.block) := by
  cases p with
  | none => simp [Value.ownBlock] at h
  | some a => simp [Value.ownBlock] at h; simp [h]

theorem OwnNd.other {w : World} {B : Nat} {r : Raw} {n : Tn.Nd} (h : OwnNd w B r n) {p : Addr} (hp : p.block ∉ r.blocks) (u : Value) : OwnNd (w.setCell p u) B r n := by
  have e : ∀ q : Sl, (∀ x ∈ q.p.toList.map (·.block), x ∈ r.blocks) → (Value.slice q.p q.n q.c).ownBlock ≠ some p.block := fun q hq he => hp (hq _ (ownBlock_sl he))
  refine ⟨h.live, h.tag, h.text, h.up, h.hasS, h.inS, owns_other h.attrs (e _ ?_) u, owns_other h.kids (e _ ?_) u, owns_other h.shadow (e _ ?_) u⟩ <;>
  · intro x hx
    simp only [Raw.blocks, List.map_append, List.mem_append]
    first | exact Or.inl (Or.inl hx) | exact Or.inl (Or.inr hx) | exact Or.inr hx

/-- a copy under way: of the nodes ahead of r the lists are the call's own -/
structure Half (w : World) (B g c : Nat) (ts : List Raw) (r : Raw) (tl : List Raw) (d : Tn.Dc) : Prop where
  row : OwnN w B (.slice (some ⟨g, 0, none⟩) (ts ++ r :: tl).length c) (ts ++ r :: tl)
  nds : ∀ k (h : k < ts.length) (h' : k < d.length), OwnNd w B ts[k] d[k]
  sep : (g :: ts.flatMap Raw.blocks).Nodup
  low : ∀ x ∈ ts.flatMap Raw.blocks, x < w.heap.size

theorem Half.below {w w' : World} {B C g c : Nat} {ts tl : List Raw} {r : Raw} {d : Tn.Dc} (h : Half w B g c ts r tl d) (hb : Below C w w') (hC : w.heap.size ≤ C) : Half w' B g c ts r tl d :=
  ⟨owns_below h.row hb hC, fun k hk hk' => (h.nds k hk hk').below hb hC, h.sep, fun x hx => Nat.lt_of_lt_of_le (h.low x hx) hb.size⟩

theorem Half.set {w : World} {B g c : Nat} {ts tl : List Raw} {r : Raw} {d : Tn.Dc} (h : Half w B g c ts r tl d) (i : Nat) (hi : i < 9) (x : Value) (r' : Raw) (hr : r'.cells = r.cells.set i x) : Half (w.setCell ⟨g, ts.length * 9 + i, none⟩ x) B g c ts r' tl d := by
  have hrow := own_set1 rfl h.row ts.length (by simp) i hi x r' (by simpa using hr)
  have e : (ts ++ r :: tl).set ts.length r' = ts ++ r' :: tl := by simp
  rw [e] at hrow
  refine ⟨by simpa using hrow, fun k hk hk' => (h.nds k hk hk').other ?_ _, h.sep, fun y hy => by simpa using h.low y hy⟩
  intro hm
  have := (List.nodup_cons.mp h.sep).1
  exact this (List.mem_flatMap.mpr ⟨ts[k], List.getElem_mem hk, hm⟩)

theorem Half.at {w : World} {B g c : Nat} {ts tl : List Raw} {r : Raw} {d : Tn.Dc} (h : Half w B g c ts r tl d) : B ≤ g ∧ g < w.heap.size ∧ w.cell? ⟨g, ts.length * 9 + 3, none⟩ = some (.slice r.a.p r.a.n r.a.c) ∧ w.cell? ⟨g, ts.length * 9 + 5, none⟩ = some (.slice r.k.p r.k.n r.k.c) ∧ w.cell? ⟨g, ts.length * 9 + 7, none⟩ = some (.slice r.s.p r.s.n r.s.c) ∧ (∀ j, w.frozen? ⟨g, j, none⟩ = false) := by
  obtain ⟨g', c', e, h1, h2, h3, h4, h5, h6⟩ := own_at h.row (by simp; omega)
  cases e
  have c3 := h5.c3 ts.length (by simp)
  have c5 := h5.c5 ts.length (by simp)
  have c7 := h5.c7 ts.length (by simp)
  simp only [List.getElem_append_right (Nat.le_refl _), Nat.sub_self, List.getElem_cons_zero, Nat.zero_add] at c3 c5 c7
  exact ⟨h3, h4, c3, c5, c7, h6⟩

theorem sl_range {w : World} {B e k n m c : Nat} {p : Option Addr} {xs : List Value} (h : w.ownsRow B e k (.slice p m c) n xs) : ∀ x ∈ p.toList.map (·.block), B ≤ x ∧ x < w.heap.size := by
  intro x hx
  cases p with
  | none => simp at hx
  | some a =>
    simp at hx
    subst hx
    exact World.ownsRow.lt h a.block rfl

theorem sep_new {g h0 h1 h2 h3 : Nat} {l : List Nat} {r : Raw} (hn : (g :: l).Nodup) (hl : ∀ x ∈ l, x < h0) (hg : g < h0) (ha : ∀ x ∈ r.a.p.toList.map (·.block), h0 ≤ x ∧ x < h1) (hk : ∀ x ∈ r.k.p.toList.map (·.block), h1 ≤ x ∧ x < h2) (hs : ∀ x ∈ r.s.p.toList.map (·.block), h2 ≤ x ∧ x < h3)
    (h01 : h0 ≤ h1) (h12 : h1 ≤ h2) (h23 : h2 ≤ h3) : (g :: (l ++ r.blocks)).Nodup ∧ ∀ x ∈ r.blocks, h0 ≤ x ∧ x < h3 := by
  have hb : ∀ x ∈ r.blocks, h0 ≤ x ∧ x < h3 := by
    intro x hx
    simp only [Raw.blocks, List.map_append, List.mem_append] at hx
    rcases hx with (hx | hx) | hx
    · have := ha x hx; omega
    · have := hk x hx; omega
    · have := hs x hx; omega
  refine ⟨?_, hb⟩
  rw [← List.cons_append, List.nodup_append]
  refine ⟨hn, ?_, ?_⟩
  · simp only [Raw.blocks, List.map_append]
    rw [List.nodup_append, List.nodup_append]
    have one : ∀ q : Option Addr, (q.toList.map (·.block)).Nodup := fun q => by cases q <;> simp
    refine ⟨⟨one _, one _, ?_⟩, one _, ?_⟩
    · intro x hx y hy e
      have := ha x hx; have := hk y hy; omega
    · intro x hx y hy e
      rw [List.mem_append] at hx
      have := hs y hy
      rcases hx with hx | hx
      · have := ha x hx; omega
      · have := hk x hx; omega
  · intro x hx y hy e
    have h1 := hb y hy
    rcases List.mem_cons.mp hx with rfl | hx
    · omega
    · have := hl x hx; omega
end Go.Proofs.Ytookcjdibpccpab

/-
  THE WALK of dom.Own.
-/
namespace Go.Proofs.Ytookcjdibpccpab
open Go.RowKit

/-- the copy under way -/
structure OwnUp (w : World) (B g c : Nat) (ts rs : List Raw) (d : Tn.Dc) (j : Nat) : Prop where
  tl : ts.length = j
  row : OwnN w B (.slice (some ⟨g, 0, none⟩) (ts ++ rs.drop j).length c) (ts ++ rs.drop j)
  nds : ∀ k (h : k < ts.length) (h' : k < d.length), OwnNd w B ts[k] d[k]
  sep : (g :: ts.flatMap Raw.blocks).Nodup
  low : ∀ x ∈ ts.flatMap Raw.blocks, x < w.heap.size

theorem OwnUp.half {w : World} {B g c j : Nat} {ts rs : List Raw} {d : Tn.Dc} (h : OwnUp w B g c ts rs d j) (hj : j < rs.length) : Half w B g c ts rs[j] (rs.drop (j + 1)) d := by
  have e : rs.drop j = rs[j] :: rs.drop (j + 1) := List.drop_eq_getElem_cons hj
  exact ⟨by rw [← e]; exact h.row, h.nds, h.sep, h.low⟩

theorem Half.up {w : World} {B g c j : Nat} {ts rs : List Raw} {r : Raw} {d : Tn.Dc} (h : Half w B g c ts r (rs.drop (j + 1)) d) (hj : ts.length = j) (hjd : j < d.length) (hn : OwnNd w B r d[j]) (hs : (g :: (ts.flatMap Raw.blocks ++ r.blocks)).Nodup) (hl : ∀ x ∈ r.blocks, x < w.heap.size) : OwnUp w B g c (ts ++ [r]) rs d (j + 1) := by
  have e : (ts ++ [r]) ++ rs.drop (j + 1) = ts ++ r :: rs.drop (j + 1) := by simp
  refine ⟨by simp [hj], by rw [e]; exact h.row, ?_, by simpa using hs, ?_⟩
  · intro k hk hk'
    by_cases hkt : k < ts.length
    · rw [List.getElem_append_left hkt]; exact h.nds k hkt hk'
    · have : k = j := by simp at hk; omega
      subst this
      subst hj
      simpa using hn
  · intro x hx
    simp only [List.flatMap_append, List.flatMap_cons, List.flatMap_nil, List.append_nil, List.mem_append] at hx
    rcases hx with hx | hx
    · exact h.low x hx
    · exact hl x hx

set_option maxHeartbeats 1600000 in
theorem down_any {w : World} {b o c : Nat} {rs : List Raw} {d : Tn.Dc} (hd : DocAt w b o c rs d) (h0 : 0 < rs.length) (hlen : d.length ≤ 1000) (hls : ∀ j s, (Tn.liD d j s).length ≤ 1000) (hal : ∀ k, (Tn.nd d k).attrs.length ≤ 1000) :
    Calls Try.prog 35 #[.slice (some ⟨b, o, none⟩) rs.length c] w fun e w' => ∃ g c' rs', e = .returned (.slice (some ⟨g, 0, none⟩) rs'.length c') ∧ OwnDoc w' w.heap.size g c' rs' d ∧ Below w.heap.size w w' := by
  have H : Hid (DocAt w b o c rs d) := hd
  have LN : Hid (rs.length = d.length) := hd.len
  have hlr : rs.length ≤ 1000 := by rw [LN.out]; exact hlen
  have RW : Hid (RowOf w b o rs) := hd.row
  have LA : Hid (∀ k (h : k < d.length), d[k].attrs.length ≤ 1000 ∧ d[k].kids.length ≤ 1000 ∧ d[k].shadow.length ≤ 1000) := by
    intro k hk
    have e : Tn.nd d k = d[k] := by simp [Tn.nd, hk]
    have h1 := hal k
    have h2 := hls k false
    have h3 := hls k true
    rw [e] at h1
    simp [Tn.liD, e] at h2 h3
    exact ⟨h1, h2, h3⟩
  clear hd hlen hls hal
  go_enter Try.func35, Try.ntmps35
  go_wp2_with (at_builtin; refine append_nodes (w0 := w) rfl _ _ rfl (rs := []) (ts := rs) rfl rfl (World.ownsRow_nil _ _ _ _) RW.out (Below.refl w.heap.size w) (Nat.le_refl _) (by simp; omega) ?_; intro v1 w1 o1 n1 _; rw [List.nil_append] at o1; obtain ⟨g, cc, rfl, e1, e2, e3, e4, e5, e6⟩ := own_at o1 h0)
  have hcM : cc ≤ 9223372036854775807 := by unfold maxLen at e2; omega
  clear e2 e5 e6
  go_loopw [10] (fun i wr => ∃ (j : Nat) (ts : List Raw), j ≤ rs.length ∧ i = .int .i64 j ∧ Hid (OwnUp wr w.heap.size g cc ts rs d j) ∧ Below w.heap.size w wr) (fun i _ => rs.length - (intOf i).toNat)
  case atStart => exact ⟨0, [], Nat.zero_le _, rfl, ⟨rfl, by simpa using o1, fun k hk => by simp at hk, by simp, fun x hx => by simp at hx⟩, n1⟩
  case round =>
    obtain ⟨j, ts, hj, rfl, U, hnx⟩ := hrel
    have hbz := hnx.size
    by_cases hlt : j < rs.length
    · have M : Hid (Half wr w.heap.size g cc ts rs[j] (rs.drop (j + 1)) d) := U.out.half hlt
      have TL : Hid (ts.length = j) := U.out.tl
      have hjd : j < d.length := by rw [← LN.out]; exact hlt
      have hN := (H.out.nds j hlt hjd).keeps (keeps_below hnx (Nat.le_refl _))
      have hLA := LA.out j hjd
      have ND : Hid (NdAt wr rs[j] d[j]) := hN
      have LO : Hid (∀ x ∈ ts.flatMap Raw.blocks, x < wr.heap.size) := U.out.low
      clear U hN
      generalize rs[j] = r at *
      generalize hDj : d[j] = nn at *
      have EJ : Hid (d[j] = nn) := hDj
      clear hDj
      obtain ⟨rl, rt, rx, ⟨ap, an, ac⟩, ru, ⟨kp, kn, kc⟩, rh, ⟨sp, sn, sc⟩, ri⟩ := r
      obtain ⟨m1, m2, c3, c5, c7, fz⟩ := M.out.at
      have AT := ND.out.attrs
      have KT := ND.out.kids
      have ST := ND.out.shadow
      rw [TL.out] at c3 c5 c7
      simp only at c3 c5 c7 AT KT ST
      have f3 := fz (j * 9 + 3)
      clear fz c5 c7
      go_upto_region 7 with (at_builtin; refine append_attrs (w0 := wr) rfl _ _ rfl rfl rfl (OwnA.nil _ wr.heap.size) AT (Below.refl _ _) (Nat.le_refl _) (by simp; omega) ?_; intro v2 w2 o2 n2 z2; rw [List.nil_append] at o2; obtain ⟨p2, q2, rfl⟩ := o2.shape; have c3' : w2.cell? ⟨g, j * 9 + 3, none⟩ = some (.slice ap an ac) := (n2.cell (p := ⟨g, j * 9 + 3, none⟩) m2).trans c3; have f3' : w2.frozen? ⟨g, j * 9 + 3, none⟩ = false := (n2.frozen (p := ⟨g, j * 9 + 3, none⟩) m2).trans f3)
      have M3 : Hid (Half (w2.setCell ⟨g, j * 9 + 3, none⟩ (.slice p2 nn.attrs.length q2)) w.heap.size g cc ts ⟨rl, rt, rx, ⟨p2, nn.attrs.length, q2⟩, ru, ⟨kp, kn, kc⟩, rh, ⟨sp, sn, sc⟩, ri⟩ (rs.drop (j + 1)) d) := by
        have := (M.out.below n2 (Nat.le_refl _)).set 3 (by decide) (.slice p2 nn.attrs.length q2) ⟨rl, rt, rx, ⟨p2, nn.attrs.length, q2⟩, ru, ⟨kp, kn, kc⟩, rh, ⟨sp, sn, sc⟩, ri⟩ rfl
        rw [TL.out] at this
        exact this
      have A3 : Hid (OwnA (w2.setCell ⟨g, j * 9 + 3, none⟩ (.slice p2 nn.attrs.length q2)) wr.heap.size (.slice p2 nn.attrs.length q2) nn.attrs) := ownsRow_setCell_below o2 (a := ⟨g, j * 9 + 3, none⟩) m2 _
      have K3 : IntsAt (w2.setCell ⟨g, j * 9 + 3, none⟩ (.slice p2 nn.attrs.length q2)) (.slice kp kn kc) nn.kids := ints_set (KT.keeps (keeps_below n2 (Nat.le_refl _))) c3' (fun k => by simp)
      have S3 : IntsAt (w2.setCell ⟨g, j * 9 + 3, none⟩ (.slice p2 nn.attrs.length q2)) (.slice sp sn sc) nn.shadow := ints_set (ST.keeps (keeps_below n2 (Nat.le_refl _))) c3' (fun k => by simp)
      have N3 : Below w.heap.size w (w2.setCell ⟨g, j * 9 + 3, none⟩ (.slice p2 nn.attrs.length q2)) := (hnx.trans (n2.mono hbz)).setCell (p := ⟨g, j * 9 + 3, none⟩) m1 _
      have Z3 : Hid (wr.heap.size ≤ (w2.setCell ⟨g, j * 9 + 3, none⟩ (.slice p2 nn.attrs.length q2)).heap.size) := by show _ ≤ _; simpa using z2
      clear KT ST AT c3 f3 c3' f3' o2 M n2 z2
      generalize w2.setCell ⟨g, j * 9 + 3, none⟩ (.slice p2 nn.attrs.length q2) = W3 at *
      obtain ⟨_, m3, _, c5, _, fz⟩ := M3.out.at
      rw [TL.out] at c5
      simp only at c5
      have f5 := fz (j * 9 + 5)
      clear fz
      go_upto_region 8 with (at_builtin; refine append_ints (w0 := W3) rfl _ _ rfl rfl rfl (OwnI.nil _ W3.heap.size) K3 (Below.refl _ _) (Nat.le_refl _) (by simp; omega) ?_; intro v4 w4 o4 n4 z4 _; rw [List.nil_append] at o4; obtain ⟨p4, q4, rfl⟩ := o4.shape; have c5' : w4.cell? ⟨g, j * 9 + 5, none⟩ = some (.slice kp kn kc) := (n4.cell (p := ⟨g, j * 9 + 5, none⟩) m3).trans c5; have f5' : w4.frozen? ⟨g, j * 9 + 5, none⟩ = false := (n4.frozen (p := ⟨g, j * 9 + 5, none⟩) m3).trans f5)
      have M5 : Hid (Half (w4.setCell ⟨g, j * 9 + 5, none⟩ (.slice p4 nn.kids.length q4)) w.heap.size g cc ts ⟨rl, rt, rx, ⟨p2, nn.attrs.length, q2⟩, ru, ⟨p4, nn.kids.length, q4⟩, rh, ⟨sp, sn, sc⟩, ri⟩ (rs.drop (j + 1)) d) := by
        have := (M3.out.below n4 (Nat.le_refl _)).set 5 (by decide) (.slice p4 nn.kids.length q4) ⟨rl, rt, rx, ⟨p2, nn.attrs.length, q2⟩, ru, ⟨p4, nn.kids.length, q4⟩, rh, ⟨sp, sn, sc⟩, ri⟩ rfl
        rw [TL.out] at this
        exact this
      have A5 : Hid (OwnA (w4.setCell ⟨g, j * 9 + 5, none⟩ (.slice p4 nn.kids.length q4)) wr.heap.size (.slice p2 nn.attrs.length q2) nn.attrs) := ownsRow_setCell_below (owns_below A3.out n4 (Nat.le_refl _)) (a := ⟨g, j * 9 + 5, none⟩) m2 _
      have R3 : Hid (∀ x ∈ p2.toList.map (·.block), wr.heap.size ≤ x ∧ x < W3.heap.size) := sl_range A3.out
      have K5 : Hid (OwnI (w4.setCell ⟨g, j * 9 + 5, none⟩ (.slice p4 nn.kids.length q4)) W3.heap.size (.slice p4 nn.kids.length q4) nn.kids) := ownsRow_setCell_below o4 (a := ⟨g, j * 9 + 5, none⟩) m3 _
      have S5 : IntsAt (w4.setCell ⟨g, j * 9 + 5, none⟩ (.slice p4 nn.kids.length q4)) (.slice sp sn sc) nn.shadow := ints_set (S3.keeps (keeps_below n4 (Nat.le_refl _))) c5' (fun k => by simp)
      have N5 : Below w.heap.size w (w4.setCell ⟨g, j * 9 + 5, none⟩ (.slice p4 nn.kids.length q4)) := (N3.trans (n4.mono N3.size)).setCell (p := ⟨g, j * 9 + 5, none⟩) m1 _
      have Z5 : Hid (W3.heap.size ≤ (w4.setCell ⟨g, j * 9 + 5, none⟩ (.slice p4 nn.kids.length q4)).heap.size) := by show _ ≤ _; simpa using z4
      clear K3 S3 c5 f5 c5' f5' o4 M3 n4 z4 A3
      generalize w4.setCell ⟨g, j * 9 + 5, none⟩ (.slice p4 nn.kids.length q4) = W5 at *
      obtain ⟨_, m5, _, _, c7, fz⟩ := M5.out.at
      rw [TL.out] at c7
      simp only at c7
      have f7 := fz (j * 9 + 7)
      clear fz
      go_wp2_with (at_builtin; refine append_ints (w0 := W5) rfl _ _ rfl rfl rfl (OwnI.nil _ W5.heap.size) S5 (Below.refl _ _) (Nat.le_refl _) (by simp; omega) ?_; intro v6 w6 o6 n6 z6 _; rw [List.nil_append] at o6; obtain ⟨p6, q6, rfl⟩ := o6.shape; have c7' : w6.cell? ⟨g, j * 9 + 7, none⟩ = some (.slice sp sn sc) := (n6.cell (p := ⟨g, j * 9 + 7, none⟩) m5).trans c7; have f7' : w6.frozen? ⟨g, j * 9 + 7, none⟩ = false := (n6.frozen (p := ⟨g, j * 9 + 7, none⟩) m5).trans f7)
      have M7 : Hid (Half (w6.setCell ⟨g, j * 9 + 7, none⟩ (.slice p6 nn.shadow.length q6)) w.heap.size g cc ts ⟨rl, rt, rx, ⟨p2, nn.attrs.length, q2⟩, ru, ⟨p4, nn.kids.length, q4⟩, rh, ⟨p6, nn.shadow.length, q6⟩, ri⟩ (rs.drop (j + 1)) d) := by
        have := (M5.out.below n6 (Nat.le_refl _)).set 7 (by decide) (.slice p6 nn.shadow.length q6) ⟨rl, rt, rx, ⟨p2, nn.attrs.length, q2⟩, ru, ⟨p4, nn.kids.length, q4⟩, rh, ⟨p6, nn.shadow.length, q6⟩, ri⟩ rfl
        rw [TL.out] at this
        exact this
      have A7 : OwnA (w6.setCell ⟨g, j * 9 + 7, none⟩ (.slice p6 nn.shadow.length q6)) wr.heap.size (.slice p2 nn.attrs.length q2) nn.attrs := ownsRow_setCell_below (owns_below A5.out n6 (Nat.le_refl _)) (a := ⟨g, j * 9 + 7, none⟩) m2 _
      have K7 : OwnI (w6.setCell ⟨g, j * 9 + 7, none⟩ (.slice p6 nn.shadow.length q6)) W3.heap.size (.slice p4 nn.kids.length q4) nn.kids := ownsRow_setCell_below (owns_below K5.out n6 (Nat.le_refl _)) (a := ⟨g, j * 9 + 7, none⟩) m3 _
      have S7 : OwnI (w6.setCell ⟨g, j * 9 + 7, none⟩ (.slice p6 nn.shadow.length q6)) W5.heap.size (.slice p6 nn.shadow.length q6) nn.shadow := ownsRow_setCell_below o6 (a := ⟨g, j * 9 + 7, none⟩) m5 _
      have R5 : ∀ x ∈ p4.toList.map (·.block), W3.heap.size ≤ x ∧ x < W5.heap.size := sl_range K5.out
      have N7 : Below w.heap.size w (w6.setCell ⟨g, j * 9 + 7, none⟩ (.slice p6 nn.shadow.length q6)) := (N5.trans (n6.mono N5.size)).setCell (p := ⟨g, j * 9 + 7, none⟩) m1 _
      have Z7 : W5.heap.size ≤ (w6.setCell ⟨g, j * 9 + 7, none⟩ (.slice p6 nn.shadow.length q6)).heap.size := by simpa using z6
      have R7 : ∀ x ∈ p6.toList.map (·.block), W5.heap.size ≤ x ∧ x < (w6.setCell ⟨g, j * 9 + 7, none⟩ (.slice p6 nn.shadow.length q6)).heap.size := sl_range S7
      have b3 := N3.size
      have b5 := N5.size
      have UP : Hid (OwnUp (w6.setCell ⟨g, j * 9 + 7, none⟩ (.slice p6 nn.shadow.length q6)) w.heap.size g cc (ts ++ [⟨rl, rt, rx, ⟨p2, nn.attrs.length, q2⟩, ru, ⟨p4, nn.kids.length, q4⟩, rh, ⟨p6, nn.shadow.length, q6⟩, ri⟩]) rs d (j + 1)) := by
        have hsn := sep_new (r := ⟨rl, rt, rx, ⟨p2, nn.attrs.length, q2⟩, ru, ⟨p4, nn.kids.length, q4⟩, rh, ⟨p6, nn.shadow.length, q6⟩, ri⟩) M7.out.sep LO.out m2 R3.out R5 R7 Z3.out Z5.out Z7
        refine M7.out.up TL.out hjd ?_ hsn.1 (fun x hx => (hsn.2 x hx).2)
        rw [EJ.out]
        exact ⟨ND.out.live, ND.out.tag, ND.out.text, ND.out.up, ND.out.hasS, ND.out.inS, owns_low A7 hbz, owns_low K7 b3, owns_low S7 b5⟩
      clear M7 A7 K7 S7 R7 M5 A5 K5 S5 c7 f7
      go_roundw
      case rel => exact ⟨j + 1, _, by omega, by go_num, UP, N7⟩
      case measure => simp [intOf]; omega
    · obtain rfl : j = rs.length := by omega
      have V := U.out
      have hts : ts.length = rs.length := V.tl
      have hrow := V.row
      rw [List.drop_length, List.append_nil] at hrow
      rw [← hts]
      go_wp2_with fail
      go_ret
      exact ⟨g, cc, ts, rfl, ⟨hrow, hts.trans LN.out, V.nds, V.sep, V.low⟩, hnx⟩
end Go.Proofs.Ytookcjdibpccpab

/-
  PLAIN MATHEMATICS: what holds of each node by itself stays, whatever the changes.
-/
namespace Go.Proofs.Ytookcjdibpccpab
open Tn

/-- what holds of each node, and stays with the change x -/
structure Stays (P : Nat → Nd → Prop) (x : Chg) : Prop where
  take : ∀ j n k, P j n → P j { n with kids := without n.kids k, shadow := without n.shadow k }
  move : ∀ j n u b, j ≠ 0 → P j n → P j { n with up := u, inS := b }
  put : ∀ j n s l, P j n → has n.tag = true → (s = true → n.hasS = true) → P j (setList n s l)
  zero : ∀ j, j ≠ 0 → P j Tn.zero
  say : ∀ j n, P j n → has n.tag = false → P j { n with text := x.value }
  attr : ∀ j n, P j n → has n.tag = true → P j { n with attrs := attrsD n.attrs x.name x.value }
  clear : ∀ j n, P j n → has n.tag = true → P j { n with attrs := attrsOff n.attrs x.name }
  shad : ∀ j n, x.kind = 8 → j ≠ 0 → P j n → has n.tag = true → P j { n with hasS := true }
  new : ∀ j m s, j ≠ 0 → P j (made (newN x) m s)

theorem withd_all {P : Nat → Nd → Prop} {d : Dc} {k : Nat} {n : Nd} (hk : k ≤ d.length) (h : ∀ j, P j (nd d j)) (hn : P k n) : ∀ j, P j (nd (withd d k n) j) := by
  intro j
  rw [nd_withd _ _ _ hk]
  split
  · rename_i e
    rw [e]
    exact hn
  · exact h j

theorem take_len {d : Dc} {k : Nat} (hu : (nd d k).up.toNat < d.length) : (takeD d k).length = d.length := by
  unfold takeD withd
  rw [if_neg (by omega)]
  simp

theorem take_tag {d : Dc} {k : Nat} (hu : (nd d k).up.toNat < d.length) (j : Nat) : (nd (takeD d k) j).tag = (nd d j).tag := by
  unfold takeD
  rw [nd_withd _ _ _ (Nat.le_of_lt hu)]
  split
  · rename_i e
    rw [e]
  · rfl

theorem nd_trim {d : Dc} (h : Tn.Mid d) (j : Nat) : nd (trimD d) j = nd d j := by
  obtain ⟨r, hr, hR⟩ := h.tr
  have h0 : lvD d 0 = true := hr.1.root
  obtain ⟨h1, h2, h3, h4⟩ := lastLive_spec d h0 d.length
  by_cases hj : j < lastLive d d.length
  · unfold trimD nd
    rw [List.getElem?_take_of_lt hj]
  · have hz : nd (trimD d) j = zero := by
      apply nd_far
      unfold trimD
      simp
      omega
    rw [hz]
    cases hl : lvD d j with
    | true => exact absurd (h4 j (lv_lt hl) hl) hj
    | false => exact (h.dead j hl).symm

theorem chg_stays {P : Nat → Nd → Prop} {x : Chg} (hP : Stays P x) {d : Dc} (h : Tn.Good d) (hd : ∀ j, P j (nd d j)) (hi : isN d x.node false = true) (he : chgE d x = 0) : ∀ j, P j (nd (chgD d x) j) := by
  obtain ⟨k, hkn, hkl, hlv⟩ := isN_nat hi
  have hk : lvD d k = true := hlv
  have hkt : x.node.toNat = k := by omega
  obtain ⟨r, hr, hR⟩ := h.tr
  have hup : 0 < k → (nd d k).up.toNat < d.length := fun h0 => lv_lt (hr.1.upLive h0 hk)
  have htk : 0 < k → ∀ j, P j (nd (takeD d k) j) := fun h0 => withd_all (Nat.le_of_lt (hup h0)) hd (hP.take _ _ _ (hd _))
  unfold chgE at he
  unfold chgD
  by_cases e3 : x.kind = 3
  · rw [if_pos e3] at he ⊢
    unfold moveE at he
    split at he
    · cases he
    · rename_i g1
      have g2 : ¬ x.node = 0 ∧ isN d x.to true = true := by
        constructor
        · exact fun e => g1 (Or.inl e)
        · cases hb : isN d x.to true with
          | true => rfl
          | false => exact absurd (Or.inr hb) g1
      have h0 : 0 < k := by omega
      obtain ⟨t, htn, htl, htlv⟩ := isN_nat g2.2
      have htt : x.to.toNat = t := by omega
      have htag : has (nd d t).tag = true := by
        have := g2.2
        unfold isN at this
        rw [htn] at this
        simp at this
        exact this.2
      unfold moveD
      rw [hkt, htt]
      have tl := take_len (hup h0)
      have hw : ∀ j, P j (nd (withd (takeD d k) k { nd d k with up := x.to, inS := false }) j) := withd_all (by rw [tl]; omega) (htk h0) (hP.move _ _ _ _ (by omega) (hd k))
      have hwt : (nd (withd (takeD d k) k { nd d k with up := x.to, inS := false }) t).tag = (nd d t).tag := by
        rw [nd_withd _ _ _ (by rw [tl]; omega)]
        split
        · rename_i e
          rw [e]
        · exact take_tag (hup h0) t
      have hwl : (withd (takeD d k) k { nd d k with up := x.to, inS := false }).length = d.length := by
        unfold withd
        rw [if_neg (by rw [tl]; omega)]
        simp [tl]
      unfold put1
      refine withd_all (by rw [hwl]; omega) hw (hP.put _ _ _ _ (hw t) (by rw [hwt]; exact htag) (by simp))
  · rw [if_neg e3] at he ⊢
    by_cases e4 : x.kind = 4
    · rw [if_pos e4] at he ⊢
      split at he
      · cases he
      · have h0 : 0 < k := by omega
        unfold removeD
        rw [hkt]
        intro j
        rw [nd_gone _ _ (fun y hy => by rw [take_len (hup h0)]; exact all_lt' hr hk hy)]
        split
        · rename_i hm
          refine hP.zero j ?_
          rintro rfl
          have := hr.1.descRoot (all_desc hr fuel k 0 hm hk).2
          omega
        · exact htk h0 j
    · rw [if_neg e4] at he ⊢
      by_cases e7 : x.kind = 7
      · rw [if_pos e7] at he ⊢
        unfold sayE at he
        split at he
        · cases he
        · rename_i g
          unfold sayD
          rw [hkt] at g ⊢
          exact withd_all (by omega) hd (hP.say _ _ (hd k) (by
            cases hb : has (nd d k).tag with
            | false => rfl
            | true => exact absurd (Or.inl hb) g))
      · rw [if_neg e7] at he ⊢
        split at he
        · cases he
        · rename_i gt
          have htag : has (nd d k).tag = true := by rw [hkt] at gt; simpa using gt
          by_cases e5 : x.kind = 5
          · rw [if_pos e5]
            unfold attrD
            rw [hkt]
            exact withd_all (by omega) hd (hP.attr _ _ (hd k) htag)
          · rw [if_neg e5] at he ⊢
            by_cases e6 : x.kind = 6
            · rw [if_pos e6]
              unfold clearD
              rw [hkt]
              exact withd_all (by omega) hd (hP.clear _ _ (hd k) htag)
            · rw [if_neg e6] at he ⊢
              by_cases e8 : x.kind = 8
              · rw [if_pos e8] at he ⊢
                unfold shadE at he
                split at he
                · cases he
                · rename_i g
                  unfold shadD
                  rw [hkt]
                  exact withd_all (by omega) hd (hP.shad _ _ e8 (fun e => g (Or.inl (by omega))) (hd k) htag)
              · rw [if_neg e8] at he ⊢
                unfold makeE at he
                split at he
                · cases he
                · split at he
                  · cases he
                  · split at he
                    · cases he
                    · rename_i g8
                      split at he
                      · cases he
                      · obtain ⟨f1, f2⟩ := free_spec d
                        have hf0 : free d ≠ 0 := by
                          intro e
                          rw [e] at f2
                          have := hr.1.root
                          rw [f2] at this
                          cases this
                        have hfk : k ≠ free d := by
                          intro e
                          rw [e, f2] at hk
                          cases hk
                        have hw : ∀ j, P j (nd (mk1 d x) j) := by
                          unfold mk1
                          exact withd_all f1 hd (hP.new _ _ _ hf0)
                        have hn : nd (mk1 d x) k = nd d k := by
                          unfold mk1
                          rw [nd_withd _ _ _ f1, if_neg hfk]
                        have hl : d.length ≤ (mk1 d x).length := by
                          unfold mk1 withd
                          split <;> simp
                        unfold makeD put1
                        rw [hkt]
                        refine withd_all (by omega) hw (hP.put _ _ _ _ (hw k) (by rw [hn]; exact htag) (fun hs => ?_))
                        rw [hn]
                        rw [hkt] at g8
                        cases hb : (nd d k).hasS with
                        | true => rfl
                        | false => exact absurd ⟨hs, hb⟩ g8

theorem step_stays {P : Nat → Nd → Prop} {x : Chg} (hP : Stays P x) {d : Dc} (h : Tn.Good d) (hd : ∀ j, P j (nd d j)) : ∀ j, P j (nd (Tn.step d x) j) := by
  unfold Tn.step
  split
  · rename_i he
    have he' := he
    unfold applyE at he
    split at he
    · cases he
    · split at he
      · cases he
      · rename_i g
        intro j
        unfold applyD
        rw [nd_trim (chg_mid h x (by simpa using g) he)]
        exact chg_stays hP h hd (by simpa using g) he j
  · exact hd

theorem foldl_stays {P : Nat → Nd → Prop} : ∀ (l : List Chg) (_ : ∀ x ∈ l, Stays P x) (d : Dc), Tn.Good d → (∀ j, P j (nd d j)) → ∀ j, P j (nd (l.foldl Tn.step d) j)
  | [], _, _, _, hd => hd
  | x :: l, hl, d, h, hd => foldl_stays l (fun y hy => hl y (by simp [hy])) (Tn.step d x) (good_step h x) (step_stays (hl x (by simp)) h hd)

theorem build_stays {P : Nat → Nd → Prop} {l : List Chg} (hl : ∀ x ∈ l, Stays P x) (h0 : P 0 root) (hz : ∀ j, j ≠ 0 → P j Tn.zero) : ∀ j, P j (nd (Tn.build l) j) :=
  foldl_stays l hl _ good_root (fun j => by
    cases j with
    | zero => exact h0
    | succ j => rw [nd_far (by simp)]; exact hz _ (by omega))

/-- what is known of each node by itself -/
structure Fit (j : Nat) (n : Nd) : Prop where
  rise : Rising n.attrs
  text : has n.tag = false → n.attrs = [] ∧ n.kids = [] ∧ n.shadow = [] ∧ n.hasS = false
  noS : n.hasS = false → n.shadow = []
  root : j = 0 → n.hasS = false ∧ has n.tag = true ∧ n.inS = false

theorem lessS_or (a b : ByteArray) : lessS a b = true ∨ eqS a b = true ∨ lessS b a = true := by
  unfold lessS eqS
  by_cases h1 : a.toList < b.toList
  · left; simpa using h1
  · by_cases h2 : b.toList < a.toList
    · right; right; simpa using h2
    · right; left
      have := List.le_antisymm (List.not_lt.mp h2) (List.not_lt.mp h1)
      simp [this]

theorem eqS_lessL {a b c : ByteArray} (h : eqS a b = true) (h2 : lessS a c = true) : lessS b c = true := by
  unfold eqS at h
  unfold lessS at *
  have : a.toList = b.toList := by simpa using h
  rw [← this]
  exact h2

theorem fold_rise (name value : ByteArray) : ∀ (l out : List At) (dn : Bool), Rising out → Rising l → (∀ a ∈ out, ∀ b ∈ l, lessS a.1 b.1 = true) → (dn = false → ∀ a ∈ out, lessS a.1 name = true) → (dn = true → ∀ b ∈ l, lessS name b.1 = true) →
    Rising (l.foldl (aStep name value) (out, dn)).1 ∧ ((l.foldl (aStep name value) (out, dn)).2 = false → ∀ a ∈ (l.foldl (aStep name value) (out, dn)).1, lessS a.1 name = true)
  | [], out, dn, h1, _, _, h4, _ => ⟨h1, h4⟩
  | a :: l, out, dn, h1, h2, h3, h4, h5 => by
    rw [List.foldl_cons]
    have h2' : Rising l := (List.pairwise_cons.mp h2).2
    have hal : ∀ b ∈ l, lessS a.1 b.1 = true := (List.pairwise_cons.mp h2).1
    have hoa : ∀ c ∈ out, lessS c.1 a.1 = true := fun c hc => h3 c hc a (by simp)
    have hol : ∀ c ∈ out, ∀ b ∈ l, lessS c.1 b.1 = true := fun c hc b hb => h3 c hc b (by simp [hb])
    have app : ∀ y : At, (∀ c ∈ out, lessS c.1 y.1 = true) → Rising (out ++ [y]) := by
      intro y hy
      unfold Rising
      rw [List.pairwise_append]
      exact ⟨h1, List.pairwise_singleton _ _, fun c hc b hb => by rw [List.mem_singleton.mp hb]; exact hy c hc⟩
    unfold aStep
    split
    · rename_i e
      refine fold_rise name value l _ true (app _ hoa) h2' ?_ (by simp) (fun _ b hb => eqS_lessL e (hal b hb))
      intro c hc b hb
      rcases List.mem_append.mp hc with hc | hc
      · exact hol c hc b hb
      · rw [List.mem_singleton.mp hc]
        exact hal b hb
    · rename_i ne
      split
      · rename_i e
        have e' : lessS name a.1 = true ∧ dn = false := by simpa using e
        have hon := h4 e'.2
        refine fold_rise name value l _ true ?_ h2' ?_ (by simp) (fun _ b hb => less_trans e'.1 (hal b hb))
        · unfold Rising
          rw [List.pairwise_append]
          refine ⟨app _ hon, List.pairwise_singleton _ _, fun c hc b hb => ?_⟩
          rw [List.mem_singleton.mp hb]
          rcases List.mem_append.mp hc with hc | hc
          · exact hoa c hc
          · rw [List.mem_singleton.mp hc]
            exact e'.1
        · intro c hc b hb
          rcases List.mem_append.mp hc with hc | hc
          · rcases List.mem_append.mp hc with hc | hc
            · exact hol c hc b hb
            · rw [List.mem_singleton.mp hc]
              exact less_trans e'.1 (hal b hb)
          · rw [List.mem_singleton.mp hc]
            exact hal b hb
      · rename_i nl
        refine fold_rise name value l _ dn (app _ hoa) h2' ?_ ?_ (fun hd b hb => h5 hd b (by simp [hb]))
        · intro c hc b hb
          rcases List.mem_append.mp hc with hc | hc
          · exact hol c hc b hb
          · rw [List.mem_singleton.mp hc]
            exact hal b hb
        · intro hd c hc
          rcases List.mem_append.mp hc with hc | hc
          · exact h4 hd c hc
          · rw [List.mem_singleton.mp hc]
            rcases lessS_or a.1 name with g | g | g
            · exact g
            · exact absurd g ne
            · exact absurd (by simp [g, hd]) nl

theorem attrs_rise {l : List At} (h : Rising l) (name value : ByteArray) : Rising (attrsD l name value) := by
  have := fold_rise name value l [] false List.Pairwise.nil h (by simp) (by simp) (by simp)
  unfold attrsD aFold
  split
  · exact this.1
  · rename_i e
    unfold Rising
    rw [List.pairwise_append]
    exact ⟨this.1, List.pairwise_singleton _ _, fun c hc b hb => by rw [List.mem_singleton.mp hb]; exact this.2 (by simpa using e) c hc⟩

theorem tagged {n : Nd} {Q : Prop} (ht : has n.tag = true) (e : has n.tag = false) : Q := by rw [ht] at e; cases e
theorem hadS {n : Nd} {Q : Prop} (ht : n.hasS = true) (e : n.hasS = false) : Q := by rw [ht] at e; cases e
theorem fit_stays (x : Chg) : Stays Fit x := by
  refine ⟨?_, ?_, ?_, ?_, ?_, ?_, ?_, ?_, ?_⟩
  · intro j n k h
    refine ⟨h.rise, fun ht => ?_, fun hs => ?_, h.root⟩
    · obtain ⟨a, b, c, e⟩ := h.text ht
      exact ⟨a, by simp [b, without], by simp [c, without], e⟩
    · simp [h.noS hs, without]
  · intro j n u b hj h
    exact ⟨h.rise, h.text, h.noS, fun e => absurd e hj⟩
  · intro j n s l h ht hs
    cases s with
    | false => exact ⟨h.rise, tagged ht, h.noS, h.root⟩
    | true => exact ⟨h.rise, tagged ht, hadS (hs rfl), h.root⟩
  · intro j hj
    exact ⟨List.Pairwise.nil, fun _ => ⟨rfl, rfl, rfl, rfl⟩, fun _ => rfl, fun e => absurd e hj⟩
  · intro j n h ht
    exact ⟨h.rise, h.text, h.noS, h.root⟩
  · intro j n h ht
    exact ⟨attrs_rise h.rise _ _, tagged ht, h.noS, h.root⟩
  · intro j n h ht
    exact ⟨List.Pairwise.filter _ h.rise, tagged ht, h.noS, h.root⟩
  · intro j n _ hj h ht
    exact ⟨h.rise, tagged ht, (fun e => by cases e), fun e => absurd e hj⟩
  · intro j m s hj
    unfold newN
    split
    · exact ⟨List.Pairwise.nil, fun _ => ⟨rfl, rfl, rfl, rfl⟩, fun _ => rfl, fun e => absurd e hj⟩
    · exact ⟨List.Pairwise.nil, fun _ => ⟨rfl, rfl, rfl, rfl⟩, fun _ => rfl, fun e => absurd e hj⟩

theorem fit_root : Fit 0 root := ⟨List.Pairwise.nil, fun _ => ⟨rfl, rfl, rfl, rfl⟩, fun _ => rfl, fun _ => ⟨rfl, by unfold has; rw [ByteArray.toList_eq]; rfl, rfl⟩⟩

theorem build_fit (l : List Chg) : ∀ j, Fit j (nd (Tn.build l) j) := build_stays (fun x _ => fit_stays x) fit_root (fun j hj => (fit_stays ⟨0, 0, 0, 0, ⟨#[]⟩, ⟨#[]⟩⟩).zero j hj)

/-- no shadow trees -/
theorem plain_stays (x : Chg) (hx : x.kind ≠ 8) : Stays (fun _ n => n.hasS = false) x := by
  refine ⟨fun _ _ _ h => h, fun _ _ _ _ _ h => h, fun _ n s l h _ _ => ?_, fun _ _ => rfl, fun _ _ h _ => h, fun _ _ h _ => h, fun _ _ h _ => h, fun _ _ e => absurd e hx, fun _ m s _ => ?_⟩
  · cases s <;> exact h
  · unfold newN
    split <;> rfl

theorem build_plain {l : List Chg} (hl : ∀ x ∈ l, x.kind ≠ 8) (j : Nat) : (nd (Tn.build l) j).hasS = false := build_stays (P := fun _ n => n.hasS = false) (fun x hx => plain_stays x (hl x hx)) rfl (fun _ _ => rfl) j
end Go.Proofs.Ytookcjdibpccpab

/-
  WHAT package flat tells, in plain mathematics; the walks of flat.isSlotted, isSlot.
-/
namespace Go.Proofs.Ytookcjdibpccpab
open Go.RowKit

/-- an attribute of a node -/
def attrN (d : Tn.Dc) (k : Int) (name : ByteArray) : Option ByteArray := if Tn.isN d k true then Tn.attrOf (Tn.nd d k.toNat).attrs name else none
def valN (d : Tn.Dc) (k : Int) (name : ByteArray) : ByteArray := (attrN d k name).getD ⟨#[]⟩
def slotB : ByteArray := ⟨#[115, 108, 111, 116]⟩
def nameB : ByteArray := ⟨#[110, 97, 109, 101]⟩
theorem slotB_list : slotB.toList = [115, 108, 111, 116] := by rw [ByteArray.toList_eq]; rfl
def isSlotD (d : Tn.Dc) (n : Int) : Bool := Tn.isN d n true && ((Tn.nd d n.toNat).tag.toList == slotB.toList)
def slottedD (d : Tn.Dc) (n : Int) : Bool := Tn.isN d n false && !(Tn.nd d n.toNat).inS && Tn.isN d (Tn.nd d n.toNat).up true && (Tn.nd d (Tn.nd d n.toNat).up.toNat).hasS
def fitsD (d : Tn.Dc) (want : ByteArray) (host : Int) (k : Nat) : Bool := isSlotD d (k : Int) && ((valN d (k : Int) nameB).toList == want.toList) && (scopeD d (k : Int) == host)
def orI : Option Nat → Int
  | some k => (k : Int)
  | none => -1
def slotD (d : Tn.Dc) (n : Int) : Int :=
  if slottedD d n then orI ((Tn.all Tn.fuel d (Tn.nd d n.toNat).up.toNat).find? (fitsD d (valN d n slotB) (Tn.nd d n.toNat).up)) else -1
def givenD (d : Tn.Dc) (n : Int) : List Nat := if isSlotD d n then (Tn.nd d (scopeD d n).toNat).kids.filter (fun k => slotD d (k : Int) == n) else []
def kidsD (d : Tn.Dc) (n : Int) : List Nat :=
  if Tn.isN d n false then
    if (Tn.nd d n.toNat).hasS then (Tn.nd d n.toNat).shadow
    else if (givenD d n).isEmpty then (Tn.nd d n.toNat).kids else givenD d n
  else []
def upF (d : Tn.Dc) (n : Int) : Int :=
  if Tn.isN d n false then
    if (kidsD d (Tn.nd d n.toNat).up).contains n.toNat then (Tn.nd d n.toNat).up
    else if (kidsD d (slotD d n)).contains n.toNat then slotD d n else -1
  else -1
def shownF : Nat → Tn.Dc → Nat → List Nat
  | 0, _, _ => []
  | f + 1, d, n => n :: (kidsD d (n : Int)).flatMap (shownF f d)

/-- what the walks ask of a document -/
structure Okd (d : Tn.Dc) : Prop where
  tame : Tame d
  small : ∀ j s, (Tn.liD d j s).length ≤ 1000
  rise : ∀ k, Rising (Tn.nd d k).attrs
  few : ∀ k, (Tn.nd d k).attrs.length ≤ 1000
  root : Tn.lvD d 0 = true
  /-- each scope is a node -/
  scope : ∀ k : Nat, Tn.lvD d k = true → ∃ s : Nat, scopeD d (k : Int) = (s : Int) ∧ Tn.lvD d s = true

theorem isN_true {d : Tn.Dc} {n : Int} (h : Tn.isN d n true = true) : Tn.isN d n false = true := by
  unfold Tn.isN at *
  simp at *
  exact h.1

theorem dattr_all {w : World} {b o c : Nat} {rs : List Raw} {d : Tn.Dc} (hd : DocAt w b o c rs d) (hg : Okd d) (n : Int) (name : ByteArray) :
    Calls Try.prog 29 #[.slice (some ⟨b, o, none⟩) rs.length c, .int .i64 n, .string name] w fun e w' =>
      e = .returned (.tuple #[.string (valN d n name), .bool (attrN d n name).isSome]) ∧ Below w.heap.size w w' := by
  unfold valN attrN
  cases hn : Tn.isN d n true with
  | true =>
    rw [if_pos rfl]
    obtain ⟨k, rfl, _, _⟩ := isN_nat (isN_true hn)
    rw [Int.toNat_natCast]
    exact dattr_yes hd k hn (hg.rise k) (hg.few k) name
  | false =>
    rw [if_neg (by simp)]
    refine (dattr_no hd n hn _).mono ?_
    rintro e w' ⟨rfl, rfl⟩
    exact ⟨rfl, Below.refl _ _⟩

set_option maxHeartbeats 800000 in
theorem fisSlot_any {w : World} {b o c : Nat} {rs : List Raw} {d : Tn.Dc} (hd : DocAt w b o c rs d) (n : Int) :
    Calls Try.prog 43 #[.slice (some ⟨b, o, none⟩) rs.length c, .int .i64 n] w fun e w' => e = .returned (.bool (isSlotD d n)) ∧ w' = w := by
  have H : Hid (DocAt w b o c rs d) := hd
  clear hd
  cases his : Tn.isN d n true with
  | false =>
    have E : Hid (isSlotD d n = false) := by show _ = _; unfold isSlotD; rw [his]; rfl
    go_enter Try.func43, Try.ntmps43
    go_wp2_with (go_at_call 10; refine (dis_any H.out _ _).mono ?_; rintro e w' ⟨rfl, hww⟩; subst hww; rw [his])
    go_ret
    exact ⟨by rw [E.out]; rfl, rfl⟩
  | true =>
    obtain ⟨k, rfl, hk, hlv⟩ := isN_nat (isN_true his)
    have hk' : k < rs.length := by rw [H.out.len]; exact hk
    have h1 := H.out.row.c1 k hk'
    have E : Hid (isSlotD d (k : Int) = (rs[k].tag.toList == [115, 108, 111, 116])) := by
      show _ = _
      unfold isSlotD
      rw [his, Int.toNat_natCast, nd_at hk, (H.out.nds k hk' hk).tag, slotB_list]
      rfl
    generalize rs[k].tag = tg at *
    generalize isSlotD d (k : Int) = res at *
    clear hlv
    go_enter Try.func43, Try.ntmps43
    go_wp2_with (go_at_call 10; refine (dis_any H.out _ _).mono ?_; rintro e w' ⟨rfl, hww⟩; subst hww; rw [his])
    go_ret
    exact ⟨by rw [E.out]; simp, rfl⟩

set_option maxHeartbeats 1600000 in
theorem fslotted_any {w : World} {b o c : Nat} {rs : List Raw} {d : Tn.Dc} (hd : DocAt w b o c rs d) (n : Int) :
    Calls Try.prog 40 #[.slice (some ⟨b, o, none⟩) rs.length c, .int .i64 n] w fun e w' => e = .returned (.bool (slottedD d n)) ∧ w' = w := by
  have H : Hid (DocAt w b o c rs d) := hd
  clear hd
  cases his : Tn.isN d n false with
  | false =>
    have E : Hid (slottedD d n = false) := by show _ = _; unfold slottedD; rw [his]; rfl
    go_enter Try.func40, Try.ntmps40
    go_wp2_with (go_at_call 10; refine (dis_any H.out _ _).mono ?_; rintro e w' ⟨rfl, hww⟩; subst hww; rw [his])
    go_ret
    exact ⟨by rw [E.out]; rfl, rfl⟩
  | true =>
    obtain ⟨k, rfl, hk, hlv⟩ := isN_nat his
    have hk' : k < rs.length := by rw [H.out.len]; exact hk
    have h8 := H.out.row.c8 k hk'
    have h4 := H.out.row.c4 k hk'
    have E : Hid (slottedD d (k : Int) = (!rs[k].inS && Tn.isN d rs[k].up true && (Tn.nd d rs[k].up.toNat).hasS)) := by
      show _ = _
      unfold slottedD
      rw [his, Int.toNat_natCast, nd_at hk, ← (H.out.nds k hk' hk).inS, ← (H.out.nds k hk' hk).up]
      simp
    have U : Hid (∀ u : Nat, u < d.length → ∃ x, w.cell? ⟨b, o + u * 9 + 6, none⟩ = some (.bool x) ∧ x = (Tn.nd d u).hasS) := by
      intro u hu
      have hu' : u < rs.length := by rw [H.out.len]; exact hu
      exact ⟨_, H.out.row.c6 u hu', by rw [nd_at hu]; exact (H.out.nds u hu' hu).hasS⟩
    generalize rs[k].inS = is at *
    generalize rs[k].up = q at *
    generalize slottedD d (k : Int) = res at *
    clear hlv
    cases is with
    | true =>
      go_enter Try.func40, Try.ntmps40
      go_wp2_with (go_at_call 10; refine (dis_any H.out _ _).mono ?_; rintro e w' ⟨rfl, hww⟩; subst hww; rw [his])
      go_ret
      exact ⟨by rw [E.out]; rfl, rfl⟩
    | false =>
      cases hiu : Tn.isN d q true with
      | false =>
        have E2 : Hid (res = false) := by show _ = _; rw [E.out, hiu]; rfl
        go_enter Try.func40, Try.ntmps40
        go_wp2_with (go_at_call 10; refine (dis_any H.out _ _).mono ?_; rintro e w' ⟨rfl, hww⟩; subst hww; first | rw [his] | rw [hiu])
        go_ret
        exact ⟨by rw [E2.out]; rfl, rfl⟩
      | true =>
        obtain ⟨u, rfl, hu, _⟩ := isN_nat (isN_true hiu)
        have hur : u < rs.length := by rw [H.out.len]; exact hu
        obtain ⟨x, h6, hx⟩ := U.out u hu
        have E2 : Hid (res = x) := by show _ = _; rw [E.out, hiu, hx]; simp
        clear hx
        go_enter Try.func40, Try.ntmps40
        go_wp2_with (go_at_call 10; refine (dis_any H.out _ _).mono ?_; rintro e w' ⟨rfl, hww⟩; subst hww; first | rw [his] | rw [hiu])
        go_ret
        exact ⟨by rw [E2.out]; rfl, rfl⟩
end Go.Proofs.Ytookcjdibpccpab
