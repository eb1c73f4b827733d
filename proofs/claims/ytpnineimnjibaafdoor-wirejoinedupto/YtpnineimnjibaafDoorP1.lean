/-
  OWN WORK: Tit, Xma, Xia, Jev, Jby, Jwn, Oas, Nst, Xib, Jwi, Jyb.
-/
import Derived.Test.YtpnineimnjibaafDoorP0
import Derived.Deep.AppendLies
import Derived.Deep.Strs
import Derived.Test.YtpnineimnjibaafDoorProg
import Derived.Test.YtpnineimnjibaafDoorRows
import Derived.Deep.RegionHeld3
/-
  ITEMS in memory: how a slice of them reads, all the way down; one of the call's own; append.
-/
namespace Go.Proofs.YtpnineimnjibaafDoor
open Go.RowKit

theorem infoT : (Tryd.prog.info? 33).map (fun i => (i.zero, i.size, i.bytes)) = some (some (.agg #[.int .i64 0, .int .i64 0, .string ⟨#[]⟩, .string ⟨#[]⟩, .int .i64 0, .int .i64 0, .bool false, .slice none 0 0]), 8, 96) := by kernel_rfl

def itc (p : It × Value) : List Value := [iv p.1.node, .int .i64 p.1.role, .string p.1.name, .string p.1.about, .int .i64 p.1.level, .int .i64 p.1.checked, .bool p.1.off, p.2]
theorem itc_len (p : It × Value) : (itc p).length = 8 := rfl
/-- the cells of a row of items, whose lists of kids lie as kvs says -/
def cellsT (l : List It) (kvs : List Value) : List Value := (l.zip kvs).flatMap itc
theorem cellsT_len (l : List It) (kvs : List Value) (h : kvs.length = l.length) : (cellsT l kvs).length = l.length * 8 := by
  unfold cellsT
  rw [flat_len itc 8 itc_len, List.length_zip, h, Nat.min_self]
theorem cellsT_at (l : List It) (kvs : List Value) (h : kvs.length = l.length) (j i : Nat) (hj : j < l.length) (hi : i < 8) : (cellsT l kvs)[j * 8 + i]? = (itc (l[j], kvs[j]'(by omega)))[i]? := by
  unfold cellsT
  rw [flat_at itc 8 itc_len _ _ _ hi, List.getElem?_eq_getElem (by rw [List.length_zip]; omega), List.getElem_zip]
  rfl
/-- a slice of items, as it reads; all that is in it lies in blocks of P -/
inductive ItsAt (w : World) (P : Nat → Prop) : Value → List It → Prop
  | mk (p : Option Addr) (c : Nat) (xs : List It) (kvs : List Value) (hl : kvs.length = xs.length) (hc : CellsAt w (.slice p xs.length c) xs.length (cellsT xs kvs))
      (hP : ∀ a, p = some a → xs ≠ [] → P a.block) (hk : ∀ j (h : j < xs.length) (h' : j < kvs.length), ItsAt w P kvs[j] xs[j].kids) : ItsAt w P (.slice p xs.length c) xs

theorem ItsAt.shape {w : World} {P : Nat → Prop} {v : Value} {l : List It} (h : ItsAt w P v l) : ∃ p c, v = .slice p l.length c := by
  cases h with
  | mk p c xs kvs => exact ⟨_, _, rfl⟩
theorem ItsAt.one {w : World} {P : Nat → Prop} {v : Value} {l : List It} (h : ItsAt w P v l) : v.oneCell' = true := by
  obtain ⟨p, c, rfl⟩ := h.shape
  rfl
theorem ItsAt.nil (w : World) (P : Nat → Prop) : ItsAt w P (.slice none 0 0) [] :=
  .mk none 0 [] [] rfl ⟨none, 0, rfl, Nat.le_refl _, by decide, Or.inl ⟨rfl, rfl⟩, fun j x h => by simp [cellsT] at h⟩ (fun a e => by cases e) (fun j h => by simp at h)

/-- what lies in blocks that are as they were reads as it read -/
theorem ItsAt.frame {w w' : World} {P : Nat → Prop} {v : Value} {l : List It} (h : ItsAt w P v l) {Q : Nat → Prop} (hf : ∀ g, P g → g < w.heap.size → w'.heap[g]? = w.heap[g]? ∧ Q g) : ItsAt w' Q v l := by
  induction h with
  | mk p c xs kvs hl hc hP hk ih =>
    obtain ⟨p', c', e, h1, h2, h3, h4⟩ := hc
    cases e
    have key : ∀ j x, (cellsT xs kvs)[j]? = some x → ∀ b o, p = some ⟨b, o, none⟩ → w.cell? ⟨b, o + j, none⟩ = some x → w'.heap[b]? = w.heap[b]? ∧ Q b := fun j x hx b o e he => by
      have hne : xs ≠ [] := by
        rintro rfl
        simp [cellsT] at hx
      exact hf b (hP _ e hne) (lt_of_cell he)
    refine .mk p c xs kvs hl ⟨p, c, rfl, h1, h2, h3, fun j x hx => ?_⟩ (fun a e hne => ?_) (fun j h h' => ih j h h')
    · obtain ⟨b, o, e1, e2⟩ := h4 j x hx
      exact ⟨b, o, e1, by rw [← e2]; exact World.cell?_of_block (key j x hx b o e1 e2).1⟩
    · have h0 : 0 < xs.length := List.length_pos_iff.mpr hne
      obtain ⟨x, hx⟩ : ∃ x, (cellsT xs kvs)[0]? = some x := ⟨_, List.getElem?_eq_getElem (by rw [cellsT_len _ _ hl]; omega)⟩
      obtain ⟨b, o, e1, e2⟩ := h4 0 x hx
      rw [e] at e1
      cases e1
      exact (key 0 x hx b o e e2).2
theorem ItsAt.under {w w' : World} {P : Nat → Prop} {v : Value} {l : List It} (h : ItsAt w P v l) (hb : Below w.heap.size w w') : ItsAt w' P v l := h.frame (fun g hg hlt => ⟨hb.block g hlt, hg⟩)
theorem ItsAt.any {w : World} {P : Nat → Prop} {v : Value} {l : List It} (h : ItsAt w P v l) {Q : Nat → Prop} (hQ : ∀ g, P g → g < w.heap.size → Q g) : ItsAt w Q v l := h.frame (fun g hg hlt => ⟨rfl, hQ g hg hlt⟩)

/-- an item of a row: its cells -/
structure ItAt (w : World) (b o : Nat) (x : It) (kv : Value) : Prop where
  c0 : w.cell? ⟨b, o, none⟩ = some (.int .i64 (x.node : Int))
  c1 : w.cell? ⟨b, o + 1, none⟩ = some (.int .i64 x.role)
  c2 : w.cell? ⟨b, o + 2, none⟩ = some (.string x.name)
  c3 : w.cell? ⟨b, o + 3, none⟩ = some (.string x.about)
  c4 : w.cell? ⟨b, o + 4, none⟩ = some (.int .i64 x.level)
  c5 : w.cell? ⟨b, o + 5, none⟩ = some (.int .i64 x.checked)
  c6 : w.cell? ⟨b, o + 6, none⟩ = some (.bool x.off)
  c7 : w.cell? ⟨b, o + 7, none⟩ = some kv
theorem ItAt.keeps {w w' : World} {b o : Nat} {x : It} {kv : Value} (h : ItAt w b o x kv) (k : Keeps w w') : ItAt w' b o x kv := ⟨k _ _ h.c0, k _ _ h.c1, k _ _ h.c2, k _ _ h.c3, k _ _ h.c4, k _ _ h.c5, k _ _ h.c6, k _ _ h.c7⟩

theorem ItsAt.at {w : World} {P : Nat → Prop} {v : Value} {l : List It} (h : ItsAt w P v l) : ∃ p c, v = .slice p l.length c ∧ l.length ≤ c ∧ c ≤ 9223372036854775807 ∧
    ∀ j (hj : j < l.length), ∃ b o kv, p = some ⟨b, o, none⟩ ∧ P b ∧ ItAt w b (o + j * 8) l[j] kv ∧ ItsAt w P kv l[j].kids := by
  cases h with
  | mk p c xs kvs hl hc hP hk =>
    obtain ⟨p', c', e, h1, h2, h3, h4⟩ := hc
    cases e
    refine ⟨p, c, rfl, h1, by unfold maxLen at h2; omega, fun j hj => ?_⟩
    have hj' : j < kvs.length := by omega
    have hx : ∀ i, i < 8 → ∀ x, (itc (l[j], kvs[j]))[i]? = some x → ∃ b o, p = some ⟨b, o, none⟩ ∧ w.cell? ⟨b, o + j * 8 + i, none⟩ = some x := fun i hi x hx => by
      obtain ⟨b, o, e1, e2⟩ := h4 (j * 8 + i) x (by rw [cellsT_at l kvs hl j i hj hi]; exact hx)
      exact ⟨b, o, e1, by rw [Nat.add_assoc]; exact e2⟩
    obtain ⟨b, o, rfl, e0⟩ := hx 0 (by decide) _ rfl
    have hy : ∀ i, i < 8 → ∀ x, (itc (l[j], kvs[j]))[i]? = some x → w.cell? ⟨b, o + j * 8 + i, none⟩ = some x := fun i hi x h => by
      obtain ⟨b', o', e1, e2⟩ := hx i hi x h
      cases e1
      exact e2
    exact ⟨b, o, kvs[j], rfl, hP _ rfl (fun h => by subst h; simp at hj), ⟨e0, hy 1 (by decide) _ rfl, hy 2 (by decide) _ rfl, hy 3 (by decide) _ rfl, hy 4 (by decide) _ rfl, hy 5 (by decide) _ rfl, hy 6 (by decide) _ rfl, hy 7 (by decide) _ rfl⟩, hk j hj hj'⟩

/-- a row of items of the call's own, and all that is in them -/
def OwnT (w : World) (B : Nat) (v : Value) (l : List It) : Prop :=
  (l = [] → v = .slice none 0 0) ∧ ∃ kvs, kvs.length = l.length ∧ w.ownsRow B 33 8 v l.length (cellsT l kvs) ∧ ∀ j (h : j < l.length) (h' : j < kvs.length), ItsAt w (fun g => B ≤ g ∧ some g ≠ v.ownBlock) kvs[j] l[j].kids

theorem OwnT.nil (w : World) (B : Nat) : OwnT w B (.slice none 0 0) [] := ⟨fun _ => rfl, [], rfl, World.ownsRow_nil _ _ _ _, fun j h => by simp at h⟩
theorem OwnT.shape {w : World} {B : Nat} {v : Value} {l : List It} (h : OwnT w B v l) : ∃ p c, v = .slice p l.length c := by
  obtain ⟨_, _, _, h, _⟩ := h
  exact owns_shape h
theorem OwnT.row {w : World} {B : Nat} {v : Value} {l : List It} (h : OwnT w B v l) : ItsAt w (fun g => B ≤ g) v l := by
  obtain ⟨_, kvs, hl, ho, hk⟩ := h
  have hlt := ho.lt
  have hc := cells_of_owns ho
  obtain ⟨p, c, rfl⟩ := owns_shape ho
  exact .mk p c l kvs hl hc (fun a e _ => (hlt a.block (by rw [e]; rfl)).1) (fun j h h' => (hk j h h').any (fun g hg _ => hg.1))
theorem OwnT.lt {w : World} {B : Nat} {v : Value} {l : List It} (h : OwnT w B v l) : ∀ g, v.ownBlock = some g → B ≤ g ∧ g < w.heap.size := by
  obtain ⟨_, kvs, hl, ho, hk⟩ := h
  exact ho.lt
theorem OwnT.mono {w : World} {B C : Nat} {v : Value} {l : List It} (h : OwnT w B v l) (hC : C ≤ B) : OwnT w C v l := by
  obtain ⟨hn, kvs, hl, ho, hk⟩ := h
  refine ⟨hn, kvs, hl, ?_, fun j h h' => (hk j h h').any (fun g hg _ => ⟨Nat.le_trans hC hg.1, hg.2⟩)⟩
  obtain ⟨h1, h2⟩ := ho
  refine ⟨h1, ?_⟩
  rcases h2 with h2 | ⟨g, cap, cur, e, h3, h4⟩
  · exact Or.inl h2
  · exact Or.inr ⟨g, cap, cur, e, Nat.le_trans hC h3, h4⟩
theorem OwnT.bt {S : List Nat} {w w' : World} {B : Nat} {v : Value} {l : List It} (h : OwnT w B v l) (hb : Bt S w w') (hS : ∀ x ∈ S, x < B) : OwnT w' B v l := by
  obtain ⟨hn, kvs, hl, ho, hk⟩ := h
  exact ⟨hn, kvs, hl, hb.owns ho hS, fun j h h' => (hk j h h').frame (fun g hg hlt => ⟨hb.block g hlt (fun hx => by have := hS g hx; omega), hg⟩)⟩
theorem OwnT.below {w w' : World} {B : Nat} {v : Value} {l : List It} (h : OwnT w B v l) (hb : Below w.heap.size w w') : OwnT w' B v l := h.bt (S := []) (Bt.below hb) (by simp)

end Go.Proofs.YtpnineimnjibaafDoor

/-
  PLAIN MATHEMATICS of events: items in a forest, by their nodes: one taken out, one put in, one told otherwise; a forest is what stands in what, and what is told of each.
-/
namespace Go.Proofs.YtpnineimnjibaafDoor

theorem It.ind {P : It → Prop} {Q : List It → Prop} (h1 : ∀ x : It, Q x.kids → P x) (h2 : Q []) (h3 : ∀ x xs, P x → Q xs → Q (x :: xs)) : (∀ x, P x) ∧ ∀ l, Q l := by
  have key : ∀ m, (∀ x : It, (nodes1 x).length ≤ m → P x) ∧ ∀ l : List It, (nodesL l).length ≤ m → Q l := by
    intro m
    induction m with
    | zero =>
      refine ⟨fun x hx => absurd (nodes_pos x) (by omega), fun l hl => ?_⟩
      have : l = [] := by
        have := top_few l
        exact List.length_eq_zero_iff.mp (by omega)
      rw [this]
      exact h2
    | succ m ih =>
      have hP : ∀ x : It, (nodes1 x).length ≤ m + 1 → P x := fun x hx => h1 x (ih.2 x.kids (by rw [nodes1_eq, List.length_cons] at hx; omega))
      refine ⟨hP, fun l => ?_⟩
      induction l with
      | nil => exact fun _ => h2
      | cons x xs ihl =>
        intro hl
        rw [nodesL, List.length_append] at hl
        have := nodes_pos x
        exact h3 x xs (hP x (by omega)) (ihl (by omega))
  exact ⟨fun x => (key _).1 x (Nat.le_refl _), fun l => (key _).2 l (Nat.le_refl _)⟩

/-! ### what stands in what -/
/-- what is told of an item, but for what is in it -/
def It.says (x : It) : Int × ByteArray × ByteArray × Int × Int × Bool := (x.role, x.name, x.about, x.level, x.checked, x.off)
theorem It.same {x y : It} (h1 : x.node = y.node) (h2 : x.says = y.says) (h3 : x.kids = y.kids) : x = y := by
  cases x with
  | mk n r a b l c o ks =>
    cases y with
    | mk n' r' a' b' l' c' o' ks' =>
      simp only [It.node, It.says, It.role, It.name, It.about, It.level, It.checked, It.off, It.kids, Prod.mk.injEq] at h1 h2 h3
      obtain ⟨e1, e2, e3, e4, e5, e6⟩ := h2
      subst h1 h3 e1 e2 e3 e4 e5 e6
      rfl
/-! ### one goes, with all in it -/
/-! ### one comes, in another one -/
/-! ### one is told otherwise -/
def It.with (x : It) (ks : List It) : It := match x with | .mk k r a b l c o _ => .mk k r a b l c o ks
end Go.Proofs.YtpnineimnjibaafDoor

/-
  ITEMS that came in: how they read, all the way down, whatever their nodes (below 0, too).
-/
namespace Go.Proofs.YtpnineimnjibaafDoor
open Go.ChangeShapes Go.WideShapes Go.ChangeAt Go.RowKit

/-- an item with any number as its node -/
inductive Iz where
  | mk (node role : Int) (name about : ByteArray) (level checked : Int) (off : Bool) (kids : List Iz)
def Iz.node : Iz → Int | .mk n _ _ _ _ _ _ _ => n
def Iz.role : Iz → Int | .mk _ r _ _ _ _ _ _ => r
def Iz.name : Iz → ByteArray | .mk _ _ a _ _ _ _ _ => a
def Iz.about : Iz → ByteArray | .mk _ _ _ a _ _ _ _ => a
def Iz.level : Iz → Int | .mk _ _ _ _ l _ _ _ => l
def Iz.checked : Iz → Int | .mk _ _ _ _ _ c _ _ => c
def Iz.off : Iz → Bool | .mk _ _ _ _ _ _ o _ => o
def Iz.kids : Iz → List Iz | .mk _ _ _ _ _ _ _ k => k

/-! ### how much they hold -/
mutual
def bulk1 : Iz → Nat
  | .mk _ _ a b _ _ _ ks => 8 + a.size + b.size + bulkZ ks
def bulkZ : List Iz → Nat
  | [] => 0
  | x :: xs => bulk1 x + bulkZ xs
end
mutual
def nodes1Z : Iz → List Int
  | .mk n _ _ _ _ _ _ ks => n :: nodesZ ks
def nodesZ : List Iz → List Int
  | [] => []
  | x :: xs => nodes1Z x ++ nodesZ xs
end
theorem bulk1_eq (x : Iz) : bulk1 x = 8 + x.name.size + x.about.size + bulkZ x.kids := by cases x with | mk => rw [bulk1]; rfl
theorem nodes1Z_eq (x : Iz) : nodes1Z x = x.node :: nodesZ x.kids := by cases x with | mk => rw [nodes1Z]; rfl
theorem Iz.ind {P : Iz → Prop} {Q : List Iz → Prop} (h1 : ∀ x : Iz, Q x.kids → P x) (h2 : Q []) (h3 : ∀ x xs, P x → Q xs → Q (x :: xs)) : (∀ x, P x) ∧ ∀ l, Q l := by
  have key : ∀ m, (∀ x : Iz, bulk1 x ≤ m → P x) ∧ ∀ l : List Iz, bulkZ l ≤ m → Q l := by
    intro m
    induction m with
    | zero =>
      refine ⟨fun x hx => by rw [bulk1_eq] at hx; omega, fun l hl => ?_⟩
      cases l with
      | nil => exact h2
      | cons x l => rw [bulkZ, bulk1_eq] at hl; omega
    | succ m ih =>
      have hP : ∀ x : Iz, bulk1 x ≤ m + 1 → P x := fun x hx => h1 x (ih.2 x.kids (by rw [bulk1_eq] at hx; omega))
      refine ⟨hP, fun l => ?_⟩
      induction l with
      | nil => exact fun _ => h2
      | cons x xs ihl =>
        intro hl
        rw [bulkZ] at hl
        exact h3 x xs (hP x (by omega)) (ihl (by omega))
  exact ⟨fun x => (key _).1 x (Nat.le_refl _), fun l => (key _).2 l (Nat.le_refl _)⟩
theorem bulk_len : ∀ l : List Iz, 8 * l.length ≤ bulkZ l
  | [] => Nat.le_refl _
  | x :: l => by
    have := bulk_len l
    rw [bulkZ, bulk1_eq, List.length_cons]
    omega
/-! ### in memory -/
def izc (p : Iz × Value) : List Value := [.int .i64 p.1.node, .int .i64 p.1.role, .string p.1.name, .string p.1.about, .int .i64 p.1.level, .int .i64 p.1.checked, .bool p.1.off, p.2]
/-- an item of a row: its cells -/
structure IzAt (w : World) (b o : Nat) (x : Iz) (kv : Value) : Prop where
  c0 : w.cell? ⟨b, o, none⟩ = some (.int .i64 x.node)
  c1 : w.cell? ⟨b, o + 1, none⟩ = some (.int .i64 x.role)
  c2 : w.cell? ⟨b, o + 2, none⟩ = some (.string x.name)
  c3 : w.cell? ⟨b, o + 3, none⟩ = some (.string x.about)
  c4 : w.cell? ⟨b, o + 4, none⟩ = some (.int .i64 x.level)
  c5 : w.cell? ⟨b, o + 5, none⟩ = some (.int .i64 x.checked)
  c6 : w.cell? ⟨b, o + 6, none⟩ = some (.bool x.off)
  c7 : w.cell? ⟨b, o + 7, none⟩ = some kv
theorem IzAt.block {w w' : World} {b o : Nat} {x : Iz} {kv : Value} (h : IzAt w b o x kv) (e : w'.heap[b]? = w.heap[b]?) : IzAt w' b o x kv :=
  ⟨by rw [← h.c0]; exact World.cell?_of_block e, by rw [← h.c1]; exact World.cell?_of_block e, by rw [← h.c2]; exact World.cell?_of_block e, by rw [← h.c3]; exact World.cell?_of_block e, by rw [← h.c4]; exact World.cell?_of_block e, by rw [← h.c5]; exact World.cell?_of_block e, by rw [← h.c6]; exact World.cell?_of_block e, by rw [← h.c7]; exact World.cell?_of_block e⟩
/-- a slice of items, as it reads; all that is in it lies in blocks of P -/
inductive IzsAt (w : World) (P : Nat → Prop) : Value → List Iz → Prop
  | mk (p : Option Addr) (c : Nat) (xs : List Iz) (kvs : List Value) (hl : kvs.length = xs.length) (h1 : xs.length ≤ c) (h2 : c ≤ maxLen)
      (hc : ∀ j (h : j < xs.length) (h' : j < kvs.length), ∃ b o, p = some ⟨b, o, none⟩ ∧ P b ∧ IzAt w b (o + j * 8) xs[j] kvs[j]) (hk : ∀ j (h : j < xs.length) (h' : j < kvs.length), IzsAt w P kvs[j] xs[j].kids) : IzsAt w P (.slice p xs.length c) xs
theorem IzsAt.shape {w : World} {P : Nat → Prop} {v : Value} {l : List Iz} (h : IzsAt w P v l) : ∃ p c, v = .slice p l.length c := by
  cases h with
  | mk p c xs kvs => exact ⟨_, _, rfl⟩
theorem IzsAt.nil (w : World) (P : Nat → Prop) : IzsAt w P (.slice none 0 0) [] := .mk none 0 [] [] rfl (Nat.le_refl _) (by decide) (fun j h => by simp at h) (fun j h => by simp at h)
theorem IzsAt.at {w : World} {P : Nat → Prop} {v : Value} {l : List Iz} (h : IzsAt w P v l) : ∃ p c, v = .slice p l.length c ∧ l.length ≤ c ∧ c ≤ 9223372036854775807 ∧
    ∀ j (hj : j < l.length), ∃ b o kv, p = some ⟨b, o, none⟩ ∧ P b ∧ IzAt w b (o + j * 8) l[j] kv ∧ IzsAt w P kv l[j].kids := by
  cases h with
  | mk p c xs kvs hl h1 h2 hc hk =>
    refine ⟨p, c, rfl, h1, by unfold maxLen at h2; omega, fun j hj => ?_⟩
    obtain ⟨b, o, e, hb, h3⟩ := hc j hj (by omega)
    exact ⟨b, o, kvs[j]'(by omega), e, hb, h3, hk j hj (by omega)⟩
/-- what lies in blocks that are as they were reads as it read -/
theorem IzsAt.frame {w w' : World} {P : Nat → Prop} {v : Value} {l : List Iz} (h : IzsAt w P v l) {Q : Nat → Prop} (hf : ∀ g, P g → g < w.heap.size → w'.heap[g]? = w.heap[g]? ∧ Q g) : IzsAt w' Q v l := by
  induction h with
  | mk p c xs kvs hl h1 h2 hc hk ih =>
    refine .mk p c xs kvs hl h1 h2 (fun j h h' => ?_) (fun j h h' => ih j h h')
    obtain ⟨b, o, e, hb, h3⟩ := hc j h h'
    obtain ⟨e2, hq⟩ := hf b hb (lt_of_cell h3.c0)
    exact ⟨b, o, e, hq, h3.block e2⟩
theorem IzsAt.under {w w' : World} {P : Nat → Prop} {v : Value} {l : List Iz} (h : IzsAt w P v l) (hb : Below w.heap.size w w') : IzsAt w' P v l := h.frame (fun g hg hlt => ⟨hb.block g hlt, hg⟩)

/-! ### items whose nodes are none below 0 -/
mutual
def ofIt : It → Iz
  | .mk n r a b l c o ks => .mk n r a b l c o (ofIts ks)
def ofIts : List It → List Iz
  | [] => []
  | x :: xs => ofIt x :: ofIts xs
end
theorem ItAt.any {w : World} {b o : Nat} {x : It} {kv : Value} (h : ItAt w b o x kv) : IzAt w b o (ofIt x) kv := by
  cases x with
  | mk =>
    rw [ofIt]
    exact ⟨h.c0, h.c1, h.c2, h.c3, h.c4, h.c5, h.c6, h.c7⟩
/-! ### what came in -/
theorem cellsT8 : Tryd.prog.cellsOf 33 = 8 := by kernel_rfl
theorem cellsTs : Tryd.prog.cellsOf 31 = 1 := by kernel_rfl
theorem cellsB1 : Tryd.prog.cellsOf 4 = 1 := by kernel_rfl
theorem bulk_all_mem {H : Type} {l : List (DataW H)} {d : DataW H} (h : d ∈ l) : Rows.uptoBulk d ≤ Rows.uptoBulkAll l := by
  induction l with
  | nil => simp at h
  | cons x l ih =>
    rw [Rows.uptoBulkAll]
    rcases List.mem_cons.mp h with rfl | h
    · omega
    · have := ih h
      omega
theorem bulk_range {H : Type} {D : Nat → DataW H} {X : Nat → Iz} : ∀ (js : List Nat), (∀ j ∈ js, bulk1 (X j) ≤ Rows.uptoBulk (D j)) → bulkZ (js.map X) ≤ Rows.uptoBulkAll (js.map D)
  | [], _ => Nat.le_refl _
  | j :: js, h => by
    rw [List.map_cons, List.map_cons, bulkZ, Rows.uptoBulkAll]
    have h1 := h j (by simp)
    have h2 := bulk_range js (fun i hi => h i (by simp [hi]))
    omega

end Go.Proofs.YtpnineimnjibaafDoor

/-
  EVENTS that came in: how they read, whatever their numbers.
-/
namespace Go.Proofs.YtpnineimnjibaafDoor
open Go.ChangeShapes Go.WideShapes Go.ChangeAt Go.RowKit

/-- an event, with an item of any number -/
structure Ez where
  kind : Int
  node : Int
  tgt : Int
  at_ : Int
  item : Iz
def ezc (p : Ez × Value) : List Value := [.int .i64 p.1.kind, .int .i64 p.1.node, .int .i64 p.1.tgt, .int .i64 p.1.at_] ++ izc (p.1.item, p.2)
/-- all its numbers are of 64 bits -/
def I64 (z : Int) : Prop := -9223372036854775808 ≤ z ∧ z ≤ 9223372036854775807
/-- an event of a row: its cells -/
structure EzAt (w : World) (b o : Nat) (e : Ez) (kv : Value) : Prop where
  c0 : w.cell? ⟨b, o, none⟩ = some (.int .i64 e.kind)
  c1 : w.cell? ⟨b, o + 1, none⟩ = some (.int .i64 e.node)
  c2 : w.cell? ⟨b, o + 2, none⟩ = some (.int .i64 e.tgt)
  c3 : w.cell? ⟨b, o + 3, none⟩ = some (.int .i64 e.at_)
  it : IzAt w b (o + 4) e.item kv
def EzsAt (w : World) (P : Nat → Prop) (v : Value) (l : List Ez) : Prop := ∃ p c, v = .slice p l.length c ∧ l.length ≤ c ∧ c ≤ 9223372036854775807 ∧
  ∀ j (hj : j < l.length), ∃ b o kv, p = some ⟨b, o, none⟩ ∧ P b ∧ EzAt w b (o + j * 12) l[j] kv ∧ IzsAt w P kv l[j].item.kids
theorem EzAt.block {w w' : World} {b o : Nat} {x : Ez} {kv : Value} (h : EzAt w b o x kv) (e : w'.heap[b]? = w.heap[b]?) : EzAt w' b o x kv :=
  ⟨by rw [← h.c0]; exact World.cell?_of_block e, by rw [← h.c1]; exact World.cell?_of_block e, by rw [← h.c2]; exact World.cell?_of_block e, by rw [← h.c3]; exact World.cell?_of_block e, h.it.block e⟩
theorem EzsAt.frame {w w' : World} {P : Nat → Prop} {v : Value} {l : List Ez} (h : EzsAt w P v l) {Q : Nat → Prop} (hf : ∀ g, P g → g < w.heap.size → w'.heap[g]? = w.heap[g]? ∧ Q g) : EzsAt w' Q v l := by
  obtain ⟨p, c, e, h1, h2, h3⟩ := h
  refine ⟨p, c, e, h1, h2, fun j hj => ?_⟩
  obtain ⟨b, o, kv, e1, hb, h4, h5⟩ := h3 j hj
  obtain ⟨e2, hq⟩ := hf b hb (lt_of_cell h4.c0)
  exact ⟨b, o, kv, e1, hq, h4.block e2, h5.frame hf⟩
def bulkE : List Ez → Nat
  | [] => 0
  | e :: l => 4 + bulk1 e.item + bulkE l
theorem bulkE_range {H : Type} {D : Nat → DataW H} {X : Nat → Ez} : ∀ (js : List Nat), (∀ j ∈ js, 4 + bulk1 (X j).item ≤ Rows.uptoBulk (D j)) → bulkE (js.map X) ≤ Rows.uptoBulkAll (js.map D)
  | [], _ => Nat.le_refl _
  | j :: js, h => by
    rw [List.map_cons, List.map_cons, bulkE, Rows.uptoBulkAll]
    have h1 := h j (by simp)
    have h2 := bulkE_range js (fun i hi => h i (by simp [hi]))
    omega
theorem bulkE_mem {l : List Ez} {e : Ez} (h : e ∈ l) : bulk1 e.item ≤ bulkE l := by
  induction l with
  | nil => simp at h
  | cons y l ih =>
    rw [bulkE]
    rcases List.mem_cons.mp h with rfl | h
    · omega
    · have := ih h; omega
theorem bulkE_len : ∀ l : List Ez, 12 * l.length ≤ bulkE l
  | [] => Nat.le_refl _
  | e :: l => by
    have := bulkE_len l
    rw [bulkE, bulk1_eq, List.length_cons]
    omega
theorem cellsE12 : Tryd.prog.cellsOf 35 = 12 := by kernel_rfl
set_option maxRecDepth 100000 in
theorem open_event {H : Type} {enc : TypeId × Value → H} {W : World} {base n : Nat} {sp : Nat → Bool} {held : Bool} {cs : List Value} {y : DataW H × List MemPlace} (h : DataW.trod enc Tryd.prog W base sp held n 35 cs = some y) :
    ∃ (z0 z1 z2 z3 : Int) (c8 : List Value) (y4 : DataW H × List MemPlace) (m : Nat), cs = [.int .i64 z0, .int .i64 z1, .int .i64 z2, .int .i64 z3] ++ c8 ∧
      DataW.trod enc Tryd.prog W base sp held m 33 c8 = some y4 ∧ Rows.uptoBulk y4.1 + 4 ≤ Rows.uptoBulk y.1 ∧ I64 z0 ∧ I64 z1 ∧ I64 z2 ∧ I64 z3 := by
  obtain ⟨xs, k, _, hy, hl, hx, hf⟩ := DataW.trod_struct Tryd.underlying35 h
  rw [cellsE12] at hl
  have hx5 : xs.length = 5 := hx
  clear hx
  match cs, hl, xs, hx5 with
  | [c0, c1, c2, c3, c4, c5, c6, c7, c8, c9, c10, c11], _, [y0, y1, y2, y3, y4], _ =>
    have g0 := hf 0 _ rfl
    have g1 := hf 1 _ rfl
    have g2 := hf 2 _ rfl
    have g3 := hf 3 _ rfl
    have g4 := hf 4 _ rfl
    simp [cellsI, cellsT8] at g0 g1 g2 g3 g4
    obtain ⟨z0, e0, f0, w0⟩ := DataW.trod_int Tryd.underlying3 g0
    obtain ⟨z1, e1, f1, w1⟩ := DataW.trod_int Tryd.underlying3 g1
    obtain ⟨z2, e2, f2, w2⟩ := DataW.trod_int Tryd.underlying3 g2
    obtain ⟨z3, e3, f3, w3⟩ := DataW.trod_int Tryd.underlying3 g3
    simp at e0 e1 e2 e3
    refine ⟨z0, z1, z2, z3, [c4, c5, c6, c7, c8, c9, c10, c11], y4, k, by rw [e0, e1, e2, e3]; rfl, g4, ?_, bounds_i64 w0, bounds_i64 w1, bounds_i64 w2, bounds_i64 w3⟩
    rw [hy, f0, f1, f2, f3]
    simp only [List.map_cons, List.map_nil, Rows.uptoBulk, Rows.uptoBulkAll]
    omega
end Go.Proofs.YtpnineimnjibaafDoor

/-
  PLAIN MATHEMATICS: items and events as bytes, and the item, the event, the events that stand first in bytes.
-/
namespace Go.Proofs.YtpnineimnjibaafDoor
open Go.Lib

/-! ### as bytes -/
def textB (s : ByteArray) : Bs := numB (s.size : Int) ++ s.data.toList
def flagB (b : Bool) : Bs := numB (if b then 1 else 0)
def headB (x : Iz) : Bs := numB x.node ++ (numB x.role ++ (numB x.level ++ (numB x.checked ++ (flagB x.off ++ (textB x.name ++ (textB x.about ++ numB (x.kids.length : Int)))))))
mutual
def itemB : Iz → Bs
  | .mk n r a b l c o ks => headB (.mk n r a b l c o ks) ++ itemsB ks
def itemsB : List Iz → Bs
  | [] => []
  | x :: xs => itemB x ++ itemsB xs
end
theorem itemB_eq (x : Iz) : itemB x = headB x ++ itemsB x.kids := by cases x with | mk => rw [itemB]; rfl
theorem itemsB_app : ∀ l m : List Iz, itemsB (l ++ m) = itemsB l ++ itemsB m
  | [], m => by rw [List.nil_append, itemsB, List.nil_append]
  | x :: l, m => by rw [List.cons_append, itemsB, itemsB, itemsB_app l m, List.append_assoc]
theorem itemsB_one (x : Iz) : itemsB [x] = itemB x := by rw [itemsB, itemsB, List.append_nil]
def evHeadB (e : Ez) : Bs := numB e.kind ++ (numB e.node ++ (numB e.tgt ++ numB e.at_))
def eventB (e : Ez) : Bs := evHeadB e ++ itemB e.item
def eventsB : List Ez → Bs
  | [] => []
  | e :: l => eventB e ++ eventsB l
theorem eventsB_app : ∀ l m : List Ez, eventsB (l ++ m) = eventsB l ++ eventsB m
  | [], m => by rw [List.nil_append, eventsB, List.nil_append]
  | x :: l, m => by rw [List.cons_append, eventsB, eventsB, eventsB_app l m, List.append_assoc]
theorem eventsB_snoc (l : List Ez) (e : Ez) : eventsB (l ++ [e]) = eventsB l ++ eventB e := by rw [eventsB_app, eventsB, eventsB, List.append_nil]

/-! ### all numbers of an item, and of what is in it, are of 64 bits -/
mutual
def Num1 : Iz → Prop
  | .mk n r a b l c _ ks => (I6 n ∧ I6 r ∧ I6 l ∧ I6 c ∧ I6 (a.size : Int) ∧ I6 (b.size : Int) ∧ I6 (ks.length : Int)) ∧ NumZ ks
def NumZ : List Iz → Prop
  | [] => True
  | x :: xs => Num1 x ∧ NumZ xs
end
def Head6 (x : Iz) : Prop := I6 x.node ∧ I6 x.role ∧ I6 x.level ∧ I6 x.checked ∧ I6 (x.name.size : Int) ∧ I6 (x.about.size : Int) ∧ I6 (x.kids.length : Int)
theorem num1_eq (x : Iz) : Num1 x ↔ Head6 x ∧ NumZ x.kids := by cases x with | mk => rw [Num1]; exact Iff.rfl
theorem numZ_mem : ∀ {l : List Iz}, NumZ l ↔ ∀ x ∈ l, Num1 x
  | [] => by rw [NumZ]; simp
  | x :: l => by rw [NumZ, numZ_mem]; simp
/-! ### how deep it goes -/
mutual
def deep1 : Iz → Nat
  | .mk _ _ _ _ _ _ _ ks => deepZ ks + 1
def deepZ : List Iz → Nat
  | [] => 0
  | x :: xs => max (deep1 x) (deepZ xs)
end
theorem deep1_eq (x : Iz) : deep1 x = deepZ x.kids + 1 := by cases x with | mk => rw [deep1]; rfl
theorem deepZ_le {d : Nat} : ∀ {l : List Iz}, deepZ l ≤ d ↔ ∀ x ∈ l, deep1 x ≤ d
  | [] => by rw [deepZ]; simp
  | x :: l => by rw [deepZ, Nat.max_le, deepZ_le]; simp

/-! ### what stands first -/
def takeFlag (l : Bs) : Option (Bool × Bs) := (takeNum l).bind fun p => if p.1 = 0 then some (false, p.2) else if p.1 = 1 then some (true, p.2) else none
def takeCount (l : Bs) : Option (Nat × Bs) := (takeNum l).bind fun p => if 0 ≤ p.1 then some (p.1.toNat, p.2) else none
def takeText (l : Bs) : Option (ByteArray × Bs) := (takeCount l).bind fun p => if p.1 ≤ p.2.length then some (⟨(p.2.take p.1).toArray⟩, p.2.drop p.1) else none
def takeMany (f : Bs → Option (Iz × Bs)) : Nat → Bs → Option (List Iz × Bs)
  | 0, l => some ([], l)
  | n + 1, l => (f l).bind fun p => (takeMany f n p.2).bind fun q => some (p.1 :: q.1, q.2)
def takeHead (l : Bs) : Option ((Int × Int × Int × Int × Bool × ByteArray × ByteArray × Nat) × Bs) :=
  (takeNum l).bind fun p0 => (takeNum p0.2).bind fun p1 => (takeNum p1.2).bind fun p2 => (takeNum p2.2).bind fun p3 => (takeFlag p3.2).bind fun p4 =>
    (takeText p4.2).bind fun p5 => (takeText p5.2).bind fun p6 => (takeCount p6.2).bind fun p7 => some ((p0.1, p1.1, p2.1, p3.1, p4.1, p5.1, p6.1, p7.1), p7.2)
def takeItem : Nat → Bs → Option (Iz × Bs)
  | 0, _ => none
  | d + 1, l => (takeHead l).bind fun p => (takeMany (takeItem d) p.1.2.2.2.2.2.2.2 p.2).bind fun q =>
      some (.mk p.1.1 p.1.2.1 p.1.2.2.2.2.2.1 p.1.2.2.2.2.2.2.1 p.1.2.2.1 p.1.2.2.2.1 p.1.2.2.2.2.1 q.1, q.2)
def takeEvent (l : Bs) : Option (Ez × Bs) :=
  (takeNum l).bind fun p0 => (takeNum p0.2).bind fun p1 => (takeNum p1.2).bind fun p2 => (takeNum p2.2).bind fun p3 => (takeItem 61 p3.2).bind fun p4 => some (⟨p0.1, p1.1, p2.1, p3.1, p4.1⟩, p4.2)
def parseN : Nat → Bs → Option (List Ez)
  | 0, l => if l = [] then some [] else none
  | k + 1, l => if l = [] then some [] else (takeEvent l).bind fun p => (parseN k p.2).bind fun q => some (p.1 :: q)
def parseF (l : Bs) : Option (List Ez) := parseN l.length l

theorem takeFlag_iff {l r : Bs} {b : Bool} : takeFlag l = some (b, r) ↔ l = flagB b ++ r := by
  unfold takeFlag flagB
  constructor
  · intro h
    cases ht : takeNum l with
    | none => rw [ht] at h; cases h
    | some p =>
      obtain ⟨n, r'⟩ := p
      rw [ht] at h
      obtain ⟨e, _⟩ := takeNum_iff.mp ht
      simp only [Option.bind_some] at h
      split at h
      · rename_i e0; cases h; rw [e, e0]; rfl
      · split at h
        · rename_i e1; cases h; rw [e, e1]; rfl
        · cases h
  · rintro rfl
    rw [takeNum_num (by cases b <;> (unfold I6; decide))]
    cases b <;> rfl
theorem takeCount_iff {l r : Bs} {n : Nat} : takeCount l = some (n, r) ↔ l = numB (n : Int) ++ r ∧ I6 (n : Int) := by
  unfold takeCount
  constructor
  · intro h
    cases ht : takeNum l with
    | none => rw [ht] at h; cases h
    | some p =>
      obtain ⟨m, r'⟩ := p
      rw [ht] at h
      obtain ⟨e, hi⟩ := takeNum_iff.mp ht
      simp only [Option.bind_some] at h
      split at h
      · rename_i h0
        cases h
        rw [Int.toNat_of_nonneg h0]
        exact ⟨e, hi⟩
      · cases h
  · rintro ⟨rfl, hi⟩
    rw [takeNum_num hi]
    simp
theorem takeText_iff {l r : Bs} {s : ByteArray} : takeText l = some (s, r) ↔ l = textB s ++ r ∧ I6 (s.size : Int) := by
  unfold takeText textB
  constructor
  · intro h
    cases ht : takeCount l with
    | none => rw [ht] at h; cases h
    | some p =>
      obtain ⟨m, r'⟩ := p
      rw [ht] at h
      obtain ⟨e, hi⟩ := takeCount_iff.mp ht
      simp only [Option.bind_some] at h
      split at h
      · rename_i h0
        cases h
        have hs : (⟨(r'.take m).toArray⟩ : ByteArray).size = m := by
          show (r'.take m).toArray.size = m
          rw [List.size_toArray, List.length_take]
          omega
        rw [hs]
        refine ⟨?_, hi⟩
        rw [e, List.append_assoc]
        congr 1
        exact (List.take_append_drop m r').symm
      · cases h
  · rintro ⟨rfl, hi⟩
    rw [List.append_assoc, takeCount_iff.mpr ⟨rfl, hi⟩]
    have hl : s.data.toList.length = s.size := rfl
    simp only [Option.bind_some]
    rw [if_pos (by rw [List.length_append]; omega), ← hl, List.take_left, List.drop_left]
theorem takeMany_iff {f : Bs → Option (Iz × Bs)} {Q : Iz → Prop} (hf : ∀ l x r, f l = some (x, r) ↔ l = itemB x ++ r ∧ Q x) :
    ∀ {n : Nat} {l r : Bs} {xs : List Iz}, takeMany f n l = some (xs, r) ↔ l = itemsB xs ++ r ∧ xs.length = n ∧ ∀ x ∈ xs, Q x
  | 0, l, r, xs => by
    rw [takeMany]
    constructor
    · intro h; cases h; exact ⟨by rw [itemsB, List.nil_append], rfl, fun x hx => by simp at hx⟩
    · rintro ⟨rfl, h, _⟩
      rw [List.length_eq_zero_iff] at h
      subst h
      rw [itemsB, List.nil_append]
  | n + 1, l, r, xs => by
    rw [takeMany]
    constructor
    · intro h
      cases h1 : f l with
      | none => rw [h1] at h; cases h
      | some p =>
        obtain ⟨x, r1⟩ := p
        rw [h1, Option.bind_some] at h
        cases h2 : takeMany f n r1 with
        | none => rw [h2] at h; cases h
        | some q =>
          obtain ⟨ys, r2⟩ := q
          rw [h2] at h
          cases h
          obtain ⟨e1, q1⟩ := (hf _ _ _).mp h1
          obtain ⟨e2, e3, q2⟩ := (takeMany_iff hf).mp h2
          refine ⟨by rw [itemsB, List.append_assoc, ← e2, e1], by rw [List.length_cons, e3], fun y hy => ?_⟩
          rcases List.mem_cons.mp hy with rfl | hy
          · exact q1
          · exact q2 y hy
    · rintro ⟨rfl, h, hq⟩
      match xs, h, hq with
      | x :: ys, h, hq =>
        rw [itemsB, List.append_assoc, (hf _ _ _).mpr ⟨rfl, hq x (by simp)⟩, Option.bind_some, (takeMany_iff hf).mpr ⟨rfl, by simpa using h, fun y hy => hq y (by simp [hy])⟩]
        rfl
theorem takeHead_iff {l r : Bs} {n ro le ch : Int} {o : Bool} {a b : ByteArray} {k : Nat} : takeHead l = some ((n, ro, le, ch, o, a, b, k), r) ↔
    l = numB n ++ (numB ro ++ (numB le ++ (numB ch ++ (flagB o ++ (textB a ++ (textB b ++ (numB (k : Int) ++ r))))))) ∧ I6 n ∧ I6 ro ∧ I6 le ∧ I6 ch ∧ I6 (a.size : Int) ∧ I6 (b.size : Int) ∧ I6 (k : Int) := by
  unfold takeHead
  constructor
  · intro h
    cases h0 : takeNum l with
    | none => rw [h0] at h; cases h
    | some p0 =>
    rw [h0, Option.bind_some] at h
    cases h1 : takeNum p0.2 with
    | none => rw [h1] at h; cases h
    | some p1 =>
    rw [h1, Option.bind_some] at h
    cases h2 : takeNum p1.2 with
    | none => rw [h2] at h; cases h
    | some p2 =>
    rw [h2, Option.bind_some] at h
    cases h3 : takeNum p2.2 with
    | none => rw [h3] at h; cases h
    | some p3 =>
    rw [h3, Option.bind_some] at h
    cases h4 : takeFlag p3.2 with
    | none => rw [h4] at h; cases h
    | some p4 =>
    rw [h4, Option.bind_some] at h
    cases h5 : takeText p4.2 with
    | none => rw [h5] at h; cases h
    | some p5 =>
    rw [h5, Option.bind_some] at h
    cases h6 : takeText p5.2 with
    | none => rw [h6] at h; cases h
    | some p6 =>
    rw [h6, Option.bind_some] at h
    cases h7 : takeCount p6.2 with
    | none => rw [h7] at h; cases h
    | some p7 =>
    rw [h7, Option.bind_some] at h
    cases h
    obtain ⟨e0, i0⟩ := takeNum_iff.mp (show takeNum l = some (p0.1, p0.2) from h0)
    obtain ⟨e1, i1⟩ := takeNum_iff.mp (show takeNum p0.2 = some (p1.1, p1.2) from h1)
    obtain ⟨e2, i2⟩ := takeNum_iff.mp (show takeNum p1.2 = some (p2.1, p2.2) from h2)
    obtain ⟨e3, i3⟩ := takeNum_iff.mp (show takeNum p2.2 = some (p3.1, p3.2) from h3)
    have e4 := takeFlag_iff.mp (show takeFlag p3.2 = some (p4.1, p4.2) from h4)
    obtain ⟨e5, i5⟩ := takeText_iff.mp (show takeText p4.2 = some (p5.1, p5.2) from h5)
    obtain ⟨e6, i6⟩ := takeText_iff.mp (show takeText p5.2 = some (p6.1, p6.2) from h6)
    obtain ⟨e7, i7⟩ := takeCount_iff.mp (show takeCount p6.2 = some (p7.1, p7.2) from h7)
    exact ⟨by rw [← e7, ← e6, ← e5, ← e4, ← e3, ← e2, ← e1, ← e0], i0, i1, i2, i3, i5, i6, i7⟩
  · rintro ⟨rfl, i0, i1, i2, i3, i5, i6, i7⟩
    rw [takeNum_num i0, Option.bind_some, takeNum_num i1, Option.bind_some, takeNum_num i2, Option.bind_some, takeNum_num i3, Option.bind_some, takeFlag_iff.mpr rfl, Option.bind_some,
      takeText_iff.mpr ⟨rfl, i5⟩, Option.bind_some, takeText_iff.mpr ⟨rfl, i6⟩, Option.bind_some, takeCount_iff.mpr ⟨rfl, i7⟩, Option.bind_some]
theorem takeItem_iff : ∀ (d : Nat) (l : Bs) (x : Iz) (r : Bs), takeItem d l = some (x, r) ↔ l = itemB x ++ r ∧ (Num1 x ∧ deep1 x ≤ d)
  | 0, l, x, r => by
    rw [takeItem, deep1_eq]
    constructor
    · intro h; cases h
    · rintro ⟨_, _, h⟩; omega
  | d + 1, l, x, r => by
    have hm := fun n l r xs => takeMany_iff (takeItem_iff d) (n := n) (l := l) (r := r) (xs := xs)
    rw [takeItem, itemB_eq, num1_eq, deep1_eq]
    constructor
    · intro h
      cases h1 : takeHead l with
      | none => rw [h1] at h; cases h
      | some p =>
        obtain ⟨⟨n, ro, le, ch, o, a, b, k⟩, r1⟩ := p
        rw [h1, Option.bind_some] at h
        cases h2 : takeMany (takeItem d) k r1 with
        | none => simp only [h2, Option.bind_none] at h; cases h
        | some q =>
          obtain ⟨xs, r2⟩ := q
          simp only [h2, Option.bind_some] at h
          cases h
          obtain ⟨e1, i0, i1, i2, i3, i5, i6, i7⟩ := takeHead_iff.mp h1
          obtain ⟨e2, e3, hq⟩ := (hm _ _ _ _).mp h2
          subst e3
          refine ⟨?_, ⟨⟨i0, i1, i2, i3, i5, i6, i7⟩, numZ_mem.mpr (fun y hy => (hq y hy).1)⟩, ?_⟩
          · rw [e1, e2]
            simp only [headB, List.append_assoc]
            rfl
          · exact Nat.succ_le_succ (deepZ_le.mpr (fun y hy => (hq y hy).2))
    · rintro ⟨rfl, ⟨⟨i0, i1, i2, i3, i5, i6, i7⟩, hn⟩, hd⟩
      have h1 : takeHead ((headB x ++ itemsB x.kids) ++ r) = some ((x.node, x.role, x.level, x.checked, x.off, x.name, x.about, x.kids.length), itemsB x.kids ++ r) :=
        takeHead_iff.mpr ⟨by simp only [headB, List.append_assoc], i0, i1, i2, i3, i5, i6, i7⟩
      have h2 : takeMany (takeItem d) x.kids.length (itemsB x.kids ++ r) = some (x.kids, r) := (hm _ _ _ _).mpr ⟨rfl, rfl, fun y hy => ⟨numZ_mem.mp hn y hy, deepZ_le.mp (Nat.le_of_succ_le_succ hd) y hy⟩⟩
      rw [h1, Option.bind_some]
      simp only [h2, Option.bind_some]
      cases x with
      | mk => rfl

/-- an event that Parse reads -/
def EvGood (e : Ez) : Prop := I6 e.kind ∧ I6 e.node ∧ I6 e.tgt ∧ I6 e.at_ ∧ Num1 e.item ∧ deep1 e.item ≤ 61
theorem takeEvent_iff {l r : Bs} {e : Ez} : takeEvent l = some (e, r) ↔ l = eventB e ++ r ∧ EvGood e := by
  unfold takeEvent
  constructor
  · intro h
    cases h0 : takeNum l with
    | none => rw [h0] at h; cases h
    | some p0 =>
    rw [h0, Option.bind_some] at h
    cases h1 : takeNum p0.2 with
    | none => rw [h1] at h; cases h
    | some p1 =>
    rw [h1, Option.bind_some] at h
    cases h2 : takeNum p1.2 with
    | none => rw [h2] at h; cases h
    | some p2 =>
    rw [h2, Option.bind_some] at h
    cases h3 : takeNum p2.2 with
    | none => rw [h3] at h; cases h
    | some p3 =>
    rw [h3, Option.bind_some] at h
    cases h4 : takeItem 61 p3.2 with
    | none => rw [h4] at h; cases h
    | some p4 =>
    rw [h4, Option.bind_some] at h
    cases h
    obtain ⟨e0, i0⟩ := takeNum_iff.mp (show takeNum l = some (p0.1, p0.2) from h0)
    obtain ⟨e1, i1⟩ := takeNum_iff.mp (show takeNum p0.2 = some (p1.1, p1.2) from h1)
    obtain ⟨e2, i2⟩ := takeNum_iff.mp (show takeNum p1.2 = some (p2.1, p2.2) from h2)
    obtain ⟨e3, i3⟩ := takeNum_iff.mp (show takeNum p2.2 = some (p3.1, p3.2) from h3)
    obtain ⟨e4, i4⟩ := (takeItem_iff 61 p3.2 p4.1 p4.2).mp h4
    refine ⟨?_, i0, i1, i2, i3, i4.1, i4.2⟩
    simp only [eventB, evHeadB, List.append_assoc]
    rw [← e4, ← e3, ← e2, ← e1, ← e0]
  · rintro ⟨rfl, i0, i1, i2, i3, i4⟩
    simp only [eventB, evHeadB, List.append_assoc]
    rw [takeNum_num i0, Option.bind_some, takeNum_num i1, Option.bind_some, takeNum_num i2, Option.bind_some, takeNum_num i3, Option.bind_some, (takeItem_iff 61 _ _ _).mpr ⟨rfl, i4⟩]
    rfl
theorem headB_ge (x : Iz) : 2 ≤ (headB x).length := by
  have := numB_ge x.node
  unfold headB
  rw [List.length_append]
  omega
theorem itemB_ge (x : Iz) : 2 ≤ (itemB x).length := by
  have := headB_ge x
  rw [itemB_eq, List.length_append]
  omega
theorem eventB_ge (e : Ez) : 2 ≤ (eventB e).length := by
  have := itemB_ge e.item
  unfold eventB
  rw [List.length_append]
  omega
theorem takeItem_lt {d : Nat} {l r : Bs} {x : Iz} (h : takeItem d l = some (x, r)) : r.length + 2 ≤ l.length := by
  have := itemB_ge x
  rw [((takeItem_iff _ _ _ _).mp h).1, List.length_append]
  omega
theorem takeEvent_lt {l r : Bs} {e : Ez} (h : takeEvent l = some (e, r)) : r.length + 2 ≤ l.length := by
  have := eventB_ge e
  rw [(takeEvent_iff.mp h).1, List.length_append]
  omega
theorem parseN_iff : ∀ (k : Nat) {l : Bs} (_ : l.length ≤ k) {m : List Ez}, parseN k l = some m ↔ l = eventsB m ∧ ∀ e ∈ m, EvGood e
  | 0, l, hk, m => by
    obtain rfl : l = [] := List.length_eq_zero_iff.mp (by omega)
    rw [parseN, if_pos rfl]
    constructor
    · intro h; cases h; exact ⟨rfl, fun e he => by simp at he⟩
    · rintro ⟨h, _⟩
      cases m with
      | nil => rfl
      | cons e m =>
        have := eventB_ge e
        have h2 := congrArg List.length h
        rw [eventsB, List.length_append, List.length_nil] at h2
        omega
  | k + 1, l, hk, m => by
    rw [parseN]
    by_cases h0 : l = []
    · subst h0
      rw [if_pos rfl]
      constructor
      · intro h; cases h; exact ⟨rfl, fun e he => by simp at he⟩
      · rintro ⟨h, _⟩
        cases m with
        | nil => rfl
        | cons e m =>
          have := eventB_ge e
          have h2 := congrArg List.length h
          rw [eventsB, List.length_append, List.length_nil] at h2
          omega
    · rw [if_neg h0]
      constructor
      · intro h
        cases h1 : takeEvent l with
        | none => rw [h1] at h; cases h
        | some p =>
          rw [h1, Option.bind_some] at h
          cases h2 : parseN k p.2 with
          | none => rw [h2] at h; cases h
          | some q =>
            rw [h2] at h
            cases h
            have hlt := takeEvent_lt (show takeEvent l = some (p.1, p.2) from h1)
            obtain ⟨e1, g1⟩ := takeEvent_iff.mp (show takeEvent l = some (p.1, p.2) from h1)
            obtain ⟨e2, g2⟩ := (parseN_iff k (by omega)).mp h2
            refine ⟨by rw [eventsB, ← e2, ← e1], fun e he => ?_⟩
            rcases List.mem_cons.mp he with rfl | he
            · exact g1
            · exact g2 e he
      · rintro ⟨rfl, hg⟩
        cases m with
        | nil => exact absurd rfl h0
        | cons e m =>
          rw [eventsB] at hk ⊢
          have h1 := takeEvent_iff.mpr ⟨(rfl : eventB e ++ eventsB m = eventB e ++ eventsB m), hg e (by simp)⟩
          have hlt := takeEvent_lt h1
          rw [h1, Option.bind_some, (parseN_iff k (by omega)).mpr ⟨rfl, fun e he => hg e (by simp [he])⟩]
          rfl
/-- what is read: the events of which these are the bytes -/
theorem parse_iff {l : Bs} {m : List Ez} : parseF l = some m ↔ l = eventsB m ∧ ∀ e ∈ m, EvGood e := parseN_iff _ (Nat.le_refl _)
theorem parse_nil : parseF [] = some [] := rfl
theorem parse_step {l r : Bs} {e : Ez} (h : takeEvent l = some (e, r)) : parseF l = (parseF r).map (e :: ·) := by
  obtain ⟨e1, g1⟩ := takeEvent_iff.mp h
  cases hr : parseF r with
  | some m =>
    obtain ⟨e2, g2⟩ := parse_iff.mp hr
    exact parse_iff.mpr ⟨by rw [eventsB, ← e2, ← e1], fun x hx => by
      rcases List.mem_cons.mp hx with rfl | hx
      · exact g1
      · exact g2 x hx⟩
  | none =>
    cases hl : parseF l with
    | none => rfl
    | some m =>
      obtain ⟨e2, g2⟩ := parse_iff.mp hl
      cases m with
      | nil =>
        have := eventB_ge e
        have h2 := congrArg List.length (e1.symm.trans e2)
        rw [eventsB, List.length_append, List.length_nil] at h2
        omega
      | cons y m =>
        have h3 := takeEvent_iff.mpr ⟨e2, g2 y (by simp)⟩
        rw [h] at h3
        cases h3
        have h4 : parseF (eventsB m) = some m := parse_iff.mpr ⟨rfl, fun x hx => g2 x (List.mem_cons_of_mem _ hx)⟩
        rw [hr] at h4
        cases h4
theorem parse_fail {l : Bs} (h0 : l ≠ []) (h : takeEvent l = none) : parseF l = none := by
  cases hl : parseF l with
  | none => rfl
  | some m =>
    obtain ⟨e2, g2⟩ := parse_iff.mp hl
    cases m with
    | nil => exact absurd e2 h0
    | cons y m =>
      have h3 := takeEvent_iff.mpr ⟨e2, g2 y (by simp)⟩
      rw [h] at h3
      cases h3

/-! ### one behind the other -/
/-- items take room -/
theorem takeMany_lt {d : Nat} : ∀ {n : Nat} {l r : Bs} {xs : List Iz}, takeMany (takeItem d) n l = some (xs, r) → r.length + n ≤ l.length
  | 0, l, r, xs, h => by rw [takeMany] at h; cases h; omega
  | n + 1, l, r, xs, h => by
    rw [takeMany] at h
    cases h1 : takeItem d l with
    | none => rw [h1] at h; cases h
    | some p =>
      rw [h1, Option.bind_some] at h
      cases h2 : takeMany (takeItem d) n p.2 with
      | none => rw [h2] at h; cases h
      | some q =>
        rw [h2] at h
        cases h
        have h3 := takeItem_lt (show takeItem d l = some (p.1, p.2) from h1)
        have h4 := takeMany_lt (show takeMany (takeItem d) n p.2 = some (q.1, q.2) from h2)
        omega
end Go.Proofs.YtpnineimnjibaafDoor

/-
  THE WALKS of wire's writeNumbers, writeText and flag.
-/
namespace Go.Proofs.YtpnineimnjibaafDoor
open Go.RowKit Go.Lib

def numsB (zs : List Int) : Bs := zs.flatMap numB
theorem numsB_snoc (zs : List Int) (z : Int) : numsB (zs ++ [z]) = numsB zs ++ numB z := by simp [numsB]
theorem numsB_le {zs : List Int} (h : ∀ z ∈ zs, I6 z) : (numsB zs).length ≤ 21 * zs.length := by
  induction zs with
  | nil => simp [numsB]
  | cons z zs ih =>
    have h1 := numB_le (h z (by simp))
    have h2 := ih (fun y hy => h y (by simp [hy]))
    unfold numsB at *
    rw [List.flatMap_cons, List.length_append, List.length_cons]
    omega
theorem cell_of_block {w : World} {g : Nat} {cs : Array Value} {t : TypeId} (h : w.heap[g]? = some (.cells cs t)) (j : Nat) : w.cell? ⟨g, j, none⟩ = cs[j]? := by simp [World.cell?, h]

set_option maxHeartbeats 1600000 in
theorem ywritenums {w : World} {B : Nat} {v : Value} {l : Bs} (ho : OwnB w B v l) (hB : B ≤ w.heap.size) (hL : LtB B w) {zs : List Int} (hz : ∀ z ∈ zs, I6 z) (hn : zs.length ≤ 10) (hsz : l.length ≤ 900000000)
    {g : Nat} (hg : w.heap[g]? = some (.cells (zs.map fun z => Value.int .i64 z).toArray 3)) :
    Calls Tryd.prog 16 #[v, .slice (some ⟨g, 0, none⟩) zs.length zs.length] w fun e w' => ∃ v', e = .returned v' ∧ OwnB w' B v' (l ++ numsB zs) ∧ Wb B w w' := by
  have HO : Hid (OwnB w B v l) := ho
  have HL : Hid (LtB B w) := hL
  have HB : Hid (B ≤ w.heap.size) := hB
  have HG : Hid (w.heap[g]? = some (.cells (zs.map fun z => Value.int .i64 z).toArray 3)) := hg
  have HZ : Hid (∀ z ∈ zs, I6 z) := hz
  have HS : Hid (∀ j, (l ++ numsB (zs.take j)).length ≤ 900000300) := fun j => by
    have h1 := numsB_le (zs := zs.take j) (fun z h => hz z (List.mem_of_mem_take h))
    have h2 : (zs.take j).length ≤ 10 := by rw [List.length_take]; omega
    rw [List.length_append]
    omega
  obtain ⟨p, c, rfl⟩ := ho.shape
  clear ho hL hB hz hg hsz
  go_enter Tryd.func16, Tryd.ntmps16
  go_wp2_with fail
  go_loopw [0, 9] (fun bv iv wr => ∃ (j : Nat), j ≤ zs.length ∧ iv = .int .i64 j ∧ Hid (OwnB wr B bv (l ++ numsB (zs.take j))) ∧ Hid (Wb B w wr)) (fun _ iv _ => zs.length - (RowKit.intOf iv).toNat)
  case atStart => exact ⟨0, Nat.zero_le _, rfl, by simpa [numsB] using HO, Wb.refl _ _⟩
  case round =>
    obtain ⟨j, hj, rfl, HR, HW⟩ := hrel
    by_cases hlt : j < zs.length
    · have hb : B ≤ wr.heap.size := Nat.le_trans HB.out HW.out.size
      have cj : wr.cell? ⟨g, j, none⟩ = some (.int .i64 zs[j]) := by
        rw [cell_of_block (HW.out.held HG.out (by decide)) j]
        simp [List.getElem?_eq_getElem hlt]
      have C := yappendint HR.out hb (by have := HS.out j; omega) (HL.out.on HW.out.bel) (HZ.out _ (List.getElem_mem hlt))
      have HE : Hid (l ++ numsB (zs.take (j + 1)) = ((l ++ numsB (zs.take j)) ++ itoa zs[j]) ++ [32]) := by
        show _ = _
        rw [List.take_succ_eq_append_getElem hlt, numsB_snoc, numB]
        simp
      have HQ : Hid (((l ++ numsB (zs.take j)) ++ itoa zs[j]).length ≤ 1000000000) := by
        have h1 := HS.out j
        have h2 := itoa_le20 (HZ.out _ (List.getElem_mem hlt))
        show _ ≤ _
        rw [List.length_append]
        omega
      have HB2 : Hid (B ≤ wr.heap.size) := hb
      clear HR hb
      generalize (l ++ numsB (zs.take j)) ++ itoa zs[j] = l2 at *
      generalize l ++ numsB (zs.take j) = l1 at *
      generalize zs[j] = z at *
      go_wp2_with (go_at_call 25; refine C.mono ?_; clear C; rintro e w5 ⟨v5, rfl, ho5, hb5⟩; refine Hid.out ?_)
      refine Lib.hid ?_
      have HB5 : Hid (B ≤ w5.heap.size) := Nat.le_trans HB2.out hb5.size
      have HW5 : Hid (Wb B w w5) := HW.out.trans hb5
      have HO5 : Hid (OwnB w5 B v5 l2) := ho5
      clear HW HB2 ho5 hb5
      go_wp2_with (at_builtin; refine append_blank rfl _ _ rfl rfl (by simp [Act.eval]) HO5.out HB5.out HQ.out ?_; intro v6 w6 o6 k6)
      have HO6 : Hid (OwnB w6 B v6 (l2 ++ [32])) := o6
      have HW6 : Hid (Wb B w w6) := HW5.out.trans k6
      clear o6 k6 HO5 HW5
      go_wp2_with fail
      go_roundw
      case rel => exact ⟨j + 1, by omega, by go_num, by rw [HE.out]; exact HO6, HW6⟩
      case measure => simp [RowKit.intOf]; omega
    · obtain rfl : j = zs.length := by omega
      rw [List.take_length] at HR
      go_wp2_with fail
      go_ret
      exact ⟨_, rfl, HR.out, HW.out⟩

theorem yflag_any (b : Bool) (w : World) : Calls Tryd.prog 26 #[.bool b] w fun e w' => e = .returned (.int .i64 (if b then 1 else 0)) ∧ w' = w := by
  cases b with
  | false =>
    go_enter Tryd.func26, Tryd.ntmps26
    go_wp2_with fail
    go_ret
    exact ⟨rfl, rfl⟩
  | true =>
    go_enter Tryd.func26, Tryd.ntmps26
    go_wp2_with fail
    go_ret
    exact ⟨rfl, rfl⟩

set_option maxHeartbeats 1600000 in
theorem ywritetext {w : World} {B : Nat} {v : Value} {l : Bs} (ho : OwnB w B v l) (hB : B ≤ w.heap.size) (hL : LtB B w) (s : ByteArray) (hsz : l.length + s.size ≤ 800000000) :
    Calls Tryd.prog 27 #[v, .string s] w fun e w' => ∃ v', e = .returned v' ∧ OwnB w' B v' (l ++ textB s) ∧ Wb B w w' := by
  have C := ywritenums (w := w.alloc (.cells #[.int .i64 (s.size : Int)] 3)) (ho.alloc _) (by simp; omega) (hL.on ((Below.refl _ _).alloc hB _)) (zs := [(s.size : Int)]) (fun z hz => by simp at hz; subst hz; exact ⟨by omega, by omega⟩) (by simp) (by omega)
    (g := w.heap.size) (by rw [heap_alloc_new]; rfl)
  have HW : Hid (Wb B w (w.alloc (.cells #[.int .i64 (s.size : Int)] 3))) := (Wb.refl B w).alloc hB _
  have HQ : Hid ((l ++ numsB [(s.size : Int)]).length + s.size ≤ 1000000000) := by
    have h1 := numsB_le (zs := [(s.size : Int)]) (fun z hz => by simp at hz; subst hz; exact ⟨by omega, by omega⟩)
    show _ ≤ _
    rw [List.length_append]
    simp only [List.length_cons, List.length_nil] at h1
    omega
  have HE : Hid (l ++ textB s = (l ++ numsB [(s.size : Int)]) ++ s.data.toList) := by
    show _ = _
    simp [textB, numsB]
  have HB : Hid (B ≤ w.heap.size) := hB
  simp only [List.length_cons, List.length_nil, Nat.zero_add] at C
  obtain ⟨p, c, rfl⟩ := ho.shape
  clear ho hB hL hsz
  generalize l ++ numsB [(s.size : Int)] = l2 at *
  go_enter Tryd.func27, Tryd.ntmps27
  go_wp2_with (first
    | (go_at_call 16; refine C.mono ?_; clear C; rintro e w5 ⟨v5, rfl, ho5, hb5⟩; have HO5 : Hid (OwnB w5 B v5 l2) := ho5; have HW5 : Hid (Wb B w w5) := HW.out.trans hb5; clear ho5 hb5; refine Hid.out ?_))
  refine Lib.hid ?_
  have HB5 : Hid (B ≤ w5.heap.size) := Nat.le_trans HB.out HW5.out.size
  go_wp2_with (at_builtin; refine append_text rfl _ _ rfl rfl (by simp [Act.eval]) HO5.out HB5.out HQ.out ?_; intro v6 w6 o6 k6)
  go_ret
  exact ⟨_, rfl, by rw [HE.out]; exact o6, HW5.out.trans k6⟩
end Go.Proofs.YtpnineimnjibaafDoor

/-
  THE WALK of tnlaw5's RoleAsked; a slice of strings that came in, as it reads.
-/
namespace Go.Proofs.YtpnineimnjibaafDoor
open Go.RowKit

section
open Go.ChangeShapes Go.WideShapes Go.ChangeAt
end

end Go.Proofs.YtpnineimnjibaafDoor

/-
  ROWS of the call's own: texts, and numbers that may be below zero; append, with all other blocks as they were.
-/
namespace Go.Proofs.YtpnineimnjibaafDoor
open Go.RowKit

def zv (k : Int) : Value := .int .i64 k
def OwnZ (w : World) (B : Nat) (v : Value) (l : List Int) : Prop := w.ownsRow B 3 1 v l.length (l.map zv)
def ZsAt (w : World) (v : Value) (l : List Int) : Prop := CellsAt w v l.length (l.map zv)
theorem OwnZ.nil (w : World) (B : Nat) : OwnZ w B (.slice none 0 0) [] := World.ownsRow_nil _ _ _ _
theorem zs_of_owns {w : World} {B : Nat} {v : Value} {l : List Int} (h : OwnZ w B v l) : ZsAt w v l := cells_of_owns h
theorem ZsAt.keeps {w w' : World} {v : Value} {l : List Int} (h : ZsAt w v l) (k : Keeps w w') : ZsAt w' v l := CellsAt.keeps h k
theorem ZsAt.at {w : World} {v : Value} {l : List Int} (h : ZsAt w v l) : ∃ p c, v = .slice p l.length c ∧ l.length ≤ c ∧ c ≤ 9223372036854775807 ∧
    ∀ j (hj : j < l.length), ∃ b o, p = some ⟨b, o, none⟩ ∧ w.cell? ⟨b, o + j, none⟩ = some (.int .i64 l[j]) := by
  obtain ⟨p, c, e, h1, h2, h3, h4⟩ := h
  refine ⟨p, c, e, h1, by unfold maxLen at h2; omega, fun j hj => ?_⟩
  obtain ⟨b, o, e1, e2⟩ := h4 j (zv l[j]) (by simp [hj])
  exact ⟨b, o, e1, e2⟩
theorem append_z {wr : World} {ops : Array Oper} {rest : List Oper} {o : Oper} {a : Act} {Q : Exit → Act → World → Prop} (hgd : o.guard = none)
    (s x : Operand) (ho : o.op = Op.call { callee := Callee.builtin Builtin.append, args := #[s, x], argTypes := #[40, 40] }) {B : Nat} {v : Value} {l : List Int} (t : Int)
    (hs : a.eval s = v) (hx : a.eval x = .slice (some ⟨wr.heap.size, 0, none⟩) 1 1) (hown : OwnZ wr B v l) (hB : B ≤ wr.heap.size) (hsz : l.length ≤ 1000000000)
    (h : ∀ v' w1, OwnZ w1 B v' (l ++ [t]) → Below B wr w1 → wpList Tryd.prog ops Q rest (a.put o.dst v') w1) :
    wpList Tryd.prog ops Q (o :: rest) a (wr.alloc (.cells #[.int .i64 t] 3)) := by
  obtain ⟨i0, hi, hz0, hz1, hz2⟩ := info_parts infoI
  unfold OwnZ at hown h
  refine wpList_append_own _ hgd s x 40 ho B 3 i0 (.int .i64 0) 1 8 Tryd.underlying40 hi hz0 hz1 hz2 rfl (by decide) v _ _ hs (hown.alloc _) ⟨_, 0, none⟩ 1 1 [zv t] hx rfl ?_ ?_ ?_ ?_ ?_ ?_
  · exact cell_one_new _ _ _
  · intro u hu; simp at hu; subst hu; rfl
  · unfold maxLen; omega
  · omega
  · simp; omega
  · intro v' w1 h1 h2 _
    exact h v' w1 (by simpa using h1) (((Below.refl B wr).alloc hB (.cells #[.int .i64 t] 3)).grown h2 (by simp; omega) (fun j hj => (hown.lt j hj).1))

end Go.Proofs.YtpnineimnjibaafDoor

/-
  THE WALK of the reference's Nodes, at items that came in.
-/
namespace Go.Proofs.YtpnineimnjibaafDoor
open Go.RowKit

theorem nodesZ_len (x : Iz) : 1 ≤ (nodes1Z x).length := by rw [nodes1Z_eq, List.length_cons]; omega
theorem topZ_few : ∀ l : List Iz, l.length ≤ (nodesZ l).length
  | [] => Nat.zero_le _
  | x :: l => by
    rw [nodesZ, List.length_append, List.length_cons]
    have h1 := nodesZ_len x
    have h2 := topZ_few l
    omega
theorem nodesZ_lt : ∀ (l : List Iz) (j : Nat) (h : j < l.length), (nodesZ l[j].kids).length < (nodesZ l).length
  | [], _, h => by simp at h
  | x :: l, 0, _ => by
    rw [nodesZ, List.length_append, List.getElem_cons_zero, nodes1Z_eq, List.length_cons]
    omega
  | x :: l, j + 1, h => by
    have := nodesZ_lt l j (by simpa using h)
    rw [nodesZ, List.length_append, List.getElem_cons_succ]
    omega
end Go.Proofs.YtpnineimnjibaafDoor

/-
  THE WALK of wire's writeItem.
-/
namespace Go.Proofs.YtpnineimnjibaafDoor
open Go.RowKit Go.Lib

theorem itemsB_take : ∀ (l : List Iz) (j : Nat) (h : j < l.length), itemsB (l.take (j + 1)) = itemsB (l.take j) ++ itemB l[j] := by
  intro l j h
  rw [List.take_succ_eq_append_getElem h, itemsB_app, itemsB_one]
theorem itemsB_take_le (l : List Iz) (j : Nat) : (itemsB (l.take j)).length ≤ (itemsB l).length := by
  have e : l = l.take j ++ l.drop j := (List.take_append_drop j l).symm
  have h : (itemsB l).length = (itemsB (l.take j)).length + (itemsB (l.drop j)).length := by
    conv => lhs; rw [e, itemsB_app, List.length_append]
  omega
theorem flag_nums (x : Iz) : headB x = (((numsB [x.node, x.role, x.level, x.checked, (if x.off then 1 else 0)]) ++ textB x.name) ++ textB x.about) ++ numsB [(x.kids.length : Int)] := by
  simp [headB, numsB, flagB]
/-- an item by value -/
def itV (x : Iz) (kv : Value) : Value := .agg #[.int .i64 x.node, .int .i64 x.role, .string x.name, .string x.about, .int .i64 x.level, .int .i64 x.checked, .bool x.off, kv]

set_option maxHeartbeats 3200000 in
set_option maxRecDepth 100000 in
theorem ywriteitem {B : Nat} {P : Nat → Prop} (hP : ∀ g, P g → g < B) (m : Nat) : ∀ (x : Iz) (kv v : Value) (l : Bs) (w : World), deep1 x ≤ m → IzsAt w P kv x.kids → Num1 x → OwnB w B v l → B ≤ w.heap.size → LtB B w → (l ++ itemB x).length ≤ 700000000 →
    Calls Tryd.prog 17 #[v, itV x kv] w fun e w' => ∃ v', e = .returned v' ∧ OwnB w' B v' (l ++ itemB x) ∧ Wb B w w' := by
  induction m with
  | zero => intro x kv v l w hd; rw [deep1_eq] at hd; omega
  | succ m ih =>
    intro x kv v l w hd hr hn ho hB hL hsz
    rw [deep1_eq] at hd
    obtain ⟨h6, hnk⟩ := (num1_eq x).mp hn
    obtain ⟨i0, i1, i2, i3, i5, i6, i7⟩ := h6
    have ZL : Hid (l ++ itemB x = l ++ headB x ++ itemsB x.kids) := by show _ = _; rw [itemB_eq, List.append_assoc]
    have ZH : Hid (l ++ headB x = (((l ++ numsB [x.node, x.role, x.level, x.checked, (if x.off then 1 else 0)]) ++ textB x.name) ++ textB x.about) ++ numsB [(x.kids.length : Int)]) := by
      show _ = _
      rw [flag_nums]
      simp only [List.append_assoc]
    have hall : (l ++ headB x).length + (itemsB x.kids).length ≤ 700000000 := by rw [← List.length_append, ← ZL.out]; exact hsz
    have hhd := congrArg List.length ZH.out
    simp only [List.length_append] at hhd hall
    have htx : ∀ s : ByteArray, s.size ≤ (textB s).length := fun s => by
      unfold textB
      rw [List.length_append]
      have : s.data.toList.length = s.size := rfl
      omega
    have htn := htx x.name
    have hta := htx x.about
    -- the four texts, one behind the other
    obtain ⟨l1, hl1⟩ : ∃ l1, l1 = l ++ numsB [x.node, x.role, x.level, x.checked, (if x.off then 1 else 0)] := ⟨_, rfl⟩
    obtain ⟨l2, hl2⟩ : ∃ l2, l2 = l1 ++ textB x.name := ⟨_, rfl⟩
    obtain ⟨l3, hl3⟩ : ∃ l3, l3 = l2 ++ textB x.about := ⟨_, rfl⟩
    obtain ⟨l4, hl4⟩ : ∃ l4, l4 = l3 ++ numsB [(x.kids.length : Int)] := ⟨_, rfl⟩
    have E4 : Hid (l ++ itemB x = l4 ++ itemsB x.kids) := by show _ = _; rw [ZL.out, ZH.out, ← hl1, ← hl2, ← hl3, ← hl4]
    have z1 : l1.length ≤ 700000000 := by rw [hl1, List.length_append]; omega
    have z2 : l1.length + x.name.size ≤ 800000000 := by rw [hl1, List.length_append]; omega
    have z3 : l2.length + x.about.size ≤ 800000000 := by rw [hl2, hl1, List.length_append, List.length_append]; omega
    have z4 : l3.length ≤ 900000000 := by rw [hl3, hl2, hl1, List.length_append, List.length_append, List.length_append]; omega
    have z5 : l4.length + (itemsB x.kids).length ≤ 700000000 := by rw [← List.length_append, ← E4.out]; exact hsz
    have z0 : l.length ≤ 900000000 := by omega
    -- what is called
    have C0 : Hid (∀ W : World, Calls Tryd.prog 26 #[.bool x.off] W fun e w' => e = .returned (.int .i64 (if x.off then 1 else 0)) ∧ w' = W) := fun W => yflag_any x.off W
    have C1 : Hid (∀ W : World, W.heap.size = w.heap.size + 1 → OwnB W B v l → LtB B W → Calls Tryd.prog 16 #[v, .slice (some ⟨W.heap.size, 0, none⟩) 5 5] (W.alloc (.cells #[.int .i64 x.node, .int .i64 x.role, .int .i64 x.level, .int .i64 x.checked, .int .i64 (if x.off then 1 else 0)] 3))
        fun e w' => ∃ v', e = .returned v' ∧ OwnB w' B v' l1 ∧ Wb B W w') := by
      intro W hW ho hL
      have := ywritenums (w := W.alloc (.cells #[.int .i64 x.node, .int .i64 x.role, .int .i64 x.level, .int .i64 x.checked, .int .i64 (if x.off then 1 else 0)] 3)) (ho.alloc _) (by simp; omega) (hL.on ((Below.refl _ _).alloc (by omega) _)) (zs := [x.node, x.role, x.level, x.checked, (if x.off then 1 else 0)])
        (fun z hz => by
          simp at hz
          rcases hz with rfl | rfl | rfl | rfl | rfl
          · exact i0
          · exact i1
          · exact i2
          · exact i3
          · cases x.off <;> exact ⟨by decide, by decide⟩) (by simp) z0 (g := W.heap.size) (by rw [heap_alloc_new]; rfl)
      refine this.mono ?_
      rintro e w' ⟨v', e1, h1, h2⟩
      exact ⟨v', e1, by rw [hl1]; exact h1, ((Wb.refl B W).alloc (by omega) _).trans h2⟩
    have C4 : Hid (∀ (W : World) (u : Value), B ≤ W.heap.size → OwnB W B u l3 → LtB B W → Calls Tryd.prog 16 #[u, .slice (some ⟨W.heap.size, 0, none⟩) 1 1] (W.alloc (.cells #[.int .i64 (x.kids.length : Int)] 3))
        fun e w' => ∃ v', e = .returned v' ∧ OwnB w' B v' l4 ∧ Wb B W w') := by
      intro W u hW ho hL
      have := ywritenums (w := W.alloc (.cells #[.int .i64 (x.kids.length : Int)] 3)) (ho.alloc _) (by simp; omega) (hL.on ((Below.refl _ _).alloc hW _)) (zs := [(x.kids.length : Int)])
        (fun z hz => by simp at hz; subst hz; exact i7) (by simp) z4 (g := W.heap.size) (by rw [heap_alloc_new]; rfl)
      refine this.mono ?_
      rintro e w' ⟨v', e1, h1, h2⟩
      exact ⟨v', e1, by rw [hl4]; exact h1, ((Wb.refl B W).alloc hW _).trans h2⟩
    have C2 : Hid (∀ (W : World) (u : Value), B ≤ W.heap.size → OwnB W B u l1 → LtB B W → Calls Tryd.prog 27 #[u, .string x.name] W fun e w' => ∃ v', e = .returned v' ∧ OwnB w' B v' l2 ∧ Wb B W w') := fun W u hW ho hL => by
      rw [hl2]; exact ywritetext ho hW hL x.name z2
    have C3 : Hid (∀ (W : World) (u : Value), B ≤ W.heap.size → OwnB W B u l2 → LtB B W → Calls Tryd.prog 27 #[u, .string x.about] W fun e w' => ∃ v', e = .returned v' ∧ OwnB w' B v' l3 ∧ Wb B W w') := fun W u hW ho hL => by
      rw [hl3]; exact ywritetext ho hW hL x.about z3
    have IH : Hid (∀ (j : Nat) (h : j < x.kids.length) (kv v : Value) (W : World), IzsAt W P kv x.kids[j].kids → OwnB W B v (l4 ++ itemsB (x.kids.take j)) → B ≤ W.heap.size → LtB B W →
        Calls Tryd.prog 17 #[v, itV x.kids[j] kv] W fun e w' => ∃ v', e = .returned v' ∧ OwnB w' B v' (l4 ++ itemsB (x.kids.take (j + 1))) ∧ Wb B W w') := by
      intro j hj kv v W hr ho hB hL
      have hm := List.getElem_mem hj
      have e := itemsB_take x.kids j hj
      have := ih x.kids[j] kv v (l4 ++ itemsB (x.kids.take j)) W (deepZ_le.mp (by omega) _ hm) hr (numZ_mem.mp hnk _ hm) ho hB hL (by
        rw [List.append_assoc, ← e, List.length_append]
        have := itemsB_take_le x.kids (j + 1)
        omega)
      rw [List.append_assoc, ← e] at this
      exact this
    obtain ⟨p, c, rfl, y1, y2, hat⟩ := hr.at
    have T : Hid (∀ j (hj : j < x.kids.length), ∃ b o kv, p = some ⟨b, o, none⟩ ∧ P b ∧ IzAt w b (o + j * 8) x.kids[j] kv ∧ IzsAt w P kv x.kids[j].kids) := hat
    have HPP : Hid (∀ g, P g → g < B) := hP
    have HOw : Hid (OwnB w B v l) := ho
    have HLw : Hid (LtB B w) := hL
    have HBw : Hid (B ≤ w.heap.size) := hB
    obtain ⟨pv, cv, rfl⟩ := ho.shape
    unfold itV
    clear hr hat ho hL hB hsz hd hn hnk i0 i1 i2 i3 i5 i6 i7 hall hhd htx htn hta hl1 hl2 hl3 hl4 z0 z1 z2 z3 z4 z5 ih hP ZL ZH
    generalize l.length = ln at *
    generalize hK : x.kids = ks at *
    clear hK
    generalize x.node = x0 at *
    generalize x.role = x1 at *
    generalize x.name = x2 at *
    generalize x.about = x3 at *
    generalize x.level = x4 at *
    generalize x.checked = x5 at *
    generalize (if x.off = true then (1 : Int) else 0) = f6 at *
    generalize x.off = x6 at *
    have HX : Hid ((w.alloc (.cells #[.int .i64 x0, .int .i64 x1, .string x2, .string x3, .int .i64 x4, .int .i64 x5, .bool x6, .slice p ks.length c] 33)).heap[w.heap.size]? = some (.cells #[.int .i64 x0, .int .i64 x1, .string x2, .string x3, .int .i64 x4, .int .i64 x5, .bool x6, .slice p ks.length c] 33)) := heap_alloc_new _ _
    have HW1 : Hid (Wb B w (w.alloc (.cells #[.int .i64 x0, .int .i64 x1, .string x2, .string x3, .int .i64 x4, .int .i64 x5, .bool x6, .slice p ks.length c] 33))) := (Wb.refl B w).alloc HBw.out _
    have HO1 : Hid (OwnB (w.alloc (.cells #[.int .i64 x0, .int .i64 x1, .string x2, .string x3, .int .i64 x4, .int .i64 x5, .bool x6, .slice p ks.length c] 33)) B (.slice pv ln cv) l) := HOw.out.alloc _
    have HZ1 : Hid ((w.alloc (.cells #[.int .i64 x0, .int .i64 x1, .string x2, .string x3, .int .i64 x4, .int .i64 x5, .bool x6, .slice p ks.length c] 33)).heap.size = w.heap.size + 1) := by show _ = _; simp
    go_enter Tryd.func17, Tryd.ntmps17
    go_upto_region 1 with fail
    generalize hw1 : w.alloc (.cells #[.int .i64 x0, .int .i64 x1, .string x2, .string x3, .int .i64 x4, .int .i64 x5, .bool x6, .slice p ks.length c] 33) = w1 at *
    clear hw1
    generalize hG : w.heap.size = G at *
    have HG : Hid (w.heap.size = G) := hG
    clear hG
    have SS : ∀ w'' : World, w''.heap = w1.heap → (fun w'' : World => w''.cell? ⟨G, 0, none⟩ = some (.int .i64 x0) ∧ w''.cell? ⟨G, 1, none⟩ = some (.int .i64 x1) ∧ w''.cell? ⟨G, 4, none⟩ = some (.int .i64 x4) ∧ w''.cell? ⟨G, 5, none⟩ = some (.int .i64 x5) ∧ w''.cell? ⟨G, 6, none⟩ = some (.bool x6)) w'' := fun w'' he => by
      have hx : w''.heap[G]? = some (.cells #[.int .i64 x0, .int .i64 x1, .string x2, .string x3, .int .i64 x4, .int .i64 x5, .bool x6, .slice p ks.length c] 33) := by rw [he]; exact HX.out
      exact ⟨cell_of_block hx 0, cell_of_block hx 1, cell_of_block hx 4, cell_of_block hx 5, cell_of_block hx 6⟩
    have SA : ∀ (w'' : World) (o : Obj), (fun w'' : World => w''.cell? ⟨G, 0, none⟩ = some (.int .i64 x0) ∧ w''.cell? ⟨G, 1, none⟩ = some (.int .i64 x1) ∧ w''.cell? ⟨G, 4, none⟩ = some (.int .i64 x4) ∧ w''.cell? ⟨G, 5, none⟩ = some (.int .i64 x5) ∧ w''.cell? ⟨G, 6, none⟩ = some (.bool x6)) w'' →
        (fun w'' : World => w''.cell? ⟨G, 0, none⟩ = some (.int .i64 x0) ∧ w''.cell? ⟨G, 1, none⟩ = some (.int .i64 x1) ∧ w''.cell? ⟨G, 4, none⟩ = some (.int .i64 x4) ∧ w''.cell? ⟨G, 5, none⟩ = some (.int .i64 x5) ∧ w''.cell? ⟨G, 6, none⟩ = some (.bool x6)) (w''.alloc o) := fun w'' o h =>
      have K := keeps_alloc w'' o
      ⟨K _ _ h.1, K _ _ h.2.1, K _ _ h.2.2.1, K _ _ h.2.2.2.1, K _ _ h.2.2.2.2⟩
    have SD : ∀ w'' : World, (fun w'' : World => w''.cell? ⟨G, 0, none⟩ = some (.int .i64 x0) ∧ w''.cell? ⟨G, 1, none⟩ = some (.int .i64 x1) ∧ w''.cell? ⟨G, 4, none⟩ = some (.int .i64 x4) ∧ w''.cell? ⟨G, 5, none⟩ = some (.int .i64 x5) ∧ w''.cell? ⟨G, 6, none⟩ = some (.bool x6)) w'' → (fun w'' : World => w''.cell? ⟨G, 0, none⟩ = some (.int .i64 x0) ∧ w''.cell? ⟨G, 1, none⟩ = some (.int .i64 x1) ∧ w''.cell? ⟨G, 4, none⟩ = some (.int .i64 x4) ∧ w''.cell? ⟨G, 5, none⟩ = some (.int .i64 x5) ∧ w''.cell? ⟨G, 6, none⟩ = some (.bool x6)) w''.drew := fun w'' h => h
    have SX : ∀ w'' : World, Wb B w1.drew w'' → (fun w'' : World => w''.cell? ⟨G, 0, none⟩ = some (.int .i64 x0) ∧ w''.cell? ⟨G, 1, none⟩ = some (.int .i64 x1) ∧ w''.cell? ⟨G, 4, none⟩ = some (.int .i64 x4) ∧ w''.cell? ⟨G, 5, none⟩ = some (.int .i64 x5) ∧ w''.cell? ⟨G, 6, none⟩ = some (.bool x6)) w'' := fun w'' h => by
      have hx := h.held HX.out (by decide)
      exact ⟨cell_of_block hx 0, cell_of_block hx 1, cell_of_block hx 4, cell_of_block hx 5, cell_of_block hx 6⟩
    go_region_held3 (fun w'' : World => w''.cell? ⟨G, 0, none⟩ = some (.int .i64 x0) ∧ w''.cell? ⟨G, 1, none⟩ = some (.int .i64 x1) ∧ w''.cell? ⟨G, 4, none⟩ = some (.int .i64 x4) ∧ w''.cell? ⟨G, 5, none⟩ = some (.int .i64 x5) ∧ w''.cell? ⟨G, 6, none⟩ = some (.bool x6))
      ((first | ((with_reducible refine SX _ ?_); assumption) | ((with_reducible refine SS _ ?_); rfl) | ((with_reducible refine SD _ ?_); (with_reducible refine SA _ _ ?_); (with_reducible refine SS _ ?_); rfl)))
      (first
        | (go_at_call 26; refine (C0.out _).mono ?_; rintro e w5 ⟨rfl, hww⟩; subst hww)
        | (go_at_call 16; refine (C1.out w1.drew HZ1.out (HO1.out.drew) (HLw.out.on HW1.out.drew.bel)).mono ?_; rintro e w5 ⟨v5, rfl, o5, k5⟩))
    have HBG : Hid (B ≤ G) := HBw.out
    have HX5 : Hid (w5.heap[G]? = some (.cells #[.int .i64 x0, .int .i64 x1, .string x2, .string x3, .int .i64 x4, .int .i64 x5, .bool x6, .slice p ks.length c] 33)) := k5.held HX.out (by decide)
    have HW5 : Hid (Wb B w w5) := HW1.out.drew.trans k5
    have HO5 : Hid (OwnB w5 B v5 l1) := o5
    have HB5 : Hid (B ≤ w5.heap.size) := by have h1 := HW5.out.size; have h2 := HG.out; have h3 := HBG.out; show _ ≤ _; omega
    obtain ⟨p5, c5, rfl⟩ := o5.shape
    have d2 : w5.cell? ⟨G, 2, none⟩ = some (.string x2) := cell_of_block HX5.out 2
    clear SS SA SX SD o5 k5 HX HW1 HO1 HZ1 HOw C0 C1
    generalize l1.length = n1 at *
    go_upto_region 3 with (go_at_call 27; refine (C2.out _ _ HB5.out HO5.out (HLw.out.on HW5.out.bel)).mono ?_; rintro e w6 ⟨v6, rfl, o6, k6⟩)
    have HX6 : Hid (w6.heap[G]? = some (.cells #[.int .i64 x0, .int .i64 x1, .string x2, .string x3, .int .i64 x4, .int .i64 x5, .bool x6, .slice p ks.length c] 33)) := k6.held HX5.out (by decide)
    have HW6 : Hid (Wb B w w6) := HW5.out.trans k6
    have HO6 : Hid (OwnB w6 B v6 l2) := o6
    have HB6 : Hid (B ≤ w6.heap.size) := Nat.le_trans HB5.out k6.size
    obtain ⟨p6, c6, rfl⟩ := o6.shape
    have d3 : w6.cell? ⟨G, 3, none⟩ = some (.string x3) := cell_of_block HX6.out 3
    clear o6 k6 d2 HX5 HW5 HO5 HB5 C2
    generalize l2.length = n2 at *
    go_upto_region 4 with (go_at_call 27; refine (C3.out _ _ HB6.out HO6.out (HLw.out.on HW6.out.bel)).mono ?_; rintro e w7 ⟨v7, rfl, o7, k7⟩)
    have HX7 : Hid (w7.heap[G]? = some (.cells #[.int .i64 x0, .int .i64 x1, .string x2, .string x3, .int .i64 x4, .int .i64 x5, .bool x6, .slice p ks.length c] 33)) := k7.held HX6.out (by decide)
    have HW7 : Hid (Wb B w w7) := HW6.out.trans k7
    have HO7 : Hid (OwnB w7 B v7 l3) := o7
    have HB7 : Hid (B ≤ w7.heap.size) := Nat.le_trans HB6.out k7.size
    obtain ⟨p7, c7, rfl⟩ := o7.shape
    have d7 : w7.cell? ⟨G, 7, none⟩ = some (.slice p ks.length c) := cell_of_block HX7.out 7
    clear o7 k7 d3 HX6 HW6 HO6 HB6 C3
    generalize l3.length = n3 at *
    go_upto_region 5 with (go_at_call 16; refine (C4.out _ _ HB7.out HO7.out (HLw.out.on HW7.out.bel)).mono ?_; rintro e w8 ⟨v8, rfl, o8, k8⟩)
    have HX8 : Hid (w8.heap[G]? = some (.cells #[.int .i64 x0, .int .i64 x1, .string x2, .string x3, .int .i64 x4, .int .i64 x5, .bool x6, .slice p ks.length c] 33)) := k8.held HX7.out (by decide)
    have HW8 : Hid (Wb B w w8) := HW7.out.trans k8
    have HO8 : Hid (OwnB w8 B v8 l4) := o8
    have d8 : w8.cell? ⟨G, 7, none⟩ = some (.slice p ks.length c) := cell_of_block HX8.out 7
    clear o8 k8 d7 HX7 HW7 HO7 HB7 C4 HX8
    go_wp2_with fail
    go_loopw [0, 38] (fun bv iv wr => ∃ (j : Nat), j ≤ ks.length ∧ iv = .int .i64 j ∧ Hid (OwnB wr B bv (l4 ++ itemsB (ks.take j))) ∧ Hid (Wb B w wr)) (fun _ iv _ => ks.length - (RowKit.intOf iv).toNat)
    case atStart => exact ⟨0, Nat.zero_le _, rfl, by simpa [itemsB] using HO8, HW8⟩
    case round =>
      clear d8 HO8 HW8
      obtain ⟨j, hj, rfl, HR, HW⟩ := hrel
      by_cases hlt : j < ks.length
      · obtain ⟨b1, o1, kv1, rfl, hb1, hc1, hrow1⟩ := T.out j hlt
        have hbB := HPP.out b1 hb1
        have K : ∀ i u, w.cell? ⟨b1, i, none⟩ = some u → wr.cell? ⟨b1, i, none⟩ = some u := fun i u h => (HW.out.bel.cell (p := ⟨b1, i, none⟩) hbB).trans h
        have e0 := K _ _ hc1.c0
        have e1 := K _ _ hc1.c1
        have e2 := K _ _ hc1.c2
        have e3 := K _ _ hc1.c3
        have e4 := K _ _ hc1.c4
        have e5 := K _ _ hc1.c5
        have e6 := K _ _ hc1.c6
        have e7 := K _ _ hc1.c7
        have hBr : B ≤ wr.heap.size := by have h1 := HW.out.size; have h2 := HG.out; have h3 := HBG.out; omega
        have HA : Hid (∀ o : Obj, IzsAt (wr.alloc o) P kv1 ks[j].kids ∧ OwnB (wr.alloc o) B u0 (l4 ++ itemsB (ks.take j)) ∧ LtB B (wr.alloc o) ∧ B ≤ (wr.alloc o).heap.size ∧ Wb B w (wr.alloc o)) := fun o => by
          have hW := HW.out.alloc hBr o
          exact ⟨hrow1.frame (fun g hg hlt => ⟨hW.bel.block g (HPP.out g hg), hg⟩), HR.out.alloc o, HLw.out.on hW.bel, by simp; omega, hW⟩
        have C := fun W h1 h2 h3 h4 => IH.out j hlt kv1 u0 W h1 h2 h3 h4
        unfold itV at C
        have HC : Hid _ := C
        obtain ⟨pk, ck, rfl⟩ := hrow1.shape
        obtain ⟨pb, cb, rfl⟩ := HR.out.shape
        clear hc1 K hb1 hbB C hrow1 hBr
        generalize hl6 : l4 ++ itemsB (ks.take (j + 1)) = l6 at *
        have HL6 : Hid (l4 ++ itemsB (ks.take (j + 1)) = l6) := hl6
        clear hl6
        generalize l4 ++ itemsB (ks.take j) = l5 at *
        generalize l5.length = n5 at *
        generalize ks[j].kids = kk at *
        generalize ks[j].node = y0 at *
        generalize ks[j].role = y1 at *
        generalize ks[j].name = y2 at *
        generalize ks[j].about = y3 at *
        generalize ks[j].level = y4 at *
        generalize ks[j].checked = y5 at *
        generalize ks[j].off = y6 at *
        go_upto_region 8 with fail
        have HB8 : Hid ((wr.alloc (.cells #[.int .i64 y0, .int .i64 y1, .string y2, .string y3, .int .i64 y4, .int .i64 y5, .bool y6, .slice pk kk.length ck] 33)).heap[wr.heap.size]? = some (.cells #[.int .i64 y0, .int .i64 y1, .string y2, .string y3, .int .i64 y4, .int .i64 y5, .bool y6, .slice pk kk.length ck] 33)) := heap_alloc_new _ _
        have HA2 := HA.out (.cells #[.int .i64 y0, .int .i64 y1, .string y2, .string y3, .int .i64 y4, .int .i64 y5, .bool y6, .slice pk kk.length ck] 33)
        clear HA e0 e1 e2 e3 e4 e5 e6 e7
        have HBz : Hid (wr.heap.size = wr.heap.size) := rfl
        generalize hwa : wr.alloc (.cells #[.int .i64 y0, .int .i64 y1, .string y2, .string y3, .int .i64 y4, .int .i64 y5, .bool y6, .slice pk kk.length ck] 33) = wa at *
        clear hwa
        generalize wr.heap.size = R at *
        obtain ⟨a1, a2, a3, a4, a5⟩ := HA2
        have C := HC.out wa a1 a2 a4 a3
        have HW9 : Hid (Wb B w wa) := a5
        have g0 : wa.cell? ⟨R, 0, none⟩ = some (.int .i64 y0) := cell_of_block HB8.out 0
        have g1 : wa.cell? ⟨R, 1, none⟩ = some (.int .i64 y1) := cell_of_block HB8.out 1
        have g2 : wa.cell? ⟨R, 2, none⟩ = some (.string y2) := cell_of_block HB8.out 2
        have g3 : wa.cell? ⟨R, 3, none⟩ = some (.string y3) := cell_of_block HB8.out 3
        have g4 : wa.cell? ⟨R, 4, none⟩ = some (.int .i64 y4) := cell_of_block HB8.out 4
        have g5 : wa.cell? ⟨R, 5, none⟩ = some (.int .i64 y5) := cell_of_block HB8.out 5
        have g6 : wa.cell? ⟨R, 6, none⟩ = some (.bool y6) := cell_of_block HB8.out 6
        have g7 : wa.cell? ⟨R, 7, none⟩ = some (.slice pk kk.length ck) := cell_of_block HB8.out 7
        clear HC a1 a2 a3 a4 a5 HB8 HBz
        go_wp2_with (go_at_call 17; refine C.mono ?_; clear C; rintro e w9 ⟨v9, rfl, o9, k9⟩)
        go_roundw
        case rel => exact ⟨j + 1, by omega, by go_num, by rw [HL6.out]; exact o9, HW9.out.trans k9⟩
        case measure => simp [RowKit.intOf]; omega
      · obtain rfl : j = ks.length := by omega
        rw [List.take_length] at HR
        go_wp2_with fail
        go_ret
        exact ⟨_, rfl, by rw [E4.out]; exact HR.out, HW.out⟩
end Go.Proofs.YtpnineimnjibaafDoor

/-
  THE WALK of wire.Bytes.
-/
namespace Go.Proofs.YtpnineimnjibaafDoor
open Go.RowKit Go.Lib

/-- all numbers of an event are of 64 bits -/
def EvNum (e : Ez) : Prop := I6 e.kind ∧ I6 e.node ∧ I6 e.tgt ∧ I6 e.at_ ∧ Num1 e.item
theorem EvGood.num {e : Ez} (h : EvGood e) : EvNum e := ⟨h.1, h.2.1, h.2.2.1, h.2.2.2.1, h.2.2.2.2.1⟩
theorem evHead_nums (e : Ez) : evHeadB e = numsB [e.kind, e.node, e.tgt, e.at_] := by simp [evHeadB, numsB]
theorem eventsB_take (l : List Ez) (j : Nat) (h : j < l.length) : eventsB (l.take (j + 1)) = (eventsB (l.take j) ++ numsB [l[j].kind, l[j].node, l[j].tgt, l[j].at_]) ++ itemB l[j].item := by
  rw [List.take_succ_eq_append_getElem h, eventsB_snoc, eventB, evHead_nums, List.append_assoc]
theorem eventsB_take_le (l : List Ez) (j : Nat) : (eventsB (l.take j)).length ≤ (eventsB l).length := by
  have e : l = l.take j ++ l.drop j := (List.take_append_drop j l).symm
  have h : (eventsB l).length = (eventsB (l.take j)).length + (eventsB (l.drop j)).length := by
    conv => lhs; rw [e, eventsB_app, List.length_append]
  omega

set_option maxHeartbeats 3200000 in
set_option maxRecDepth 100000 in
theorem ybytes_any {w : World} {v : Value} {l : List Ez} (h : EzsAt w (fun g => g < w.heap.size) v l) (hn : ∀ e ∈ l, EvNum e) (hL : LtB w.heap.size w) (hsz : (eventsB l).length ≤ 700000000) :
    Calls Tryd.prog 8 #[v] w fun e w' => ∃ v', e = .returned v' ∧ OwnB w' w.heap.size v' (eventsB l) ∧ Below w.heap.size w w' := by
  obtain ⟨p, c, rfl, y1, y2, hat⟩ := h
  generalize hB : w.heap.size = B at *
  have HB : Hid (w.heap.size = B) := hB
  have T : Hid (∀ j (hj : j < l.length), ∃ b o kv, p = some ⟨b, o, none⟩ ∧ b < B ∧ EzAt w b (o + j * 12) l[j] kv ∧ IzsAt w (fun g => g < B) kv l[j].item.kids) := hat
  have HLw : Hid (LtB B w) := hL
  have C1 : Hid (∀ (j : Nat) (h : j < l.length) (W : World) (u : Value), B ≤ W.heap.size → OwnB W B u (eventsB (l.take j)) → LtB B W →
      Calls Tryd.prog 16 #[u, .slice (some ⟨W.heap.size, 0, none⟩) 4 4] (W.alloc (.cells #[.int .i64 l[j].kind, .int .i64 l[j].node, .int .i64 l[j].tgt, .int .i64 l[j].at_] 3))
        fun e w' => ∃ v', e = .returned v' ∧ OwnB w' B v' (eventsB (l.take j) ++ numsB [l[j].kind, l[j].node, l[j].tgt, l[j].at_]) ∧ Wb B W w') := by
    intro j hj W u hW ho hL
    obtain ⟨i0, i1, i2, i3, _⟩ := hn _ (List.getElem_mem hj)
    have hz := eventsB_take_le l j
    refine (ywritenums (w := W.alloc (.cells #[.int .i64 l[j].kind, .int .i64 l[j].node, .int .i64 l[j].tgt, .int .i64 l[j].at_] 3)) (ho.alloc _) (by simp; omega) (hL.on ((Below.refl _ _).alloc hW _)) (zs := [l[j].kind, l[j].node, l[j].tgt, l[j].at_])
      (fun z hz => by
        simp at hz
        rcases hz with rfl | rfl | rfl | rfl
        · exact i0
        · exact i1
        · exact i2
        · exact i3) (by simp) (by omega) (g := W.heap.size) (by rw [heap_alloc_new]; rfl)).mono ?_
    rintro e w' ⟨v', e1, h1, h2⟩
    exact ⟨v', e1, h1, ((Wb.refl B W).alloc hW _).trans h2⟩
  have C2 : Hid (∀ (j : Nat) (h : j < l.length) (kv u : Value) (W : World), IzsAt W (fun g => g < B) kv l[j].item.kids → B ≤ W.heap.size → OwnB W B u (eventsB (l.take j) ++ numsB [l[j].kind, l[j].node, l[j].tgt, l[j].at_]) → LtB B W →
      Calls Tryd.prog 17 #[u, itV l[j].item kv] W fun e w' => ∃ v', e = .returned v' ∧ OwnB w' B v' (eventsB (l.take (j + 1))) ∧ Wb B W w') := by
    intro j hj kv u W hr hW ho hL
    have hz := eventsB_take_le l (j + 1)
    have := ywriteitem (B := B) (P := fun g => g < B) (fun g h => h) (deep1 l[j].item) l[j].item kv u _ W (Nat.le_refl _) hr (hn _ (List.getElem_mem hj)).2.2.2.2 ho hW hL (by rw [← eventsB_take l j hj]; omega)
    rw [← eventsB_take l j hj] at this
    exact this
  clear hat hL hn hsz hB
  go_enter Tryd.func8, Tryd.ntmps8
  go_wp2_with fail
  go_loopw [3, 8] (fun bv iv wr => ∃ (j : Nat), j ≤ l.length ∧ iv = .int .i64 j ∧ Hid (OwnB wr B bv (eventsB (l.take j))) ∧ Hid (Wb B w wr)) (fun _ iv _ => l.length - (RowKit.intOf iv).toNat)
  case atStart => exact ⟨0, Nat.zero_le _, rfl, OwnB.nil _ _, Wb.refl _ _⟩
  case round =>
    obtain ⟨j, hj, rfl, HR, HW⟩ := hrel
    by_cases hlt : j < l.length
    · obtain ⟨b1, o1, kv1, rfl, hb1, hc1, hrow1⟩ := T.out j hlt
      have K : ∀ i u, w.cell? ⟨b1, i, none⟩ = some u → wr.cell? ⟨b1, i, none⟩ = some u := fun i u h => (HW.out.bel.cell (p := ⟨b1, i, none⟩) hb1).trans h
      have f0 := K _ _ hc1.c0
      have f1 := K _ _ hc1.c1
      have f2 := K _ _ hc1.c2
      have f3 := K _ _ hc1.c3
      have e0 := K _ _ hc1.it.c0
      have e1 := K _ _ hc1.it.c1
      have e2 := K _ _ hc1.it.c2
      have e3 := K _ _ hc1.it.c3
      have e4 := K _ _ hc1.it.c4
      have e5 := K _ _ hc1.it.c5
      have e6 := K _ _ hc1.it.c6
      have e7 := K _ _ hc1.it.c7
      simp only [Nat.add_assoc (o1 + j * 12), Nat.reduceAdd] at e1 e2 e3 e4 e5 e6 e7
      have hBr : B ≤ wr.heap.size := by have h1 := HW.out.size; have h2 := HB.out; omega
      have HRW : Hid (IzsAt w (fun g => g < B) kv1 l[j].item.kids) := hrow1
      have HC1 := C1.out j hlt
      have HC2 := C2.out j hlt kv1
      unfold itV at HC2
      have HCa : Hid _ := HC1
      have HCb : Hid _ := HC2
      have HBR : Hid (B ≤ wr.heap.size) := hBr
      obtain ⟨pk, ck, rfl⟩ := hrow1.shape
      obtain ⟨pb, cb, rfl⟩ := HR.out.shape
      clear hc1 K hb1 HC1 HC2 hrow1 hBr
      generalize hl6 : eventsB (l.take (j + 1)) = l6 at *
      have HL6 : Hid (eventsB (l.take (j + 1)) = l6) := hl6
      clear hl6
      generalize eventsB (l.take j) ++ numsB [l[j].kind, l[j].node, l[j].tgt, l[j].at_] = l7 at *
      generalize eventsB (l.take j) = l5 at *
      generalize l5.length = n5 at *
      generalize l[j].kind = z0 at *
      generalize l[j].node = z1 at *
      generalize l[j].tgt = z2 at *
      generalize l[j].at_ = z3 at *
      generalize l[j].item.kids = kk at *
      generalize l[j].item.node = y0 at *
      generalize l[j].item.role = y1 at *
      generalize l[j].item.name = y2 at *
      generalize l[j].item.about = y3 at *
      generalize l[j].item.level = y4 at *
      generalize l[j].item.checked = y5 at *
      generalize l[j].item.off = y6 at *
      go_upto_region 5 with fail
      have HX : Hid ((wr.alloc (.cells #[.int .i64 z0, .int .i64 z1, .int .i64 z2, .int .i64 z3, .int .i64 y0, .int .i64 y1, .string y2, .string y3, .int .i64 y4, .int .i64 y5, .bool y6, .slice pk kk.length ck] 35)).heap[wr.heap.size]? =
        some (.cells #[.int .i64 z0, .int .i64 z1, .int .i64 z2, .int .i64 z3, .int .i64 y0, .int .i64 y1, .string y2, .string y3, .int .i64 y4, .int .i64 y5, .bool y6, .slice pk kk.length ck] 35)) := heap_alloc_new _ _
      have HW1 : Hid (Wb B w (wr.alloc (.cells #[.int .i64 z0, .int .i64 z1, .int .i64 z2, .int .i64 z3, .int .i64 y0, .int .i64 y1, .string y2, .string y3, .int .i64 y4, .int .i64 y5, .bool y6, .slice pk kk.length ck] 35))) := HW.out.alloc HBR.out _
      have HO1 : Hid (OwnB (wr.alloc (.cells #[.int .i64 z0, .int .i64 z1, .int .i64 z2, .int .i64 z3, .int .i64 y0, .int .i64 y1, .string y2, .string y3, .int .i64 y4, .int .i64 y5, .bool y6, .slice pk kk.length ck] 35)) B (.slice pb n5 cb) l5) := HR.out.alloc _
      clear f0 f1 f2 f3 e0 e1 e2 e3 e4 e5 e6 e7 HR HW
      generalize hwa : wr.alloc (.cells #[.int .i64 z0, .int .i64 z1, .int .i64 z2, .int .i64 z3, .int .i64 y0, .int .i64 y1, .string y2, .string y3, .int .i64 y4, .int .i64 y5, .bool y6, .slice pk kk.length ck] 35) = wa at *
      clear hwa
      generalize wr.heap.size = R at *
      have hBa : Hid (B ≤ wa.heap.size) := by have h1 := HW1.out.size; have h2 := HB.out; show _ ≤ _; omega
      have g0 : wa.cell? ⟨R, 0, none⟩ = some (.int .i64 z0) := cell_of_block HX.out 0
      have g1 : wa.cell? ⟨R, 1, none⟩ = some (.int .i64 z1) := cell_of_block HX.out 1
      have g2 : wa.cell? ⟨R, 2, none⟩ = some (.int .i64 z2) := cell_of_block HX.out 2
      have g3 : wa.cell? ⟨R, 3, none⟩ = some (.int .i64 z3) := cell_of_block HX.out 3
      go_upto_region 6 with (go_at_call 16; refine (HCa.out _ _ hBa.out HO1.out (HLw.out.on HW1.out.bel)).mono ?_; rintro e w6 ⟨v6, rfl, o6, k6⟩)
      have HX6 : Hid (w6.heap[R]? = some (.cells #[.int .i64 z0, .int .i64 z1, .int .i64 z2, .int .i64 z3, .int .i64 y0, .int .i64 y1, .string y2, .string y3, .int .i64 y4, .int .i64 y5, .bool y6, .slice pk kk.length ck] 35)) := k6.held HX.out (by decide)
      have HW6 : Hid (Wb B w w6) := HW1.out.trans k6
      have HO6 : Hid (OwnB w6 B v6 l7) := o6
      have HB6 : Hid (B ≤ w6.heap.size) := Nat.le_trans hBa.out k6.size
      have HR6 : Hid (IzsAt w6 (fun g => g < B) (.slice pk kk.length ck) kk) := HRW.out.frame (fun g hg _ => ⟨HW6.out.bel.block g hg, hg⟩)
      obtain ⟨p6, c6, rfl⟩ := o6.shape
      clear o6 k6 g0 g1 g2 g3 HX HW1 HO1 hBa HCa
      generalize l7.length = n7 at *
      have h0 : w6.cell? ⟨R, 4, none⟩ = some (.int .i64 y0) := cell_of_block HX6.out 4
      have h1 : w6.cell? ⟨R, 5, none⟩ = some (.int .i64 y1) := cell_of_block HX6.out 5
      have h2 : w6.cell? ⟨R, 6, none⟩ = some (.string y2) := cell_of_block HX6.out 6
      have h3 : w6.cell? ⟨R, 7, none⟩ = some (.string y3) := cell_of_block HX6.out 7
      have h4 : w6.cell? ⟨R, 8, none⟩ = some (.int .i64 y4) := cell_of_block HX6.out 8
      have h5 : w6.cell? ⟨R, 9, none⟩ = some (.int .i64 y5) := cell_of_block HX6.out 9
      have h6 : w6.cell? ⟨R, 10, none⟩ = some (.bool y6) := cell_of_block HX6.out 10
      have h7 : w6.cell? ⟨R, 11, none⟩ = some (.slice pk kk.length ck) := cell_of_block HX6.out 11
      clear HX6
      go_wp2_with (go_at_call 17; refine (HCb.out _ _ HR6.out HB6.out HO6.out (HLw.out.on HW6.out.bel)).mono ?_; rintro e w9 ⟨v9, rfl, o9, k9⟩)
      go_roundw
      case rel => exact ⟨j + 1, by omega, by go_num, by rw [HL6.out]; exact o9, HW6.out.trans k9⟩
      case measure => simp [RowKit.intOf]; omega
    · obtain rfl : j = l.length := by omega
      rw [List.take_length] at HR
      go_wp2_with fail
      go_ret
      exact ⟨_, rfl, HR.out, HW.out.bel⟩
end Go.Proofs.YtpnineimnjibaafDoor
