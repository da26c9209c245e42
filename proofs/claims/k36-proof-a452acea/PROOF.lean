import PyProof.Rows.All
import Wide.All
import OpenK.AllK
import Wide.FinOn
import HandS.ForExc
import HandS.ForMost
import HandS.Deep
import HandS.Conv
import HandS.Star
import HandS.Flow
import HandS.Iter
import HandS.Zip
import HandS.IsInst
import HandS.TupAny
import HandS.More
import HandS.ExcInit
import HandS.ExcField
import PySem.Challenge.RW_hangstogether_k36_whole_floats
import PyProof.ReprLen
set_option Elab.async false
set_option linter.all false
set_option maxRecDepth 100000
set_option maxHeartbeats 4000000
set_option autoImplicit false
/-! A layer over the hand layer: values without addresses, a store of what can change, and for each piece of the text
a plain function of both. -/
namespace Sh
open PySem PySem.Spec PyProof.Rows L2

/-- a value: tuples stand as they are, what can change stands in the store -/
inductive D where
  | non | bl (b : Bool) | int (i : Int) | str (x : Str) | tup (xs : List D) | ref (l : Nat) | fl (xs : List D)

/-- what stands in the store -/
inductive SO where
  | lst (xs : List D)
  | ins (c : Str) (fs : List (Str × D))
abbrev Store := List SO
abbrev Rho := List (Option D)
/-- an exception: its class, its fields -/
abbrev Ex := Str × List (Str × D)

/-- a list that stands still: it is read, never written -/
def FzL (K : PySem.W.Frag) (H : Hp) (a : Addr) (vs : List V) : Prop := (∃ o, H a = some (.frz o (.lst vs))) ∨
  ∃ (o : Obj) (its : Array Value) (n : Nat), K.lookup a = some o ∧ o.cls = .type "list" ∧ o.dict = none ∧ o.data = .seq its n ∧ its.size ≤ sizeLine ∧ Vals vs its.toList
theorem FzL.seq {K : PySem.W.Frag} {H : Hp} {a : Addr} {vs : List V} (h : FzL K H a vs) : SqL K H a vs := by
  rcases h with ⟨o, h⟩ | h
  · exact .inl (.inr ⟨o, h⟩)
  · exact .inr h
mutual
inductive RD (K : PySem.W.Frag) (mu : Nat → Addr) (n : Nat) (H : Hp) : V → D → Prop
  | non : RD K mu n H .non .non
  | bl (b : Bool) : RD K mu n H (.bl b) (.bl b)
  | int (i : Int) : RD K mu n H (.int i) (.int i)
  | str (x : Str) : RD K mu n H (.str x) (.str x)
  | tup {a : Addr} {vs : List V} {ds : List D} : SqT K H a vs → RDs K mu n H vs ds → RD K mu n H (.ref a) (.tup ds)
  | ref {l : Nat} : l < n → RD K mu n H (.ref (mu l)) (.ref l)
  | fl {a : Addr} {vs : List V} {ds : List D} : FzL K H a vs → RDs K mu n H vs ds → RD K mu n H (.ref a) (.fl ds)
inductive RDs (K : PySem.W.Frag) (mu : Nat → Addr) (n : Nat) (H : Hp) : List V → List D → Prop
  | nil : RDs K mu n H [] []
  | cons {v : V} {vs : List V} {d : D} {ds : List D} : RD K mu n H v d → RDs K mu n H vs ds → RDs K mu n H (v :: vs) (d :: ds)
end

/-- where the classes stand -/
abbrev Cls0 := Str → Addr → Prop

/-- fields -/
inductive RFs (K : PySem.W.Frag) (mu : Nat → Addr) (n : Nat) (H : Hp) : List (Str × V) → List (Str × D) → Prop
  | nil : RFs K mu n H [] []
  | cons {f : Str} {v : V} {d : D} {vs : List (Str × V)} {ds : List (Str × D)} : RD K mu n H v d → RFs K mu n H vs ds → RFs K mu n H ((f, v) :: vs) ((f, d) :: ds)

def RO (K : PySem.W.Frag) (C : Cls0) (mu : Nat → Addr) (n : Nat) (H : Hp) (a : Addr) : SO → Prop
  | .lst ds => ∃ vs, H a = some (.lst vs) ∧ RDs K mu n H vs ds
  | .ins c fs => ∃ A dx vs, C c A ∧ H a = some (.ins A dx vs) ∧ RFs K mu n H vs fs

structure Rel (K : PySem.W.Frag) (C : Cls0) (mu : Nat → Addr) (S : Store) (H : Hp) : Prop where
  inj : ∀ i j, i < S.length → j < S.length → mu i = mu j → i = j
  obj : ∀ l o, S[l]? = some o → RO K C mu S.length H (mu l) o

structure Ext (mu : Nat → Addr) (n : Nat) (H : Hp) (mu' : Nat → Addr) (n' : Nat) (H' : Hp) : Prop where
  le : n ≤ n'
  same : ∀ l, l < n → mu' l = mu l
  frame : ∀ a o, H a = some o → (∀ l, l < n → mu l ≠ a) → H' a = some o
  keep : ∀ a o, H a = some o → ∃ o', H' a = some o'
  fresh : ∀ l, n ≤ l → l < n' → H (mu' l) = none

section
variable {K : PySem.W.Frag} {C : Cls0} {mu mu' mu2 : Nat → Addr} {n n' n2 : Nat} {H H' H2 : Hp} {S S' S2 : Store}

theorem Ext.refl : Ext mu n H mu n H := ⟨Nat.le_refl _, fun _ _ => rfl, fun _ _ e _ => e, fun _ o e => ⟨o, e⟩, fun _ h1 h2 => absurd (Nat.lt_of_lt_of_le h2 h1) (Nat.lt_irrefl _)⟩
theorem Ext.trans (a : Ext mu n H mu' n' H') (b : Ext mu' n' H' mu2 n2 H2) : Ext mu n H mu2 n2 H2 where
  le := Nat.le_trans a.le b.le
  same := fun l h => (b.same l (Nat.lt_of_lt_of_le h a.le)).trans (a.same l h)
  frame := fun x o e h => by
    refine b.frame x o (a.frame x o e h) fun l hl q => ?_
    by_cases hn : l < n
    · exact h l hn ((a.same l hn).symm.trans q)
    · have z := a.fresh l (Nat.le_of_not_lt hn) hl
      rw [q, e] at z; cases z
  keep := fun x o e => by
    obtain ⟨o', e'⟩ := a.keep x o e
    exact b.keep x o' e'
  fresh := fun l h1 h2 => by
    by_cases hn : l < n'
    · rw [b.same l hn]; exact a.fresh l h1 hn
    · have z := b.fresh l (Nat.le_of_not_lt hn) h2
      cases q : H (mu2 l) with
      | none => rfl
      | some o =>
        obtain ⟨o', e'⟩ := a.keep _ o q
        rw [z] at e'; cases e'

theorem RO.some {o : SO} {a : Addr} (r : RO K C mu n H a o) : ∃ u, H a = some u ∧ (∀ xs, u ≠ .tup xs) ∧ ∀ ob u', u ≠ .frz ob u' := by
  cases o with
  | lst ds => obtain ⟨vs, e, _⟩ := r; exact ⟨_, e, (fun _ z => by cases z), (fun _ _ z => by cases z)⟩
  | ins c fs => obtain ⟨A, dx, vs, _, e, _⟩ := r; exact ⟨_, e, (fun _ z => by cases z), (fun _ _ z => by cases z)⟩
theorem Rel.at {l : Nat} (R : Rel K C mu S H) (h : l < S.length) : ∃ u, H (mu l) = some u ∧ (∀ xs, u ≠ .tup xs) ∧ ∀ ob u', u ≠ .frz ob u' :=
  (R.obj l S[l] (List.getElem?_eq_getElem h)).some
/-- a tuple, a thing that is known, stands -/
theorem Ext.rd {a : Addr} {u : HO} (R : Rel K C mu S H) (x : Ext mu S.length H mu' n' H') (hu : ∀ xs, u ≠ .lst xs) (hi : ∀ A dx vs, u ≠ .ins A dx vs) (h : Rd H a u) : Rd H' a u := by
  rcases h with h | ⟨o, h⟩
  · refine .inl (x.frame a u h fun l hl q => ?_)
    have r := R.obj l S[l] (List.getElem?_eq_getElem hl)
    rw [q] at r
    cases e : S[l] with
    | lst ds => rw [e] at r; obtain ⟨vs, e1, _⟩ := r; rw [h] at e1; exact hu _ (Option.some.inj e1)
    | ins c fs => rw [e] at r; obtain ⟨A, dx, vs, _, e1, _⟩ := r; rw [h] at e1; exact hi _ _ _ (Option.some.inj e1)
  · refine .inr ⟨o, x.frame a _ h fun l hl q => ?_⟩
    obtain ⟨u', e1, _, h2⟩ := R.at hl
    rw [q, h] at e1
    exact h2 _ _ (Option.some.inj e1).symm
theorem Ext.sqT {a : Addr} {vs : List V} (R : Rel K C mu S H) (x : Ext mu S.length H mu' n' H') (h : SqT K H a vs) : SqT K H' a vs := by
  rcases h with h | h
  · exact .inl (x.rd R (fun _ z => nomatch z) (fun _ _ _ z => nomatch z) h)
  · exact .inr h
theorem Ext.fzL {a : Addr} {vs : List V} (R : Rel K C mu S H) (x : Ext mu S.length H mu' n' H') (h : FzL K H a vs) : FzL K H' a vs := by
  rcases h with ⟨o, h⟩ | h
  · refine .inl ⟨o, x.frame a _ h fun l hl q => ?_⟩
    obtain ⟨u', e1, _, h2⟩ := R.at hl
    rw [q, h] at e1
    exact h2 _ _ (Option.some.inj e1).symm
  · exact .inr h
mutual
theorem RD.mv (ht : ∀ a vs, SqT K H a vs → SqT K H' a vs) (hf : ∀ a vs, FzL K H a vs → FzL K H' a vs) (hm : ∀ l, l < n → mu' l = mu l) (hn : n ≤ n') : ∀ {d : D} {v : V}, RD K mu n H v d → RD K mu' n' H' v d
  | .non, _, h => by cases h; exact .non
  | .bl b, _, h => by cases h; exact .bl b
  | .int i, _, h => by cases h; exact .int i
  | .str z, _, h => by cases h; exact .str z
  | .tup ds, _, h => by
    cases h with
    | tup hs hd => exact .tup (ht _ _ hs) (RDs.mv ht hf hm hn hd)
  | .fl ds, _, h => by
    cases h with
    | fl hs hd => exact .fl (hf _ _ hs) (RDs.mv ht hf hm hn hd)
  | .ref l, _, h => by
    cases h with
    | ref hl => rw [← hm l hl]; exact .ref (Nat.lt_of_lt_of_le hl hn)
theorem RDs.mv (ht : ∀ a vs, SqT K H a vs → SqT K H' a vs) (hf : ∀ a vs, FzL K H a vs → FzL K H' a vs) (hm : ∀ l, l < n → mu' l = mu l) (hn : n ≤ n') : ∀ {ds : List D} {vs : List V}, RDs K mu n H vs ds → RDs K mu' n' H' vs ds
  | [], _, h => by cases h; exact .nil
  | d :: ds, _, h => by
    cases h with
    | cons h1 h2 => exact .cons (RD.mv ht hf hm hn h1) (RDs.mv ht hf hm hn h2)
end
theorem RFs.mv (ht : ∀ a vs, SqT K H a vs → SqT K H' a vs) (hf : ∀ a vs, FzL K H a vs → FzL K H' a vs) (hm : ∀ l, l < n → mu' l = mu l) (hn : n ≤ n') : ∀ {ds : List (Str × D)} {vs : List (Str × V)}, RFs K mu n H vs ds → RFs K mu' n' H' vs ds
  | [], _, h => by cases h; exact .nil
  | _ :: ds, _, h => by
    cases h with
    | cons h1 h2 => exact .cons (h1.mv ht hf hm hn) (RFs.mv ht hf hm hn h2)
theorem RD.mono (R : Rel K C mu S H) (x : Ext mu S.length H mu' n' H') {d : D} {v : V} (h : RD K mu S.length H v d) : RD K mu' n' H' v d := h.mv (fun _ _ z => x.sqT R z) (fun _ _ z => x.fzL R z) x.same x.le
theorem RDs.mono (R : Rel K C mu S H) (x : Ext mu S.length H mu' n' H') {ds : List D} {vs : List V} (h : RDs K mu S.length H vs ds) : RDs K mu' n' H' vs ds := h.mv (fun _ _ z => x.sqT R z) (fun _ _ z => x.fzL R z) x.same x.le
theorem RFs.mono (R : Rel K C mu S H) (x : Ext mu S.length H mu' n' H') {ds : List (Str × D)} {vs : List (Str × V)} (h : RFs K mu S.length H vs ds) : RFs K mu' n' H' vs ds := h.mv (fun _ _ z => x.sqT R z) (fun _ _ z => x.fzL R z) x.same x.le
/-- more is known of the map, nothing changes -/
theorem RD.wk (hm : ∀ l, l < n → mu' l = mu l) (hn : n ≤ n') {d : D} {v : V} (h : RD K mu n H v d) : RD K mu' n' H v d := h.mv (fun _ _ z => z) (fun _ _ z => z) hm hn
theorem RDs.wk (hm : ∀ l, l < n → mu' l = mu l) (hn : n ≤ n') {d : List D} {v : List V} (h : RDs K mu n H v d) : RDs K mu' n' H v d := h.mv (fun _ _ z => z) (fun _ _ z => z) hm hn
theorem RO.mv (hm : ∀ l, l < n → mu' l = mu l) (hn : n ≤ n') (ht : ∀ a vs, SqT K H a vs → SqT K H' a vs) (hf : ∀ a vs, FzL K H a vs → FzL K H' a vs) {a : Addr} (he : H' a = H a) {o : SO} (h : RO K C mu n H a o) : RO K C mu' n' H' a o := by
  cases o with
  | lst ds => obtain ⟨vs, e, r⟩ := h; exact ⟨vs, he.trans e, r.mv ht hf hm hn⟩
  | ins c fs => obtain ⟨A, dx, vs, c', e, r⟩ := h; exact ⟨A, dx, vs, c', he.trans e, r.mv ht hf hm hn⟩
theorem RDs.length : ∀ {ds : List D} {vs : List V}, RDs K mu n H vs ds → vs.length = ds.length
  | [], _, h => by cases h; rfl
  | _ :: ds, _, h => by
    cases h with
    | cons _ h2 => simp [RDs.length h2]
theorem RDs.get : ∀ {ds : List D} {vs : List V} {i : Nat} {d : D}, RDs K mu n H vs ds → ds[i]? = some d → ∃ v, vs[i]? = some v ∧ RD K mu n H v d
  | [], _, _, _, _, e => by simp at e
  | d :: ds, _, 0, d', h, e => by
    cases h with
    | cons h1 _ => simp at e; subst e; exact ⟨_, rfl, h1⟩
  | d :: ds, _, i + 1, d', h, e => by
    cases h with
    | cons _ h2 =>
      obtain ⟨v, e1, r⟩ := RDs.get (i := i) h2 (by simpa using e)
      exact ⟨v, by simpa using e1, r⟩
theorem RDs.get' : ∀ {ds : List D} {vs : List V} {i : Nat} {v : V}, RDs K mu n H vs ds → vs[i]? = some v → ∃ d, ds[i]? = some d ∧ RD K mu n H v d
  | [], _, _, _, h, e => by cases h; simp at e
  | d :: ds, _, 0, d', h, e => by
    cases h with
    | cons h1 _ => simp at e; subst e; exact ⟨_, rfl, h1⟩
  | d :: ds, _, i + 1, d', h, e => by
    cases h with
    | cons _ h2 =>
      obtain ⟨v, e1, r⟩ := RDs.get' (i := i) h2 (by simpa using e)
      exact ⟨v, by simpa using e1, r⟩
theorem RDs.append : ∀ {xs : List D} {vs : List V} {ys : List D} {ws : List V}, RDs K mu n H vs xs → RDs K mu n H ws ys → RDs K mu n H (vs ++ ws) (xs ++ ys)
  | [], _, _, _, h, s => by cases h; exact s
  | _ :: _, _, _, _, h, s => by
    cases h with
    | cons h1 h2 => exact .cons h1 (RDs.append h2 s)
theorem RDs.take : ∀ {xs : List D} {vs : List V} (m : Nat), RDs K mu n H vs xs → RDs K mu n H (vs.take m) (xs.take m)
  | _, _, 0, _ => by simp; exact .nil
  | [], _, m + 1, h => by cases h; exact .nil
  | _ :: _, _, m + 1, h => by
    cases h with
    | cons h1 h2 => exact .cons h1 (RDs.take m h2)
theorem RDs.drop : ∀ {xs : List D} {vs : List V} (m : Nat), RDs K mu n H vs xs → RDs K mu n H (vs.drop m) (xs.drop m)
  | _, _, 0, h => by simpa using h
  | [], _, m + 1, h => by cases h; exact .nil
  | _ :: _, _, m + 1, h => by
    cases h with
    | cons _ h2 => exact RDs.drop m h2
theorem RDs.set {d : D} {v : V} (r : RD K mu n H v d) : ∀ {xs : List D} {vs : List V} (i : Nat), RDs K mu n H vs xs → RDs K mu n H (vs.set i v) (xs.set i d)
  | [], _, _, h => by cases h; exact .nil
  | _ :: _, _, 0, h => by cases h with | cons _ h2 => exact .cons r h2
  | _ :: _, _, i + 1, h => by cases h with | cons h1 h2 => exact .cons h1 (RDs.set r i h2)
theorem RDs.reverse : ∀ {xs : List D} {vs : List V}, RDs K mu n H vs xs → RDs K mu n H vs.reverse xs.reverse
  | [], _, h => by cases h; exact .nil
  | _ :: _, _, h => by
    cases h with
    | cons h1 h2 => simp only [List.reverse_cons]; exact (RDs.reverse h2).append (.cons h1 .nil)

/-- the frame's slots -/
structure RE (K : PySem.W.Frag) (mu : Nat → Addr) (n : Nat) (H : Hp) (σ : L2.St) (ρ : Rho) : Prop where
  len : σ.length = ρ.length
  get : ∀ (i : Nat) (d : D), ρ[i]? = some (some d) → ∃ v : V, σ[i]? = some (some v) ∧ RD K mu n H v d
theorem RE.mono {σ : L2.St} {ρ : Rho} (r : RE K mu S.length H σ ρ) (R : Rel K C mu S H) (x : Ext mu S.length H mu' n' H') : RE K mu' n' H' σ ρ :=
  ⟨r.len, fun i d e => let ⟨v, e1, h⟩ := r.get i d e; ⟨v, e1, h.mono R x⟩⟩
theorem RE.set {σ : L2.St} {ρ : Rho} {v : V} {d : D} (r : RE K mu n H σ ρ) (h : RD K mu n H v d) (i : Nat) : RE K mu n H (σ.set i (some v)) (ρ.set i (some d)) := by
  refine ⟨by simp [r.len], fun j e q => ?_⟩
  by_cases hj : i = j
  · subst hj
    by_cases hl : i < ρ.length
    · rw [List.getElem?_set_self hl] at q
      cases q
      exact ⟨v, List.getElem?_set_self (by rw [r.len]; exact hl), h⟩
    · rw [List.getElem?_eq_none (by simpa using hl)] at q; cases q
  · rw [List.getElem?_set_ne hj] at q
    obtain ⟨w, e1, h1⟩ := r.get j e q
    exact ⟨w, by rw [List.getElem?_set_ne hj]; exact e1, h1⟩
theorem RE.unset {σ : L2.St} {ρ : Rho} (r : RE K mu n H σ ρ) (i : Nat) : RE K mu n H (σ.set i none) (ρ.set i none) := by
  refine ⟨by simp [r.len], fun j e q => ?_⟩
  by_cases hj : i = j
  · subst hj
    by_cases hl : i < ρ.length
    · rw [List.getElem?_set_self hl] at q; cases q
    · rw [List.getElem?_eq_none (by simpa using hl)] at q; cases q
  · rw [List.getElem?_set_ne hj] at q
    obtain ⟨w, e1, h1⟩ := r.get j e q
    exact ⟨w, by rw [List.getElem?_set_ne hj]; exact e1, h1⟩
end

/-! ### what is wanted behind a piece -/
abbrev Rs (α : Type) := Option (Except Ex α × Store)
abbrev EF (α : Type) := Rho → Store → Rs α
def bindR {α β : Type} (r : Rs α) (k : α → Store → Rs β) : Rs β :=
  match r with
  | none => none
  | some (.ok a, S) => k a S
  | some (.error e, S) => some (.error e, S)
@[simp] theorem bindR_none {α β : Type} (k : α → Store → Rs β) : bindR none k = none := rfl
@[simp] theorem bindR_ok {α β : Type} (a : α) (S : Store) (k : α → Store → Rs β) : bindR (some (.ok a, S)) k = k a S := rfl
@[simp] theorem bindR_error {α β : Type} (e : Ex) (S : Store) (k : α → Store → Rs β) : bindR (some (.error e, S)) k = some (.error e, S) := rfl
abbrev okR {α : Type} (a : α) (S : Store) : Rs α := some (.ok a, S)

/-- what is told of a start holds of an earlier one -/
class Anti {α β : Type} (RA : Hp → (Nat → Addr) → Nat → Hp → β → α → Prop) : Prop where
  anti : ∀ {H H1 : Hp} {mu : Nat → Addr} {n : Nat} {H' : Hp} {v : β} {a : α}, (∀ b o, H b = some o → ∃ o', H1 b = some o') → RA H1 mu n H' v a → RA H mu n H' v a
section
variable (K : PySem.W.Frag) (C : Cls0) (XW : Value → Option Addr → Hp → Prop) (mu : Nat → Addr) (n : Nat) (H : Hp)
/-- an exception lies so -/
def PostX (e : Ex) (S' : Store) : Prop :=
  ∀ mu' H' A dx vs, Rel K C mu' S' H' → Ext mu n H mu' S'.length H' → C e.1 A → H' dx = some (.xd vs) → RFs K mu' S'.length H' vs e.2 → XW (.ref A) (some dx) H'
/-- behind what hands on an α, told by RA -/
def PostG {α β : Type} (RA : Hp → (Nat → Addr) → Nat → Hp → β → α → Prop) (res : Rs α) (Q : β → Hp → Prop) : Prop :=
  match res with
  | none => False
  | some (.ok a, S') => ∀ mu' H' v, Rel K C mu' S' H' → Ext mu n H mu' S'.length H' → RA H mu' S'.length H' v a → Q v H'
  | some (.error e, S') => PostX K C XW mu n H e S'
end
section
variable {K : PySem.W.Frag} {C : Cls0} {XW : Value → Option Addr → Hp → Prop} {mu mu1 : Nat → Addr} {n n1 : Nat} {H H1 : Hp} {α β γ δ : Type}
  {RA : Hp → (Nat → Addr) → Nat → Hp → β → α → Prop} {RB : Hp → (Nat → Addr) → Nat → Hp → δ → γ → Prop}
theorem PostX.trans {e : Ex} {S' : Store} (x : Ext mu n H mu1 n1 H1) (h : PostX K C XW mu n H e S') : PostX K C XW mu1 n1 H1 e S' :=
  fun mu' H' A dx vs r y c hd rf => h mu' H' A dx vs r (x.trans y) c hd rf
theorem PostG.trans [Anti RA] {res : Rs α} {Q : β → Hp → Prop} (x : Ext mu n H mu1 n1 H1) (h : PostG K C XW mu n H RA res Q) : PostG K C XW mu1 n1 H1 RA res Q := by
  cases res with
  | none => exact h
  | some p =>
    obtain ⟨r, S'⟩ := p
    cases r with
    | ok a => exact fun mu' H' v R y rd => h mu' H' v R (x.trans y) (Anti.anti x.keep rd)
    | error e => exact PostX.trans x h
theorem PostG.mono {res : Rs α} {Q Q' : β → Hp → Prop} (h : PostG K C XW mu n H RA res Q) (k : ∀ v H', Q v H' → Q' v H') : PostG K C XW mu n H RA res Q' := by
  cases res with
  | none => exact h
  | some p =>
    obtain ⟨r, S'⟩ := p
    cases r with
    | ok a => exact fun mu' H' v R y rd => k _ _ (h mu' H' v R y rd)
    | error e => exact h
theorem PostG.bind [Anti RB] {res : Rs α} {k : α → Store → Rs γ} {Q : δ → Hp → Prop} (h : PostG K C XW mu n H RB (bindR res k) Q) :
    PostG K C XW mu n H RA res fun v H1 => ∃ mu1 S1 a, Rel K C mu1 S1 H1 ∧ Ext mu n H mu1 S1.length H1 ∧ RA H mu1 S1.length H1 v a ∧ PostG K C XW mu1 S1.length H1 RB (k a S1) Q := by
  cases res with
  | none => exact h
  | some p =>
    obtain ⟨r, S'⟩ := p
    cases r with
    | ok a => exact fun mu' H' v R y rd => ⟨mu', S', a, R, y, rd, PostG.trans y h⟩
    | error e => exact h
theorem PostG.ok {S : Store} {a : α} {v : β} {Q : β → Hp → Prop} (h : PostG K C XW mu S.length H RA (okR a S) Q) (R : Rel K C mu S H) (r : RA H mu S.length H v a) : Q v H := h mu H v R .refl r
end

/-! ### judgements -/
/-- a value; several; a test's value; a new list that nobody else holds -/
abbrev QD (K : PySem.W.Frag) : Hp → (Nat → Addr) → Nat → Hp → V → D → Prop := fun _ mu n H v d => RD K mu n H v d
abbrev QDs (K : PySem.W.Frag) : Hp → (Nat → Addr) → Nat → Hp → List V → List D → Prop := fun _ mu n H v d => RDs K mu n H v d
def RB0 : Hp → (Nat → Addr) → Nat → Hp → Bool → Bool → Prop := fun _ _ _ _ b c => b = c
def RL (K : PySem.W.Frag) : Hp → (Nat → Addr) → Nat → Hp → V → List D → Prop := fun H0 mu n H v ds => ∃ p vs, v = .ref p ∧ H p = some (.lst vs) ∧ RDs K mu n H vs ds ∧ (∀ l, l < n → mu l ≠ p) ∧ H0 p = none
instance {K : PySem.W.Frag} : Anti (QD K) := ⟨fun _ h => h⟩
instance {K : PySem.W.Frag} : Anti (QDs K) := ⟨fun _ h => h⟩
instance : Anti RB0 := ⟨fun _ h => h⟩
instance {K : PySem.W.Frag} : Anti (RL K) := ⟨fun {H H1 mu n H' v a} k h => by
  obtain ⟨p, vs, e1, e2, r, f, q⟩ := h
  refine ⟨p, vs, e1, e2, r, f, ?_⟩
  cases e : H p with
  | none => rfl
  | some o =>
    obtain ⟨o', e'⟩ := k p o e
    rw [q] at e'; cases e'⟩
abbrev Wx := WX
section
variable (K : PySem.W.Frag) (C : Cls0) (W : Wx)
def TE' (f : EF D) : TE := fun σ H Q => ∃ mu S ρ, Rel K C mu S H ∧ RE K mu S.length H σ ρ ∧ PostG K C (fun c d H' => W c d σ H') mu S.length H (QD K) (f ρ S) Q
def TA' (f : EF (List D)) : TA := fun σ H Q => ∃ mu S ρ, Rel K C mu S H ∧ RE K mu S.length H σ ρ ∧ PostG K C (fun c d H' => W c d σ H') mu S.length H (QDs K) (f ρ S) Q
def TL' (f : EF (List D)) : TE := fun σ H Q => ∃ mu S ρ, Rel K C mu S H ∧ RE K mu S.length H σ ρ ∧ PostG K C (fun c d H' => W c d σ H') mu S.length H (RL K) (f ρ S) Q
def TT' (f : EF Bool) : TT := fun σ H Q => ∃ mu S ρ, Rel K C mu S H ∧ RE K mu S.length H σ ρ ∧ PostG K C (fun c d H' => W c d σ H') mu S.length H RB0 (f ρ S) Q
end
structure SE (X : Cx) (C : Cls0) (W : Wx) (e : Expr) (f : EF D) : Prop where
  pe : PE X e (TE' X.K C W f)
/-- an expression that makes a new list -/
structure SL (X : Cx) (C : Cls0) (W : Wx) (e : Expr) (f : EF (List D)) : Prop where
  pe : PE X e (TL' X.K C W f)
structure SA (X : Cx) (C : Cls0) (W : Wx) (es : List Expr) (f : EF (List D)) : Prop where
  pa : PA X es (TA' X.K C W f)
structure ST (X : Cx) (C : Cls0) (W : Wx) (e : Expr) (f : EF Bool) : Prop where
  pt : PT X e (TT' X.K C W f)

theorem PE.imp {X : Cx} {e : Expr} {t t' : TE} (h : PE X e t) (k : ∀ σ H Q, t' σ H Q → t σ H Q) : PE X e t' := ⟨fun pins s σ H Q I q => h.run pins s σ H Q I (k σ H Q q)⟩
theorem PT.imp {X : Cx} {e : Expr} {t t' : TT} (h : PT X e t) (k : ∀ σ H Q, t' σ H Q → t σ H Q) : PT X e t' := ⟨fun pins s σ H Q I q => h.run pins s σ H Q I (k σ H Q q)⟩
theorem PA.imp {X : Cx} {es : List Expr} {t t' : TA} (h : PA X es t) (k : ∀ σ H Q, t' σ H Q → t σ H Q) : PA X es t' := ⟨fun pos pins s σ H Q I q => h.run pos pins s σ H Q I (k σ H Q q)⟩
theorem PS.imp {X : Cx} {st : Stmt} {t t' : TS} (h : PS X st t) (k : ∀ D σ H, t' D σ H → t D σ H) : PS X st t' := ⟨fun pins s σ H D I q => h.run pins s σ H D I (k D σ H q)⟩
theorem PSs.imp {X : Cx} {st : List Stmt} {t t' : TS} (h : PSs X st t) (k : ∀ D σ H, t' D σ H → t D σ H) : PSs X st t' := ⟨fun pins s σ H D I q => h.run pins s σ H D I (k D σ H q)⟩

section
variable {X : Cx} {C : Cls0} {W : Wx}
/-! ### names, constants -/
def fVar (i : Nat) : EF D := fun ρ S => match ρ[i]? with
  | some (some d) => okR d S
  | _ => none
def fC (d : D) : EF D := fun _ S => okR d S
theorem se_var (i : Nat) {x : Str} {pos : Pos} (hN : X.N[i]? = some x := by rfl) (hv : Vis X.env.scope x := by first | exact Or.inl rfl | exact Or.inr (Or.inl rfl) | exact Or.inr (Or.inr rfl)) (hd : (x == ("__debug__" : Str)) = false := by decide)
    (hcd : (x == ("__classdict__" : Str)) = false := by decide) : SE X C W (.Name x pos) (fVar i) := by
  refine ⟨PE.imp (pe_var hN hv hd hcd) ?_⟩
  rintro σ H Q ⟨mu, S, ρ, R, re, h⟩
  unfold fVar at h
  split at h
  · rename_i d e
    obtain ⟨v, e1, r⟩ := re.get i d e
    exact ⟨v, e1, h.ok R r⟩
  · exact h.elim
theorem se_int {i : Int} {j pos} : SE X C W (.Constant (.int i) j pos) (fC (.int i)) := ⟨PE.imp pe_int fun σ H Q ⟨mu, S, ρ, R, re, h⟩ => h.ok R (.int i)⟩
theorem se_bl {b : Bool} {j pos} : SE X C W (.Constant (.bool b) j pos) (fC (.bl b)) := ⟨PE.imp pe_bl fun σ H Q ⟨mu, S, ρ, R, re, h⟩ => h.ok R (.bl b)⟩
theorem se_non {j pos} : SE X C W (.Constant .none j pos) (fC .non) := ⟨PE.imp pe_non fun σ H Q ⟨mu, S, ρ, R, re, h⟩ => h.ok R .non⟩
theorem se_str {x : Str} {j pos} : SE X C W (.Constant (.str x) j pos) (fC (.str x)) := ⟨PE.imp pe_str fun σ H Q ⟨mu, S, ρ, R, re, h⟩ => h.ok R (.str x)⟩
/-- a module's int -/
theorem se_gint {x : Str} {i : Int} {pos : Pos} (hm : ∃ t, X.mg x = some (.int i t)) (hg : Gl X x := by rfl) (hd : (x == ("__debug__" : Str)) = false := by decide) : SE X C W (.Name x pos) (fC (.int i)) := by
  obtain ⟨t, hm⟩ := hm
  exact ⟨PE.imp (pe_glob (v := .int i) hg hm ⟨t, rfl⟩ hd) fun σ H Q ⟨mu, S, ρ, R, re, h⟩ => h.ok R (.int i)⟩

/-! ### lists of arguments -/
def fNil : EF (List D) := fun _ S => okR [] S
def fCons (f : EF D) (g : EF (List D)) : EF (List D) := fun ρ S => bindR (f ρ S) fun d S1 => bindR (g ρ S1) fun ds S2 => okR (d :: ds) S2
theorem sa_nil : SA X C W [] fNil := ⟨PA.imp pa_nil fun σ H Q ⟨mu, S, ρ, R, re, h⟩ => h.ok R .nil⟩
theorem sa_cons {e : Expr} {es : List Expr} {f : EF D} {g : EF (List D)} (a : SE X C W e f) (b : SA X C W es g) (hs : starEach (e :: es) X.env = (false, eval e X.env) :: starEach es X.env := by rfl) : SA X C W (e :: es) (fCons f g) := by
  refine ⟨PA.imp (pa_cons a.pe b.pa hs) ?_⟩
  rintro σ H Q ⟨mu, S, ρ, R, re, h⟩
  refine ⟨mu, S, ρ, R, re, h.bind.mono ?_⟩
  rintro v H1 ⟨mu1, S1, d1, R1, x1, r1, h1⟩
  refine ⟨mu1, S1, ρ, R1, re.mono R x1, h1.bind.mono ?_⟩
  rintro vs H2 ⟨mu2, S2, d2, R2, x2, r2, h2⟩
  exact h2.ok R2 (.cons (r1.mono R1 x2) r2)

/-! ### values alone: what a built-in operation makes of values -/
abbrev P2 := D → D → Store → Rs D
abbrev P1 := D → Store → Rs D
abbrev PL := List D → Store → Rs D
/-- the hand layer's rule r serves the function p -/
def Srv1 (K : PySem.W.Frag) (C : Cls0) (r : V → Hp → VK → Prop) (p : P1) : Prop :=
  ∀ (XW : Value → Option Addr → Hp → Prop) (mu : Nat → Addr) (S : Store) (H : Hp) (x : V) (d : D) (Q : VK), Rel K C mu S H → RD K mu S.length H x d → PostG K C XW mu S.length H (QD K) (p d S) Q → r x H Q
def Srv2 (K : PySem.W.Frag) (C : Cls0) (r : R2) (p : P2) : Prop :=
  ∀ (XW : Value → Option Addr → Hp → Prop) (mu : Nat → Addr) (S : Store) (H : Hp) (x y : V) (d e : D) (Q : VK), Rel K C mu S H → RD K mu S.length H x d → RD K mu S.length H y e → PostG K C XW mu S.length H (QD K) (p d e S) Q → r x y H Q
def SrvL (K : PySem.W.Frag) (C : Cls0) (r : List V → Hp → VK → Prop) (p : PL) : Prop :=
  ∀ (XW : Value → Option Addr → Hp → Prop) (mu : Nat → Addr) (S : Store) (H : Hp) (xs : List V) (ds : List D) (Q : VK), Rel K C mu S H → RDs K mu S.length H xs ds → PostG K C XW mu S.length H (QD K) (p ds S) Q → r xs H Q
def fUn (p : P1) (f : EF D) : EF D := fun ρ S => bindR (f ρ S) p
def fBin (p : P2) (f g : EF D) : EF D := fun ρ S => bindR (f ρ S) fun d S1 => bindR (g ρ S1) fun e S2 => p d e S2
def fCall (p : PL) (g : EF (List D)) : EF D := fun ρ S => bindR (g ρ S) p

theorem bin' {e1 e2 : Expr} {f g : EF D} {p : P2} {r : R2} (hr : Srv2 X.K C r p) {σ : L2.St} {H : Hp} {Q : VK} (h : TE' X.K C W (fBin p f g) σ H Q) : tOp r (TE' X.K C W f) (TE' X.K C W g) σ H Q := by
  obtain ⟨mu, S, ρ, R, re, h⟩ := h
  refine ⟨mu, S, ρ, R, re, h.bind.mono ?_⟩
  rintro v H1 ⟨mu1, S1, d1, R1, x1, r1, h1⟩
  refine ⟨mu1, S1, ρ, R1, re.mono R x1, h1.bind.mono ?_⟩
  rintro v2 H2 ⟨mu2, S2, d2, R2, x2, r2, h2⟩
  exact hr _ mu2 S2 H2 v v2 d1 d2 Q R2 (r1.mono R1 x2) r2 h2
theorem se_op {a b : Expr} {op : Operator} {f g : EF D} {p : P2} {r : R2} {pos : Pos} (ho : OpR X (binaryOp op) r) (hr : Srv2 X.K C r p) (ha : SE X C W a f) (hb : SE X C W b g) : SE X C W (.BinOp a op b pos) (fBin p f g) :=
  ⟨PE.imp (pe_op ho ha.pe hb.pe) fun σ H Q h => bin' (e1 := a) (e2 := b) hr h⟩
theorem se_cmp {a b : Expr} {op : CmpOp} {f g : EF D} {p : P2} {r : R2} {pos : Pos} (ho : OpR X (compareOp op) r) (hr : Srv2 X.K C r p) (ha : SE X C W a f) (hb : SE X C W b g) (hm : behindInMarks op b = false := by first | exact nomark _ | rfl) : SE X C W (.Compare a [op] [b] pos) (fBin p f g) :=
  ⟨PE.imp (pe_cmpR ho ha.pe hb.pe hm) fun σ H Q h => bin' (e1 := a) (e2 := b) hr h⟩
theorem se_un {a : Expr} {op : UnaryOp} {f : EF D} {p : P1} {r : V → Hp → VK → Prop} {pos : Pos} (ho : UnR X (unaryOp op) r) (hr : Srv1 X.K C r p) (ha : SE X C W a f) : SE X C W (.UnaryOp op a pos) (fUn p f) := by
  refine ⟨PE.imp (pe_un ho ha.pe) ?_⟩
  rintro σ H Q ⟨mu, S, ρ, R, re, h⟩
  refine ⟨mu, S, ρ, R, re, h.bind.mono ?_⟩
  rintro v H1 ⟨mu1, S1, d1, R1, x1, r1, h1⟩
  exact hr _ mu1 S1 H1 v d1 Q R1 r1 h1
/-- a built-in function, a type, called -/
theorem se_blt {x : Str} {p pos : Pos} {e : Expr} {es : List Expr} {id : String} {r : List V → Hp → VK → Prop} {q : PL} {g : EF (List D)} (hc : CallR X (.builtin id) r) (hr : SrvL X.K C r q) (hm : X.mg x = none) (hv : bootBuiltins x = some (.builtin id)) (ha : SA X C W (e :: es) g) (hg : Gl X x := by rfl) (hn : x ≠ "__name__" := by decide) (hdb : (x == ("__debug__" : Str)) = false := by decide)
    (he : starEach (e :: es) X.env = (false, eval e X.env) :: starEach es X.env := by rfl) (hpl : (backTo pos (starEach es X.env)).any (·.1) = false := by rfl) : SE X C W (.Call (.Name x p) (e :: es) [] pos) (fCall q g) := by
  refine ⟨PE.imp (pe_callB hc hg hm hv ha.pa hn hdb he hpl) ?_⟩
  rintro σ H Q ⟨mu, S, ρ, R, re, h⟩
  refine ⟨mu, S, ρ, R, re, h.bind.mono ?_⟩
  rintro v H1 ⟨mu1, S1, d1, R1, x1, r1, h1⟩
  exact hr _ mu1 S1 H1 v d1 Q R1 r1 h1
theorem se_typ {x : Str} {p pos : Pos} {e : Expr} {es : List Expr} {id : String} {r : List V → Hp → VK → Prop} {q : PL} {g : EF (List D)} (hc : CallR X (.type id) r) (hr : SrvL X.K C r q) (hm : X.mg x = none) (hv : bootBuiltins x = some (.type id)) (ha : SA X C W (e :: es) g) (hg : Gl X x := by rfl) (hn : x ≠ "__name__" := by decide) (hdb : (x == ("__debug__" : Str)) = false := by decide)
    (he : starEach (e :: es) X.env = (false, eval e X.env) :: starEach es X.env := by rfl) (hpl : (backTo pos (starEach es X.env)).any (·.1) = false := by rfl) : SE X C W (.Call (.Name x p) (e :: es) [] pos) (fCall q g) := by
  refine ⟨PE.imp (pe_callTy hc hg hm hv ha.pa hn hdb he hpl) ?_⟩
  rintro σ H Q ⟨mu, S, ρ, R, re, h⟩
  refine ⟨mu, S, ρ, R, re, h.bind.mono ?_⟩
  rintro v H1 ⟨mu1, S1, d1, R1, x1, r1, h1⟩
  exact hr _ mu1 S1 H1 v d1 Q R1 r1 h1
end
end Sh

set_option Elab.async false
set_option linter.all false
set_option maxRecDepth 100000
set_option maxHeartbeats 4000000
set_option autoImplicit false
namespace Sh
open PySem PySem.Spec PyProof.Rows L2

/-! ### new objects -/
section
variable {K : PySem.W.Frag} {C : Cls0} {mu : Nat → Addr} {n : Nat} {S : Store} {H H0 : Hp}
theorem sqT_upd {p a : Addr} {o : HO} {vs : List V} (hp : H p = none) (h : SqT K H a vs) : SqT K (upd H p o) a vs := by
  rcases h with (h | ⟨ob, h⟩) | h
  · exact .inl (.inl (by rw [upd_ne (ne_of_none h hp)]; exact h))
  · exact .inl (.inr ⟨ob, by rw [upd_ne (ne_of_none h hp)]; exact h⟩)
  · exact .inr h
theorem fzL_upd {p a : Addr} {o : HO} {vs : List V} (hp : H p = none) (h : FzL K H a vs) : FzL K (upd H p o) a vs := by
  rcases h with ⟨ob, h⟩ | h
  · exact .inl ⟨ob, by rw [upd_ne (ne_of_none h hp)]; exact h⟩
  · exact .inr h
/-- an object that the store does not know -/
theorem Rel.new {p : Addr} {o : HO} (R : Rel K C mu S H) (hp : H p = none) : Rel K C mu S (upd H p o) := by
  refine ⟨R.inj, fun l ob e => ?_⟩
  have r := R.obj l ob e
  obtain ⟨u, hu, _⟩ := r.some
  exact r.mv (fun _ _ => rfl) (Nat.le_refl _) (fun _ _ z => sqT_upd hp z) (fun _ _ z => fzL_upd hp z) (by rw [upd_ne (ne_of_none hu hp)])
theorem Ext.new {p : Addr} {o : HO} (hp : H p = none) : Ext mu n H mu n (upd H p o) :=
  ⟨Nat.le_refl _, fun _ _ => rfl, fun a u e _ => by rw [upd_ne (ne_of_none e hp)]; exact e, fun a u e => ⟨u, by rw [upd_ne (ne_of_none e hp)]; exact e⟩, fun _ h1 h2 => absurd (Nat.lt_of_lt_of_le h2 h1) (Nat.lt_irrefl _)⟩
/-- the store takes an object in -/
def muUp (mu : Nat → Addr) (k : Nat) (p : Addr) : Nat → Addr := fun l => if l = k then p else mu l
theorem muUp_lt {k l : Nat} {p : Addr} (h : l < k) : muUp mu k p l = mu l := if_neg (Nat.ne_of_lt h)
theorem muUp_same {k : Nat} {p : Addr} : muUp mu k p k = p := if_pos rfl
theorem Rel.take {p : Addr} {o : SO} (R : Rel K C mu S H) (hf : ∀ l, l < S.length → mu l ≠ p) (ho : RO K C mu S.length H p o) : Rel K C (muUp mu S.length p) (S ++ [o]) H := by
  have low : ∀ l, l < S.length → muUp mu S.length p l = mu l := fun l h => muUp_lt h
  have wk : ∀ {a : Addr} {u : SO}, RO K C mu S.length H a u → RO K C (muUp mu S.length p) (S ++ [o]).length H a u := fun {a u} h =>
    h.mv low (by simp) (fun _ _ z => z) (fun _ _ z => z) rfl
  refine ⟨fun i j hi hj e => ?_, fun l u e => ?_⟩
  · simp only [List.length_append, List.length_cons, List.length_nil] at hi hj
    by_cases h1 : i = S.length
    · by_cases h2 : j = S.length
      · rw [h1, h2]
      · subst h1
        rw [muUp_same, muUp_lt (by omega)] at e
        exact absurd e.symm (hf j (by omega))
    · by_cases h2 : j = S.length
      · subst h2
        rw [muUp_same, muUp_lt (by omega)] at e
        exact absurd e (hf i (by omega))
      · rw [muUp_lt (by omega), muUp_lt (by omega)] at e
        exact R.inj i j (by omega) (by omega) e
  · by_cases h1 : l < S.length
    · rw [low l h1]
      rw [List.getElem?_append_left h1] at e
      exact wk (R.obj l u e)
    · by_cases h2 : l = S.length
      · subst h2
        rw [muUp_same]
        simp at e
        subst e
        exact wk ho
      · rw [List.getElem?_eq_none (by simp; omega)] at e; cases e
theorem Ext.take {p : Addr} {n' : Nat} {H' : Hp} {mu' : Nat → Addr} (x : Ext mu n H mu' n' H') (hp : H p = none) : Ext mu n H (muUp mu' n' p) (n' + 1) H' := by
  refine ⟨Nat.le_succ_of_le x.le, fun l h => ?_, x.frame, x.keep, fun l h1 h2 => ?_⟩
  · rw [muUp_lt (Nat.lt_of_lt_of_le h x.le)]; exact x.same l h
  · by_cases h3 : l = n'
    · subst h3; rw [muUp_same]; exact hp
    · rw [muUp_lt (by omega)]; exact x.fresh l h1 (by omega)
end

section
variable {X : Cx} {C : Cls0} {W : Wx}
/-! ### new lists -/
def fAl (f : EF (List D)) : EF D := fun ρ S => bindR (f ρ S) fun ds S1 => okR (.ref S1.length) (S1 ++ [.lst ds])
/-- a new list is taken into the store -/
theorem SL.se {e : Expr} {f : EF (List D)} (h : SL X C W e f) : SE X C W e (fAl f) := by
  refine ⟨PE.imp h.pe ?_⟩
  rintro σ H Q ⟨mu, S, ρ, R, re, q⟩
  refine ⟨mu, S, ρ, R, re, ?_⟩
  unfold fAl at q
  cases e1 : f ρ S with
  | none => rw [e1] at q; exact q
  | some p =>
    obtain ⟨r, S'⟩ := p
    rw [e1] at q
    cases r with
    | error er => exact q
    | ok ds =>
      rintro mu' H' v R' x ⟨p, vs, rfl, hp, rd, hf, h0⟩
      have hR := R'.take hf (o := .lst ds) ⟨vs, hp, rd⟩
      refine q (muUp mu' S'.length p) H' (.ref p) hR (by simpa using x.take h0) ?_
      have z : RD X.K (muUp mu' S'.length p) (S' ++ [SO.lst ds]).length H' (.ref (muUp mu' S'.length p S'.length)) (.ref S'.length) := .ref (by simp)
      rw [muUp_same] at z
      exact z
/-- [a, b, ..] -/
def fLst (g : EF (List D)) : EF (List D) := fun ρ S => bindR (g ρ S) fun ds S1 => if ds.length ≤ 16777216 then okR ds S1 else none
theorem sizeLine_16 : sizeLine = 16777216 := sizeLine_eq
theorem sl_lst {es : List Expr} {pos : Pos} {g : EF (List D)} (h : SA X C W es g) : SL X C W (.List es pos) (fLst g) := by
  refine ⟨PE.imp (pe_lst h.pa) ?_⟩
  rintro σ H Q ⟨mu, S, ρ, R, re, q⟩
  refine ⟨mu, S, ρ, R, re, ?_⟩
  unfold fLst at q
  cases e1 : g ρ S with
  | none => rw [e1] at q; exact q
  | some p =>
    obtain ⟨r, S'⟩ := p
    rw [e1] at q
    cases r with
    | error er => exact q
    | ok ds =>
      intro mu' H' vs R' x rd
      simp only [bindR_ok] at q
      split at q
      · rename_i hl
        refine ⟨by rw [RDs.length rd, sizeLine_16]; exact hl, fun p hp => ?_⟩
        have hx : H p = none := by
          cases e : H p with
          | none => rfl
          | some o =>
            obtain ⟨o', e'⟩ := x.keep p o e
            rw [hp] at e'; cases e'
        refine q mu' (upd H' p (.lst vs)) (.ref p) (R'.new hp) (x.trans (.new hp)) ⟨p, vs, rfl, upd_same, rd.mono R' (.new hp), fun l hl e => ?_, hx⟩
        obtain ⟨u, hu, _⟩ := R'.at hl
        rw [e, hp] at hu; cases hu
      · exact q.elim
/-- (a, b, ..) -/
def fTup (g : EF (List D)) : EF D := fun ρ S => bindR (g ρ S) fun ds S1 => if ds.length ≤ 16777216 then okR (.tup ds) S1 else none
theorem se_tup {es : List Expr} {pos : Pos} {x1} {g : EF (List D)} (h : SA X C W es g) : SE X C W (.Tuple es x1 pos) (fTup g) := by
  refine ⟨PE.imp (pe_tup h.pa) ?_⟩
  rintro σ H Q ⟨mu, S, ρ, R, re, q⟩
  refine ⟨mu, S, ρ, R, re, ?_⟩
  unfold fTup at q
  cases e1 : g ρ S with
  | none => rw [e1] at q; exact q
  | some p =>
    obtain ⟨r, S'⟩ := p
    rw [e1] at q
    cases r with
    | error er => exact q
    | ok ds =>
      intro mu' H' vs R' x rd
      simp only [bindR_ok] at q
      split at q
      · rename_i hl
        refine ⟨by rw [RDs.length rd, sizeLine_16]; exact hl, fun p hp => ?_⟩
        exact q mu' (upd H' p (.tup vs)) (.ref p) (R'.new hp) (x.trans (.new hp)) (.tup (.inl (.inl upd_same)) (rd.mono R' (.new hp)))
      · exact q.elim
/-- *e among the items of a display; e: a tuple, a list -/
def seqOf (d : D) (S : Store) : Option (List D) := match d with
  | .tup ds => some ds
  | .fl ds => some ds
  | .ref l => match S[l]? with
    | some (.lst ds) => some ds
    | _ => none
  | _ => none
theorem seqOf_sq {K : PySem.W.Frag} {mu : Nat → Addr} {S : Store} {H : Hp} {d : D} {v : V} {ds : List D} (R : Rel K C mu S H) (r : RD K mu S.length H v d) (e : seqOf d S = some ds) :
    ∃ a vs, v = .ref a ∧ (SqT K H a vs ∨ SqL K H a vs) ∧ RDs K mu S.length H vs ds := by
  cases r with
  | tup hs hd => cases e; exact ⟨_, _, rfl, .inl hs, hd⟩
  | fl hs hd => cases e; exact ⟨_, _, rfl, .inr hs.seq, hd⟩
  | @ref l hl =>
    unfold seqOf at e
    simp only at e
    split at e
    · rename_i ds' e1
      cases e
      obtain ⟨vs, e2, rd⟩ := R.obj _ _ e1
      exact ⟨_, vs, rfl, .inr (.of e2), rd⟩
    · cases e
  | _ => cases e
def fStar (f : EF D) (g : EF (List D)) : EF (List D) := fun ρ S => bindR (f ρ S) fun d S1 => match seqOf d S1 with
  | some xs => bindR (g ρ S1) fun ds S2 => okR (xs ++ ds) S2
  | none => none
theorem sa_star {e : Expr} {es : List Expr} {p : Pos} {f : EF D} {g : EF (List D)} (a : SE X C W e f) (b : SA X C W es g) (hs : starEach (.Starred e p :: es) X.env = (true, eval e X.env) :: starEach es X.env := by rfl) : SA X C W (.Starred e p :: es) (fStar f g) := by
  refine ⟨PA.imp (StX.pa_star a.pe b.pa hs) ?_⟩
  rintro σ H Q ⟨mu, S, ρ, R, re, h⟩
  refine ⟨mu, S, ρ, R, re, h.bind.mono ?_⟩
  rintro v H1 ⟨mu1, S1, d1, R1, x1, r1, h1⟩
  split at h1
  · rename_i xs e1
    obtain ⟨a', vs, rfl, hs', rd⟩ := seqOf_sq R1 r1 e1
    refine ⟨a', vs, rfl, hs', ?_⟩
    refine ⟨mu1, S1, ρ, R1, re.mono R x1, h1.bind.mono ?_⟩
    rintro ws H2 ⟨mu2, S2, d2, R2, x2, r2, h2⟩
    exact h2.ok R2 ((rd.mono R1 x2).append r2)
  · exact h1.elim
end

/-! ### statements -/
inductive Fl where
  | nx (ρ : Rho) | ret (d : D) | bk (ρ : Rho) | ct (ρ : Rho) | exn (e : Ex) (ρ : Rho)
abbrev Rf := Option (Fl × Store)
abbrev SF := Rho → Store → Rf
section
variable (K : PySem.W.Frag) (C : Cls0) (W : Wx) (mu : Nat → Addr) (n : Nat) (H : Hp)
def PostS (res : Rf) (Dn : Ends) : Prop :=
  match res with
  | none => False
  | some (.nx ρ, S') => ∀ mu' H' σ', Rel K C mu' S' H' → Ext mu n H mu' S'.length H' → RE K mu' S'.length H' σ' ρ → Dn.nx σ' H'
  | some (.ret d, S') => ∀ mu' H' v, Rel K C mu' S' H' → Ext mu n H mu' S'.length H' → RD K mu' S'.length H' v d → Dn.rt v H'
  | some (.bk ρ, S') => ∀ mu' H' σ', Rel K C mu' S' H' → Ext mu n H mu' S'.length H' → RE K mu' S'.length H' σ' ρ → Dn.bk σ' H'
  | some (.ct ρ, S') => ∀ mu' H' σ', Rel K C mu' S' H' → Ext mu n H mu' S'.length H' → RE K mu' S'.length H' σ' ρ → Dn.ct σ' H'
  | some (.exn e ρ, S') => ∀ mu' H' A dx vs σ', Rel K C mu' S' H' → Ext mu n H mu' S'.length H' → C e.1 A → H' dx = some (.xd vs) → RFs K mu' S'.length H' vs e.2 → RE K mu' S'.length H' σ' ρ → W (.ref A) (some dx) σ' H'
end
/-- what a value hands on to -/
def toS {α : Type} (ρ : Rho) (r : Rs α) (k : α → Store → Rf) : Rf := match r with
  | none => none
  | some (.ok a, S) => k a S
  | some (.error e, S) => some (.exn e ρ, S)
@[simp] theorem toS_none {α : Type} (ρ : Rho) (k : α → Store → Rf) : toS ρ none k = none := rfl
@[simp] theorem toS_ok {α : Type} (ρ : Rho) (a : α) (S : Store) (k : α → Store → Rf) : toS ρ (some (.ok a, S)) k = k a S := rfl
@[simp] theorem toS_error {α : Type} (ρ : Rho) (e : Ex) (S : Store) (k : α → Store → Rf) : toS ρ (some (.error e, S)) k = some (.exn e ρ, S) := rfl
section
variable {K : PySem.W.Frag} {C : Cls0} {W : Wx} {mu mu1 : Nat → Addr} {n n1 : Nat} {H H1 : Hp} {α β : Type} {RA : Hp → (Nat → Addr) → Nat → Hp → β → α → Prop}
theorem PostS.trans {res : Rf} {Dn : Ends} (x : Ext mu n H mu1 n1 H1) (h : PostS K C W mu n H res Dn) : PostS K C W mu1 n1 H1 res Dn := by
  cases res with
  | none => exact h
  | some p =>
    obtain ⟨f, S'⟩ := p
    cases f with
    | nx ρ => exact fun mu' H' σ' R y re => h mu' H' σ' R (x.trans y) re
    | ret d => exact fun mu' H' v R y rd => h mu' H' v R (x.trans y) rd
    | bk ρ => exact fun mu' H' σ' R y re => h mu' H' σ' R (x.trans y) re
    | ct ρ => exact fun mu' H' σ' R y re => h mu' H' σ' R (x.trans y) re
    | exn e ρ => exact fun mu' H' A dx vs σ' R y c hd rf re => h mu' H' A dx vs σ' R (x.trans y) c hd rf re
theorem PostS.mono {res : Rf} {D1 D2 : Ends} (h : PostS K C W mu n H res D1) (k1 : ∀ σ H, D1.nx σ H → D2.nx σ H) (k2 : ∀ v H, D1.rt v H → D2.rt v H) (k3 : ∀ σ H, D1.bk σ H → D2.bk σ H) (k4 : ∀ σ H, D1.ct σ H → D2.ct σ H) : PostS K C W mu n H res D2 := by
  cases res with
  | none => exact h
  | some p =>
    obtain ⟨f, S'⟩ := p
    cases f with
    | nx ρ => exact fun mu' H' σ' R y re => k1 _ _ (h mu' H' σ' R y re)
    | ret d => exact fun mu' H' v R y rd => k2 _ _ (h mu' H' v R y rd)
    | bk ρ => exact fun mu' H' σ' R y re => k3 _ _ (h mu' H' σ' R y re)
    | ct ρ => exact fun mu' H' σ' R y re => k4 _ _ (h mu' H' σ' R y re)
    | exn e ρ => exact h
theorem PostS.bind {S : Store} {σ : L2.St} {ρ : Rho} {res : Rs α} {k : α → Store → Rf} {Dn : Ends} (R : Rel K C mu S H) (re : RE K mu S.length H σ ρ) (h : PostS K C W mu S.length H (toS ρ res k) Dn) :
    PostG K C (fun c d H' => W c d σ H') mu S.length H RA res fun v H1 => ∃ mu1 S1 a, Rel K C mu1 S1 H1 ∧ Ext mu S.length H mu1 S1.length H1 ∧ RE K mu1 S1.length H1 σ ρ ∧ RA H mu1 S1.length H1 v a ∧ PostS K C W mu1 S1.length H1 (k a S1) Dn := by
  cases res with
  | none => exact h
  | some p =>
    obtain ⟨r, S'⟩ := p
    cases r with
    | ok a => exact fun mu' H' v R' y rd => ⟨mu', S', a, R', y, re.mono R y, rd, PostS.trans y h⟩
    | error e => exact fun mu' H' A dx vs R' y c hd rf => h mu' H' A dx vs σ R' y c hd rf (re.mono R y)
end
def TS' (K : PySem.W.Frag) (C : Cls0) (W : Wx) (f : SF) : TS := fun Dn σ H => ∃ mu S ρ, Rel K C mu S H ∧ RE K mu S.length H σ ρ ∧ PostS K C W mu S.length H (f ρ S) Dn
structure SS (X : Cx) (C : Cls0) (W : Wx) (st : Stmt) (f : SF) : Prop where
  ps : PS X st (TS' X.K C W f)
structure SB (X : Cx) (C : Cls0) (W : Wx) (sts : List Stmt) (f : SF) : Prop where
  pss : PSs X sts (TS' X.K C W f)

section
variable {X : Cx} {C : Cls0} {W : Wx}
def sNil : SF := fun ρ S => some (.nx ρ, S)
def sSeq (f g : SF) : SF := fun ρ S => match f ρ S with
  | some (.nx ρ', S') => g ρ' S'
  | r => r
theorem sb_nil : SB X C W [] sNil := ⟨PSs.imp pss_nil fun Dn σ H ⟨mu, S, ρ, R, re, h⟩ => h mu H σ R .refl re⟩
theorem sb_cons {st : Stmt} {sts : List Stmt} {f g : SF} (a : SS X C W st f) (b : SB X C W sts g) : SB X C W (st :: sts) (sSeq f g) := by
  refine ⟨PSs.imp (pss_cons a.ps b.pss) ?_⟩
  rintro Dn σ H ⟨mu, S, ρ, R, re, h⟩
  refine ⟨mu, S, ρ, R, re, ?_⟩
  unfold sSeq at h
  cases e : f ρ S with
  | none => rw [e] at h; exact h
  | some p =>
    obtain ⟨fl, S'⟩ := p
    rw [e] at h
    cases fl with
    | nx ρ' => exact fun mu' H' σ' R' y re' => ⟨mu', S', ρ', R', re', PostS.trans y h⟩
    | ret d => exact h
    | bk ρ' => exact h
    | ct ρ' => exact h
    | exn e ρ' => exact h
theorem sb_one {st : Stmt} {f : SF} (a : SS X C W st f) : SB X C W [st] f := ⟨pss_one a.ps⟩
def sPass : SF := fun ρ S => some (.nx ρ, S)
def sBreak : SF := fun ρ S => some (.bk ρ, S)
def sCont : SF := fun ρ S => some (.ct ρ, S)
theorem ss_pass {pos : Pos} : SS X C W (.Pass pos) sPass := ⟨PS.imp ps_pass fun Dn σ H ⟨mu, S, ρ, R, re, h⟩ => h mu H σ R .refl re⟩
theorem ss_break {pos : Pos} : SS X C W (.Break pos) sBreak := ⟨PS.imp ps_break fun Dn σ H ⟨mu, S, ρ, R, re, h⟩ => h mu H σ R .refl re⟩
theorem ss_cont {pos : Pos} : SS X C W (.Continue pos) sCont := ⟨PS.imp ps_continue fun Dn σ H ⟨mu, S, ρ, R, re, h⟩ => h mu H σ R .refl re⟩
def sExpr (f : EF D) : SF := fun ρ S => toS ρ (f ρ S) fun _ S1 => some (.nx ρ, S1)
theorem ss_expr {e : Expr} {f : EF D} {pos : Pos} (a : SE X C W e f) (hs : swapsWith e none pos.line X.env = pure false := by rfl) : SS X C W (.Expr e pos) (sExpr f) := by
  refine ⟨PS.imp (ps_expr a.pe hs) ?_⟩
  rintro Dn σ H ⟨mu, S, ρ, R, re, h⟩
  refine ⟨mu, S, ρ, R, re, (PostS.bind R re h).mono ?_⟩
  rintro v H1 ⟨mu1, S1, d1, R1, x1, re1, r1, h1⟩
  exact h1 mu1 H1 σ R1 .refl re1
def sRet (f : EF D) : SF := fun ρ S => toS ρ (f ρ S) fun d S1 => some (.ret d, S1)
theorem ss_ret {e : Expr} {f : EF D} {pos : Pos} (a : SE X C W e f) : SS X C W (.Return (some e) pos) (sRet f) := by
  refine ⟨PS.imp (ps_ret a.pe) ?_⟩
  rintro Dn σ H ⟨mu, S, ρ, R, re, h⟩
  refine ⟨mu, S, ρ, R, re, (PostS.bind R re h).mono ?_⟩
  rintro v H1 ⟨mu1, S1, d1, R1, x1, re1, r1, h1⟩
  exact h1 mu1 H1 v R1 .refl r1
def sRetN : SF := fun ρ S => some (.ret .non, S)
theorem ss_retN {pos : Pos} : SS X C W (.Return none pos) sRetN := ⟨PS.imp ps_retN fun Dn σ H ⟨mu, S, ρ, R, re, h⟩ => h mu H .non R .refl .non⟩
def sIf (c : EF Bool) (f g : SF) : SF := fun ρ S => toS ρ (c ρ S) fun b S1 => if b = true then f ρ S1 else g ρ S1
theorem ss_if {e : Expr} {a b : List Stmt} {c : EF Bool} {f g : SF} {pos : Pos} (hc : ST X C W e c) (ha : SB X C W a f) (hb : SB X C W b g) : SS X C W (.If e a b pos) (sIf c f g) := by
  refine ⟨PS.imp (ps_if hc.pt ha.pss hb.pss) ?_⟩
  rintro Dn σ H ⟨mu, S, ρ, R, re, h⟩
  refine ⟨mu, S, ρ, R, re, (PostS.bind R re h).mono ?_⟩
  rintro v H1 ⟨mu1, S1, d1, R1, x1, re1, r1, h1⟩
  obtain rfl : v = d1 := r1
  cases v with
  | true => exact ⟨mu1, S1, ρ, R1, re1, h1⟩
  | false => exact ⟨mu1, S1, ρ, R1, re1, h1⟩
/-! ### assignments -/
abbrev GF := D → Rho → Store → Option (Rho × Store)
/-- a target by values: it raises nothing -/
def Tch (ts : List Nat) (σ σ' : L2.St) : Prop := σ'.length = σ.length ∧ ∀ i : Nat, i ∉ ts → σ'[i]? = σ[i]?
theorem Tch.refl {ts : List Nat} {σ : L2.St} : Tch ts σ σ := ⟨rfl, fun _ _ => rfl⟩
theorem Tch.trans {ts us : List Nat} {σ σ1 σ2 : L2.St} (a : Tch ts σ σ1) (b : Tch us σ1 σ2) : Tch (ts ++ us) σ σ2 :=
  ⟨b.1.trans a.1, fun i h => (b.2 i fun z => h (List.mem_append_right _ z)).trans (a.2 i fun z => h (List.mem_append_left _ z))⟩
def TG' (K : PySem.W.Frag) (C : Cls0) (g : GF) (ts : List Nat) : TG := fun v σ H Q => ∃ mu S ρ d, Rel K C mu S H ∧ RE K mu S.length H σ ρ ∧ RD K mu S.length H v d ∧
  match g d ρ S with
  | none => False
  | some (ρ', S') => ∀ mu' H' σ', Rel K C mu' S' H' → Ext mu S.length H mu' S'.length H' → RE K mu' S'.length H' σ' ρ' → Tch ts σ σ' → Q σ' H'
structure SG (X : Cx) (C : Cls0) (tg : Expr) (g : GF) (ts : List Nat) : Prop where
  pg : PG X tg (TG' X.K C g ts)
theorem PG.imp {tg : Expr} {t t' : TG} (h : PG X tg t) (k : ∀ v σ H Q, t' v σ H Q → t v σ H Q) : PG X tg t' := ⟨fun pins s σ H v u Q I r q => h.run pins s σ H v u Q I r (k v σ H Q q)⟩
def gN (i : Nat) : GF := fun d ρ S => some (ρ.set i (some d), S)
theorem sg_name (i : Nat) {x : Str} {pos : Pos} (hN : X.N.Nodup) (hi : X.N[i]? = some x := by rfl) (hx : Loc X.env.scope x := by first | exact Or.inl rfl | exact Or.inr rfl) (hf : X.fn x = true ∨ X.env.scope.names.lookup x = some .local := by first | exact .inl rfl | exact .inr rfl | assumption) : SG X C (.Name x pos) (gN i) [i] :=
  ⟨PG.imp (pg_name hN hi hx hf) fun v σ H Q ⟨mu, S, ρ, d, R, re, r, h⟩ => h mu H _ R .refl (re.set r i) ⟨by simp, fun j hj => List.getElem?_set_ne (fun e => hj (by simp [e]))⟩⟩
/-- several targets -/
abbrev GFs := List D → Rho → Store → Option (Rho × Store)
def TGs' (K : PySem.W.Frag) (C : Cls0) (g : GFs) (ts : List Nat) : TGs := fun vs σ H Q => ∃ mu S ρ ds, Rel K C mu S H ∧ RE K mu S.length H σ ρ ∧ RDs K mu S.length H vs ds ∧
  match g ds ρ S with
  | none => False
  | some (ρ', S') => ∀ mu' H' σ', Rel K C mu' S' H' → Ext mu S.length H mu' S'.length H' → RE K mu' S'.length H' σ' ρ' → Tch ts σ σ' → Q σ' H'
structure SGs (X : Cx) (C : Cls0) (tgs : List Expr) (g : GFs) (ts : List Nat) : Prop where
  pgs : PGs X tgs (TGs' X.K C g ts)
theorem PGs.imp {tg : List Expr} {t t' : TGs} (h : PGs X tg t) (k : ∀ v σ H Q, t' v σ H Q → t v σ H Q) : PGs X tg t' := ⟨fun pins s σ H v u Q I r q => h.run pins s σ H v u Q I r (k v σ H Q q)⟩
def gNl : GFs := fun ds ρ S => match ds with
  | [] => some (ρ, S)
  | _ => none
def gCn (g : GF) (gs : GFs) : GFs := fun ds ρ S => match ds with
  | d :: r => match g d ρ S with
    | some (ρ', S') => gs r ρ' S'
    | none => none
  | [] => none
theorem sgs_nil : SGs X C [] gNl [] := by
  refine ⟨PGs.imp pgs_nil ?_⟩
  rintro vs σ H Q ⟨mu, S, ρ, ds, R, re, r, h⟩
  cases ds with
  | nil => cases r; exact ⟨rfl, h mu H σ R .refl re .refl⟩
  | cons d ds => exact h.elim
theorem sgs_cons {e : Expr} {es : List Expr} {g : GF} {gs : GFs} {ts us : List Nat} (a : SG X C e g ts) (b : SGs X C es gs us) (hs : (assignEach (e :: es) X.env).map (·.2) = assign e X.env :: (assignEach es X.env).map (·.2) := by rfl) : SGs X C (e :: es) (gCn g gs) (ts ++ us) := by
  refine ⟨PGs.imp (pgs_cons a.pg b.pgs hs) ?_⟩
  rintro vs σ H Q ⟨mu, S, ρ, ds, R, re, r, h⟩
  cases ds with
  | nil => exact h.elim
  | cons d ds =>
    cases r with
    | cons r1 r2 =>
      refine ⟨_, _, rfl, mu, S, ρ, d, R, re, r1, ?_⟩
      simp only [gCn] at h
      cases e1 : g d ρ S with
      | none => rw [e1] at h; exact h.elim
      | some p =>
        obtain ⟨ρ', S'⟩ := p
        rw [e1] at h
        intro mu' H' σ' R' x re' t1
        refine ⟨mu', S', ρ', ds, R', re', r2.mono R x, ?_⟩
        simp only at h
        cases e2 : gs ds ρ' S' with
        | none => rw [e2] at h; exact h.elim
        | some p2 =>
          obtain ⟨ρ2, S2⟩ := p2
          rw [e2] at h
          exact fun mu2 H2 σ2 R2 y re2 t2 => h mu2 H2 σ2 R2 (x.trans y) re2 (t1.trans t2)
/-- (a, b, ..) = a tuple -/
def gTp (n : Nat) (gs : GFs) : GF := fun d ρ S => match d with
  | .tup ds => if ds.length = n then gs ds ρ S else none
  | _ => none
theorem sg_tup {es : List Expr} {k : Nat} {pos : Pos} {gs : GFs} {n : Nat} {ts : List Nat} (hc : X.calm = true) (b : SGs X C es gs ts) (hn : (assignEach es X.env).length = n := by rfl) (hst : (assignEach es X.env).findIdx? (·.1) = none := by rfl) : SG X C (.Tuple es k pos) (gTp n gs) ts := by
  refine ⟨PG.imp (pg_tup hc b.pgs hn hst) ?_⟩
  rintro v σ H Q ⟨mu, S, ρ, d, R, re, r, h⟩
  unfold gTp at h
  cases r with
  | tup hs hd =>
    rename_i a vs ds
    simp only at h
    by_cases hl : ds.length = n
    · rw [if_pos hl] at h
      exact ⟨a, vs, rfl, hs, (RDs.length hd).trans hl, mu, S, ρ, ds, R, re, hd, h⟩
    · rw [if_neg hl] at h; exact h.elim
  | _ => exact h.elim
def sAsg (f : EF D) (g : GF) : SF := fun ρ S => toS ρ (f ρ S) fun d S1 => match g d ρ S1 with
  | none => none
  | some (ρ', S') => some (.nx ρ', S')
theorem asg_post {K : PySem.W.Frag} {g : GF} {ts : List Nat} {mu : Nat → Addr} {S : Store} {H : Hp} {σ : L2.St} {ρ : Rho} {d : D} {v : V} {Dn : Ends} (R : Rel K C mu S H) (re : RE K mu S.length H σ ρ) (r : RD K mu S.length H v d)
    (h : PostS K C W mu S.length H (match g d ρ S with | none => none | some (ρ', S') => some (.nx ρ', S')) Dn) : TG' K C g ts v σ H Dn.nx := by
  refine ⟨mu, S, ρ, d, R, re, r, ?_⟩
  cases e : g d ρ S with
  | none => rw [e] at h; exact h.elim
  | some p =>
    obtain ⟨ρ', S'⟩ := p
    rw [e] at h
    exact fun mu' H' σ' R' x re' _ => h mu' H' σ' R' x re'
theorem ss_asg {tg e : Expr} {f : EF D} {g : GF} {ts : List Nat} {pos : Pos} (a : SE X C W e f) (b : SG X C tg g ts) (hs : swapsWithSole [tg] e pos.line X.env = pure false := by rfl) (hw : swappedStores [tg] e X.env = pure none := by rfl)
    (h1 : (assignEach [tg] X.env).map (·.2) = [assign tg X.env] := by rfl) : SS X C W (.Assign [tg] e pos) (sAsg f g) := by
  refine ⟨PS.imp (ps_asg a.pe b.pg hs hw h1) ?_⟩
  rintro Dn σ H ⟨mu, S, ρ, R, re, h⟩
  refine ⟨mu, S, ρ, R, re, (PostS.bind R re h).mono ?_⟩
  rintro v H1 ⟨mu1, S1, d1, R1, x1, re1, r1, h1⟩
  exact asg_post R1 re1 r1 h1
theorem ss_set (i : Nat) {x : Str} {e : Expr} {f : EF D} {pos pos' : Pos} (hN : X.N.Nodup) (a : SE X C W e f) (hi : X.N[i]? = some x := by rfl) (hx : Loc X.env.scope x := by first | exact Or.inl rfl | exact Or.inr rfl) (hs : swapsWith e (some (.Name x pos')) pos.line X.env = pure false := by rfl)
    (hf : X.fn x = true ∨ X.env.scope.names.lookup x = some .local := by first | exact .inl rfl | exact .inr rfl | assumption) : SS X C W (.Assign [.Name x pos'] e pos) (sAsg f (gN i)) := by
  refine ⟨PS.imp (ps_set hN hi hx a.pe hs hf) ?_⟩
  rintro Dn σ H ⟨mu, S, ρ, R, re, h⟩
  refine ⟨mu, S, ρ, R, re, (PostS.bind R re h).mono ?_⟩
  rintro v H1 ⟨mu1, S1, d1, R1, x1, re1, r1, h1⟩
  exact h1 mu1 H1 _ R1 .refl (re1.set r1 i)
/-- name op= e -/
def sAug (i : Nat) (p : P2) (f : EF D) : SF := fun ρ S => match ρ[i]? with
  | some (some d) => toS ρ (bindR (f ρ S) fun y S1 => p d y S1) fun z S2 => some (.nx (ρ.set i (some z)), S2)
  | _ => none
def SrvIp (X : Cx) (C : Cls0) (t : TIp) (p : P2) : Prop :=
  ∀ (XW : Value → Option Addr → Hp → Prop) (mu : Nat → Addr) (S : Store) (H : Hp) (x y : V) (d e : D) (Q : VK), Rel X.K C mu S H → RD X.K mu S.length H x d → RD X.K mu S.length H y e → PostG X.K C XW mu S.length H (QD X.K) (p d e S) Q → t x y H Q
theorem ss_aug (i : Nat) {x : Str} {e : Expr} {f : EF D} {op : Operator} {ti : TIp} {p : P2} {pos pos' : Pos} (hN : X.N.Nodup) (ho : PIp X op ti) (hp : SrvIp X C ti p) (a : SE X C W e f) (hi : X.N[i]? = some x := by rfl) (hx : Loc X.env.scope x := by first | exact Or.inl rfl | exact Or.inr rfl)
    (hf : X.fn x = true ∨ X.env.scope.names.lookup x = some .local := by first | exact .inl rfl | exact .inr rfl | assumption) : SS X C W (.AugAssign (.Name x pos') op e pos) (sAug i p f) := by
  refine ⟨PS.imp (ps_aug hN hi hx a.pe ho hf) ?_⟩
  rintro Dn σ H ⟨mu, S, ρ, R, re, h⟩
  unfold sAug at h
  split at h
  · rename_i d e1
    obtain ⟨v, e2, r⟩ := re.get i d e1
    refine ⟨v, e2, mu, S, ρ, R, re, ?_⟩
    have q := PostS.bind (RA := QD X.K) R re h
    refine q.bind.mono ?_
    rintro y H1 ⟨mu1, S1, d1, R1, x1, r1, h1⟩
    refine hp _ mu1 S1 H1 v y d d1 _ R1 (r.mono R x1) r1 (h1.mono ?_)
    rintro z H2 ⟨mu2, S2, d2, R2, x2, re2, r2, h2⟩
    exact h2 mu2 H2 _ R2 .refl (re2.set r2 i)
  · exact h.elim
end
end Sh

set_option Elab.async false
set_option linter.all false
set_option maxRecDepth 100000
set_option maxHeartbeats 4000000
set_option autoImplicit false
namespace Sh
open PySem PySem.Spec PyProof.Rows L2

section
variable {X : Cx} {C : Cls0} {W : Wx}
/-! ### tests -/
def asB (r : Rs D) : Rs Bool := bindR r fun d S => match d with
  | .bl b => okR b S
  | _ => none
def fT (f : EF D) : EF Bool := fun ρ S => asB (f ρ S)
theorem asB_post {K : PySem.W.Frag} {XW : Value → Option Addr → Hp → Prop} {mu : Nat → Addr} {n : Nat} {H : Hp} {r : Rs D} {Q : Bool → Hp → Prop} (h : PostG K C XW mu n H RB0 (asB r) Q) :
    PostG K C XW mu n H (QD K) r fun v H1 => ∃ c, v = .bl c ∧ Q c H1 := by
  refine (PostG.bind (RA := QD K) h).mono ?_
  rintro v H1 ⟨mu1, S1, d1, R1, x1, r1, h1⟩
  cases r1 with
  | bl b => exact ⟨b, rfl, h1.ok R1 rfl⟩
  | _ => exact h1.elim
theorem st_val {e : Expr} {f : EF D} (a : SE X C W e f) (he : ∀ whole, isTrue e X.env whole = (do let v ← whole; standAt e.pos; holding [v] (truthy v)) := by intro _; rfl) : ST X C W e (fT f) := by
  refine ⟨PT.imp (pt_val a.pe he) ?_⟩
  rintro σ H Q ⟨mu, S, ρ, R, re, h⟩
  exact ⟨mu, S, ρ, R, re, asB_post h⟩
theorem st_cmp {a b : Expr} {op : CmpOp} {f g : EF D} {p : P2} {r : R2} {pos : Pos} (ho : OpR X (compareOp op) r) (hr : Srv2 X.K C r p) (ha : SE X C W a f) (hb : SE X C W b g) (hm : behindInMarks op b = false := by first | exact nomark _ | rfl) : ST X C W (.Compare a [op] [b] pos) (fT (fBin p f g)) := by
  refine ⟨PT.imp (pt_cmpR ho ha.pe hb.pe hm) ?_⟩
  rintro σ H Q ⟨mu, S, ρ, R, re, h⟩
  exact bin' (e1 := a) (e2 := b) hr ⟨mu, S, ρ, R, re, asB_post h⟩
/-- a op b op' c -/
def fChain (p q : P2) (f g h : EF D) : EF D := fun ρ S => bindR (f ρ S) fun d S1 => bindR (g ρ S1) fun e S2 => bindR (p d e S2) fun z S3 => match z with
  | .bl true => bindR (h ρ S3) fun k S4 => q e k S4
  | .bl false => okR (.bl false) S3
  | _ => none
theorem chain' {e1 e2 e3 : Expr} {f g h : EF D} {p q : P2} {r r' : R2} (hr : Srv2 X.K C r p) (hr' : Srv2 X.K C r' q) {σ : L2.St} {H : Hp} {Q : VK} (z : TE' X.K C W (fChain p q f g h) σ H Q) : tChain r r' (TE' X.K C W f) (TE' X.K C W g) (TE' X.K C W h) σ H Q := by
  obtain ⟨mu, S, ρ, R, re, z⟩ := z
  refine ⟨mu, S, ρ, R, re, (PostG.bind (RA := QD X.K) z).mono ?_⟩
  rintro v H1 ⟨mu1, S1, d1, R1, x1, r1, h1⟩
  refine ⟨mu1, S1, ρ, R1, re.mono R x1, (PostG.bind (RA := QD X.K) h1).mono ?_⟩
  rintro v2 H2 ⟨mu2, S2, d2, R2, x2, r2, h2⟩
  refine hr _ mu2 S2 H2 v v2 d1 d2 _ R2 (r1.mono R1 x2) r2 ((PostG.bind (RA := QD X.K) h2).mono ?_)
  rintro v3 H3 ⟨mu3, S3, d3, R3, x3, r3, h3⟩
  cases r3 with
  | bl b =>
    refine ⟨b, rfl, ?_⟩
    cases b with
    | false => exact h3.ok R3 (.bl false)
    | true =>
      rw [if_pos rfl]
      refine ⟨mu3, S3, ρ, R3, (re.mono R x1).mono R1 x2 |>.mono R2 x3, (PostG.bind (RA := QD X.K) h3).mono ?_⟩
      rintro v4 H4 ⟨mu4, S4, d4, R4, x4, r4, h4⟩
      exact hr' _ mu4 S4 H4 v2 v4 d2 d4 Q R4 ((r2.mono R2 x3).mono R3 x4) r4 h4
  | _ => exact h3.elim
theorem se_chain {a b c : Expr} {op op' : CmpOp} {f g h : EF D} {p q : P2} {r r' : R2} {pos : Pos} (ho : OpR X (compareOp op) r) (ho' : OpR X (compareOp op') r') (hr : Srv2 X.K C r p) (hr' : Srv2 X.K C r' q) (ha : SE X C W a f) (hb : SE X C W b g) (hc : SE X C W c h)
    (hm : lastMarks [op, op'] [b, c] = false := by with_unfolding_all rfl) : SE X C W (.Compare a [op, op'] [b, c] pos) (fChain p q f g h) :=
  ⟨PE.imp (pe_chain ho ho' ha.pe hb.pe hc.pe hm) fun σ H Q z => chain' (e1 := a) (e2 := b) (e3 := c) hr hr' z⟩
theorem st_chain {a b c : Expr} {op op' : CmpOp} {f g h : EF D} {p q : P2} {r r' : R2} {pos : Pos} (ho : OpR X (compareOp op) r) (ho' : OpR X (compareOp op') r') (hr : Srv2 X.K C r p) (hr' : Srv2 X.K C r' q) (ha : SE X C W a f) (hb : SE X C W b g) (hc : SE X C W c h)
    (hm : lastMarks [op, op'] [b, c] = false := by with_unfolding_all rfl) : ST X C W (.Compare a [op, op'] [b, c] pos) (fT (fChain p q f g h)) := by
  refine ⟨PT.imp (pt_chain ho ho' ha.pe hb.pe hc.pe hm) ?_⟩
  rintro σ H Q ⟨mu, S, ρ, R, re, z⟩
  exact chain' (e1 := a) (e2 := b) (e3 := c) hr hr' ⟨mu, S, ρ, R, re, asB_post z⟩
/-- and, or, not as tests -/
structure SW (X : Cx) (C : Cls0) (W : Wx) (e : Expr) (f : EF Bool) : Prop where
  pw : PW X e (TT' X.K C W f)
theorem PW.imp {e : Expr} {t t' : TT} (h : PW X e t) (k : ∀ σ H Q, t' σ H Q → t σ H Q) : PW X e t' := ⟨fun wh pins s σ H Q I q => h.run wh pins s σ H Q I (k σ H Q q)⟩
def tAndF (f g : EF Bool) : EF Bool := fun ρ S => bindR (f ρ S) fun b S1 => if b = true then g ρ S1 else okR false S1
def tOrF (f g : EF Bool) : EF Bool := fun ρ S => bindR (f ρ S) fun b S1 => if b = true then okR true S1 else g ρ S1
def tNotF (f : EF Bool) : EF Bool := fun ρ S => bindR (f ρ S) fun b S1 => okR (!b) S1
theorem sw_and1 {a : Expr} {f : EF Bool} {pos : Pos} (h : ST X C W a f) : SW X C W (.BoolOp .And [a] pos) f := ⟨pw_and1 h.pt⟩
theorem sw_or1 {a : Expr} {f : EF Bool} {pos : Pos} (h : ST X C W a f) : SW X C W (.BoolOp .Or [a] pos) f := ⟨pw_or1 h.pt⟩
theorem sw_and {a b : Expr} {r : List Expr} {f g : EF Bool} {pos : Pos} (h : ST X C W a f) (k : SW X C W (.BoolOp .And (b :: r) pos) g) : SW X C W (.BoolOp .And (a :: b :: r) pos) (tAndF f g) := by
  refine ⟨PW.imp (pw_and h.pt k.pw) ?_⟩
  rintro σ H Q ⟨mu, S, ρ, R, re, z⟩
  refine ⟨mu, S, ρ, R, re, (PostG.bind (RA := RB0) z).mono ?_⟩
  rintro v H1 ⟨mu1, S1, d1, R1, x1, r1, h1⟩
  obtain rfl : v = d1 := r1
  cases v with
  | true => exact ⟨mu1, S1, ρ, R1, re.mono R x1, h1⟩
  | false => exact h1.ok R1 rfl
theorem sw_or {a b : Expr} {r : List Expr} {f g : EF Bool} {pos : Pos} (h : ST X C W a f) (k : SW X C W (.BoolOp .Or (b :: r) pos) g) : SW X C W (.BoolOp .Or (a :: b :: r) pos) (tOrF f g) := by
  refine ⟨PW.imp (pw_or h.pt k.pw) ?_⟩
  rintro σ H Q ⟨mu, S, ρ, R, re, z⟩
  refine ⟨mu, S, ρ, R, re, (PostG.bind (RA := RB0) z).mono ?_⟩
  rintro v H1 ⟨mu1, S1, d1, R1, x1, r1, h1⟩
  obtain rfl : v = d1 := r1
  cases v with
  | true => exact h1.ok R1 rfl
  | false => exact ⟨mu1, S1, ρ, R1, re.mono R x1, h1⟩
theorem st_w {e : Expr} {f : EF Bool} (h : SW X C W e f) : ST X C W e f := ⟨h.pw.pt⟩
theorem st_not {a : Expr} {f : EF Bool} {pos : Pos} (h : ST X C W a f) : ST X C W (.UnaryOp .Not a pos) (tNotF f) := by
  refine ⟨PT.imp (pt_not h.pt) ?_⟩
  rintro σ H Q ⟨mu, S, ρ, R, re, z⟩
  refine ⟨mu, S, ρ, R, re, (PostG.bind (RA := RB0) z).mono ?_⟩
  rintro v H1 ⟨mu1, S1, d1, R1, x1, r1, h1⟩
  obtain rfl : v = d1 := r1
  exact h1.ok R1 rfl
/-- an expression of any kind as a test -/
def truO (d : D) (S : Store) : Option Bool := match d with
  | .non => some false
  | .bl b => some b
  | .int i => some (i != 0)
  | .str x => if x.length ≤ 16777216 then some ((x.length : Int) != 0) else none
  | .tup ds => some !ds.isEmpty
  | .fl ds => some !ds.isEmpty
  | .ref l => match S[l]? with
    | some (.lst ds) => some !ds.isEmpty
    | _ => none
def fTru (f : EF D) : EF Bool := fun ρ S => bindR (f ρ S) fun d S1 => match truO d S1 with
  | some b => okR b S1
  | none => none
theorem truO_ok {K : PySem.W.Frag} {mu : Nat → Addr} {S : Store} {H : Hp} {d : D} {v : V} {b : Bool} (R : Rel K C mu S H) (r : RD K mu S.length H v d) (e : truO d S = some b) : TruV K v H b := by
  cases r with
  | non => cases e; exact rfl
  | bl b => cases e; exact rfl
  | int i => cases e; exact rfl
  | str x =>
    simp only [truO] at e
    split at e
    · cases e
      refine ⟨by rw [sizeLine_16]; assumption, rfl⟩
    · cases e
  | @tup a vs ds hs hd =>
    cases e
    refine .inr (.inl ⟨_, hs, ?_⟩)
    have := RDs.length hd
    cases vs <;> cases ds <;> simp_all
  | @fl a vs ds hs hd =>
    cases e
    refine .inl ⟨_, hs.seq, ?_⟩
    have := RDs.length hd
    cases vs <;> cases ds <;> simp_all
  | @ref l hl =>
    simp only [truO] at e
    split at e
    · rename_i ds e1
      cases e
      obtain ⟨vs, e2, rd⟩ := R.obj _ _ e1
      refine .inl ⟨vs, .of e2, ?_⟩
      have := RDs.length rd
      cases vs <;> cases ds <;> simp_all
    · cases e
theorem st_tru {e : Expr} {f : EF D} (a : SE X C W e f) (he : ∀ whole, isTrue e X.env whole = (do let v ← whole; standAt e.pos; holding [v] (truthy v)) := by intro _; rfl) : ST X C W e (fTru f) := by
  refine ⟨PT.imp (pt_truth a.pe he) ?_⟩
  rintro σ H Q ⟨mu, S, ρ, R, re, h⟩
  refine ⟨mu, S, ρ, R, re, (PostG.bind (RA := QD X.K) h).mono ?_⟩
  rintro v H1 ⟨mu1, S1, d1, R1, x1, r1, h1⟩
  split at h1
  · rename_i b e1
    exact ⟨b, truO_ok R1 r1 e1, h1.ok R1 rfl⟩
  · exact h1.elim
/-- a if t else b -/
def fIf (c : EF Bool) (f g : EF D) : EF D := fun ρ S => bindR (c ρ S) fun b S1 => if b = true then f ρ S1 else g ρ S1
theorem se_if {c a b : Expr} {t : EF Bool} {f g : EF D} {pos : Pos} (hc : ST X C W c t) (ha : SE X C W a f) (hb : SE X C W b g) : SE X C W (.IfExp c a b pos) (fIf t f g) := by
  refine ⟨PE.imp (pe_ifExp hc.pt ha.pe hb.pe) ?_⟩
  rintro σ H Q ⟨mu, S, ρ, R, re, h⟩
  refine ⟨mu, S, ρ, R, re, (PostG.bind (RA := RB0) h).mono ?_⟩
  rintro v H1 ⟨mu1, S1, d1, R1, x1, r1, h1⟩
  obtain rfl : v = d1 := r1
  cases v with
  | true => exact ⟨mu1, S1, ρ, R1, re.mono R x1, h1⟩
  | false => exact ⟨mu1, S1, ρ, R1, re.mono R x1, h1⟩
/-- a and b, a or b, not a as values, all True or False -/
def fAnd (f g : EF D) : EF D := fun ρ S => bindR (asB (f ρ S)) fun b S1 => if b = true then g ρ S1 else okR (.bl false) S1
def fOr (f g : EF D) : EF D := fun ρ S => bindR (asB (f ρ S)) fun b S1 => if b = true then okR (.bl true) S1 else g ρ S1
def fNot (f : EF D) : EF D := fun ρ S => bindR (asB (f ρ S)) fun b S1 => okR (.bl (!b)) S1
theorem se_one {op : BoolOp} {a : Expr} {f : EF D} {pos : Pos} (h : SE X C W a f) : SE X C W (.BoolOp op [a] pos) f := ⟨pe_one h.pe⟩
theorem se_and {a b : Expr} {r : List Expr} {f g : EF D} {pos : Pos} (h : SE X C W a f) (k : SE X C W (.BoolOp .And (b :: r) pos) g) : SE X C W (.BoolOp .And (a :: b :: r) pos) (fAnd f g) := by
  refine ⟨PE.imp (pe_and h.pe k.pe) ?_⟩
  rintro σ H Q ⟨mu, S, ρ, R, re, z⟩
  refine ⟨mu, S, ρ, R, re, ?_⟩
  have z' := asB_post (Q := fun c H1 => if c = true then TE' X.K C W g σ H1 Q else Q (.bl false) H1) ((PostG.bind (RA := RB0) z).mono ?_)
  · exact z'.mono fun v H1 ⟨c, e, q⟩ => ⟨c, e, q⟩
  · rintro v H1 ⟨mu1, S1, d1, R1, x1, r1, h1⟩
    obtain rfl : v = d1 := r1
    cases v with
    | true => exact ⟨mu1, S1, ρ, R1, re.mono R x1, h1⟩
    | false => exact h1.ok R1 (.bl false)
theorem se_or {a b : Expr} {r : List Expr} {f g : EF D} {pos : Pos} (h : SE X C W a f) (k : SE X C W (.BoolOp .Or (b :: r) pos) g) : SE X C W (.BoolOp .Or (a :: b :: r) pos) (fOr f g) := by
  refine ⟨PE.imp (pe_or h.pe k.pe) ?_⟩
  rintro σ H Q ⟨mu, S, ρ, R, re, z⟩
  refine ⟨mu, S, ρ, R, re, ?_⟩
  have z' := asB_post (Q := fun c H1 => if c = true then Q (.bl true) H1 else TE' X.K C W g σ H1 Q) ((PostG.bind (RA := RB0) z).mono ?_)
  · exact z'.mono fun v H1 ⟨c, e, q⟩ => ⟨c, e, q⟩
  · rintro v H1 ⟨mu1, S1, d1, R1, x1, r1, h1⟩
    obtain rfl : v = d1 := r1
    cases v with
    | true => exact h1.ok R1 (.bl true)
    | false => exact ⟨mu1, S1, ρ, R1, re.mono R x1, h1⟩
theorem se_not {a : Expr} {f : EF D} {pos : Pos} (h : SE X C W a f) : SE X C W (.UnaryOp .Not a pos) (fNot f) := by
  refine ⟨PE.imp (pe_not h.pe) ?_⟩
  rintro σ H Q ⟨mu, S, ρ, R, re, z⟩
  refine ⟨mu, S, ρ, R, re, ?_⟩
  refine asB_post (Q := fun c H1 => Q (.bl (!c)) H1) ((PostG.bind (RA := RB0) z).mono ?_)
  rintro v H1 ⟨mu1, S1, d1, R1, x1, r1, h1⟩
  obtain rfl : v = d1 := r1
  exact h1.ok R1 (.bl _)
end

/-! ### what is walked -/
structure ItG (K : PySem.W.Frag) (C : Cls0) (J : It) (ds : List D) (chk : List (Nat × List D)) (mu1 : Nat → Addr) (n1 : Nat) (H1 : Hp) : Prop where
  go : ∀ mu' S' H' i, Rel K C mu' S' H' → Ext mu1 n1 H1 mu' S'.length H' → (∀ q ∈ chk, S'[q.1]? = some (.lst q.2)) → i < ds.length → J.go i H'
  yld : ∀ mu' S' H' i x H'', Rel K C mu' S' H' → Ext mu1 n1 H1 mu' S'.length H' → (∀ q ∈ chk, S'[q.1]? = some (.lst q.2)) → i < ds.length → J.yld i H' x H'' →
    ∃ d, ds[i]? = some d ∧ Rel K C mu' S' H'' ∧ Ext mu' S'.length H' mu' S'.length H'' ∧ RD K mu' S'.length H'' x d
  stop : ∀ mu' S' H', Rel K C mu' S' H' → Ext mu1 n1 H1 mu' S'.length H' → (∀ q ∈ chk, S'[q.1]? = some (.lst q.2)) → J.stop ds.length H'
def RI (K : PySem.W.Frag) (C : Cls0) : Hp → (Nat → Addr) → Nat → Hp → It → (List D × List (Nat × List D)) → Prop := fun _ mu n H J p => ItG K C J p.1 p.2 mu n H
instance {K : PySem.W.Frag} {C : Cls0} : Anti (RI K C) := ⟨fun _ h => h⟩
abbrev IF := EF (List D × List (Nat × List D))
def TI' (K : PySem.W.Frag) (C : Cls0) (W : Wx) (f : IF) : TI := fun σ H R => ∃ mu S ρ, Rel K C mu S H ∧ RE K mu S.length H σ ρ ∧ PostG K C (fun c d H' => W c d σ H') mu S.length H (RI K C) (f ρ S) R
structure SI (X : Cx) (C : Cls0) (W : Wx) (tg iter : Expr) (f : IF) : Prop where
  pi : PI X tg iter (TI' X.K C W f)
theorem PI.imp {X : Cx} {tg e : Expr} {t t' : TI} (h : PI X tg e t) (k : ∀ σ H R, t' σ H R → t σ H R) : PI X tg e t' := ⟨fun pins s σ H R I q => h.run pins s σ H R I (k σ H R q)⟩
open Classical in
/-- what is walked stands still -/
noncomputable def chkOk (p : List D × List (Nat × List D)) (S : Store) : Bool := decide (∀ q ∈ p.2, S[q.1]? = some (.lst q.2))
open Classical in
theorem chkOk_of {p : List D × List (Nat × List D)} {S : Store} (h : chkOk p S = true) : ∀ q ∈ p.2, S[q.1]? = some (.lst q.2) := by
  unfold chkOk at h
  exact of_decide_eq_true h
theorem chkOk_none {ds : List D} {S : Store} : chkOk (ds, []) S = true := by simp [chkOk]
theorem chkOk_some {ds : List D} {l : Nat} {S : Store} (h : S[l]? = some (.lst ds)) : chkOk (ds, [(l, ds)]) S = true := by simp [chkOk, h]
theorem chkOk_two {ds es fs : List D} {l m : Nat} {S : Store} (h : S[l]? = some (.lst es)) (h2 : S[m]? = some (.lst fs)) : chkOk (ds, [(l, es), (m, fs)]) S = true := by simp [chkOk, h, h2]
theorem chkOk_one {ds es : List D} {l : Nat} {S : Store} (h : S[l]? = some (.lst es)) : chkOk (ds, [(l, es)]) S = true := by simp [chkOk, h]
section
variable {K : PySem.W.Frag} {C : Cls0} {mu : Nat → Addr} {S : Store} {H : Hp}
theorem itg_tup {a : Addr} {vs : List V} {ds : List D} (R : Rel K C mu S H) (hs : SqT K H a vs) (hd : RDs K mu S.length H vs ds) : ItG K C (Itt K a) ds [] mu S.length H where
  go := fun mu' S' H' i R' x _ hi => by
    obtain ⟨v, e, _⟩ := hd.get (List.getElem?_eq_getElem hi)
    exact ⟨vs, v, x.sqT R hs, e⟩
  yld := fun mu' S' H' i v H'' R' x _ hi y => by
    obtain ⟨rfl, y⟩ := y
    have e := y vs (x.sqT R hs)
    obtain ⟨d, e2, r⟩ := (hd.mono R x).get' e
    exact ⟨d, e2, R', .refl, r⟩
  stop := fun mu' S' H' R' x _ => ⟨vs, x.sqT R hs, Nat.le_of_eq (RDs.length hd)⟩
theorem itg_fl {a : Addr} {vs : List V} {ds : List D} (R : Rel K C mu S H) (hs : FzL K H a vs) (hd : RDs K mu S.length H vs ds) : ItG K C (Itl K a) ds [] mu S.length H where
  go := fun mu' S' H' i R' x _ hi => by
    obtain ⟨v, e, _⟩ := hd.get (List.getElem?_eq_getElem hi)
    exact ⟨vs, v, (x.fzL R hs).seq, e⟩
  yld := fun mu' S' H' i v H'' R' x _ hi y => by
    obtain ⟨rfl, y⟩ := y
    have e := y vs (x.fzL R hs).seq
    obtain ⟨d, e2, r⟩ := (hd.mono R x).get' e
    exact ⟨d, e2, R', .refl, r⟩
  stop := fun mu' S' H' R' x _ => ⟨vs, (x.fzL R hs).seq, Nat.le_of_eq (RDs.length hd)⟩
/-- a list of the store -/
theorem itg_ref {l : Nat} {ds : List D} (hl : l < S.length) : ItG K C (Itl K (mu l)) ds [(l, ds)] mu S.length H where
  go := fun mu' S' H' i R' x c hi => by
    obtain ⟨vs, e, hd⟩ := R'.obj l _ (c (l, ds) (List.mem_cons_self ..))
    obtain ⟨v, e2, _⟩ := hd.get (List.getElem?_eq_getElem hi)
    rw [x.same l hl] at e
    exact ⟨vs, v, .of e, e2⟩
  yld := fun mu' S' H' i v H'' R' x c hi y => by
    obtain ⟨rfl, y⟩ := y
    obtain ⟨vs, e, hd⟩ := R'.obj l _ (c (l, ds) (List.mem_cons_self ..))
    rw [x.same l hl] at e
    have e3 := y vs (.of e)
    obtain ⟨d, e2, r⟩ := hd.get' e3
    exact ⟨d, e2, R', .refl, r⟩
  stop := fun mu' S' H' R' x c => by
    obtain ⟨vs, e, hd⟩ := R'.obj l _ (c (l, ds) (List.mem_cons_self ..))
    rw [x.same l hl] at e
    exact ⟨vs, .of e, Nat.le_of_eq (RDs.length hd)⟩
/-- a new list -/
theorem itg_new {a : Addr} {vs : List V} {ds : List D} (R : Rel K C mu S H) (ha : H a = some (.lst vs)) (hd : RDs K mu S.length H vs ds) (hf : ∀ l, l < S.length → mu l ≠ a) : ItG K C (Itl K a) ds [] mu S.length H where
  go := fun mu' S' H' i R' x _ hi => by
    obtain ⟨v, e, _⟩ := hd.get (List.getElem?_eq_getElem hi)
    exact ⟨vs, v, .of (x.frame _ _ ha hf), e⟩
  yld := fun mu' S' H' i v H'' R' x _ hi y => by
    obtain ⟨rfl, y⟩ := y
    have e := y vs (.of (x.frame _ _ ha hf))
    obtain ⟨d, e2, r⟩ := (hd.mono R x).get' e
    exact ⟨d, e2, R', .refl, r⟩
  stop := fun mu' S' H' R' x _ => ⟨vs, .of (x.frame _ _ ha hf), Nat.le_of_eq (RDs.length hd)⟩
def dInts (lo : Int) (n : Nat) : List D := (List.range n).map fun i => D.int (lo + (i : Nat))
theorem dInts_length {lo : Int} {n : Nat} : (dInts lo n).length = n := by simp [dInts]
theorem itg_rng {lo : Int} {n : Nat} : ItG K C (Itr lo n) (dInts lo n) [] mu S.length H where
  go := fun mu' S' H' i R' x _ hi => by rw [dInts_length] at hi; exact hi
  yld := fun mu' S' H' i v H'' R' x _ hi y => by
    obtain ⟨rfl, rfl⟩ := y
    rw [dInts_length] at hi
    exact ⟨.int (lo + (i : Nat)), by simp [dInts, hi], R', .refl, .int _⟩
  stop := fun mu' S' H' R' x _ => by show n ≤ (dInts lo n).length; rw [dInts_length]; exact Nat.le_refl _
def chars (z : Str) : List D := z.cps.toList.map fun c => D.str ⟨#[c]⟩
theorem itg_str {z : Str} : ItG K C (Its z) (chars z) [] mu S.length H where
  go := fun mu' S' H' i R' x _ hi => by show i < z.cps.size; simpa [chars] using hi
  yld := fun mu' S' H' i v H'' R' x _ hi y => by
    obtain ⟨rfl, c, e, rfl⟩ := y
    refine ⟨.str ⟨#[c]⟩, ?_, R', .refl, .str _⟩
    simp [chars, e]
  stop := fun mu' S' H' R' x _ => by show z.cps.size ≤ (chars z).length; simp [chars]
end

/-- a list or a tuple or a text, walked -/
theorem pi_any {X : Cx} {tg l : Expr} {tl : TE} (hl : PE X l tl) :
    PI X tg l (fun σ H R => tl σ H fun x H1 => (∃ a, x = .ref a ∧ (((∃ xs, SqL X.K H1 a xs) ∧ R (Itl X.K a) H1) ∨ ((∃ xs, SqT X.K H1 a xs) ∧ R (Itt X.K a) H1))) ∨ (∃ z, x = .str z ∧ R (Its z) H1)) := by
  refine ⟨fun pins s σ H R I h => ?_⟩
  refine thn (hl.run pins s σ H _ I h) fun v s1 ⟨x, H1, I1, r1, q1⟩ => ?_
  rcases q1 with ⟨a, e, q⟩ | ⟨z, e, q⟩
  · subst e
    cases r1
    rcases q with ⟨⟨xs, hq⟩, q⟩ | ⟨⟨xs, hq⟩, q⟩
    · obtain ⟨its, rv, p, hz⟩ := I1.list hq
      refine wpAny_pyIter_list p.isList ?_
      refine ⟨s1.heap.objs.size, [s1.heap.objs.size], _, _, H1, rfl, I1.kept (t' := s1.toks) fun b o e => Heap.get?_push_of_some _ e, turn_list a _, ⟨_, Heap.get?_push_size _ rfl, rfl, rfl⟩, fun b hb => ?_, q⟩
      have e : b = s1.heap.objs.size := by simpa using hb
      subst e
      exact I1.fpOk (Nat.le_refl _) (I1.hok.fresh (Nat.le_refl _))
    · obtain ⟨its, rv, p, hz⟩ := I1.tuple hq
      refine wpAny_pyIter_tuple (show s1.heap.IsTuple a its.toArray from p) ?_
      refine ⟨s1.heap.objs.size, [s1.heap.objs.size], _, _, H1, rfl, I1.kept (t' := s1.toks) fun b o e => Heap.get?_push_of_some _ e, turn_tuple a _, ⟨_, Heap.get?_push_size _ rfl, rfl, rfl⟩, fun b hb => ?_, q⟩
      have e : b = s1.heap.objs.size := by simpa using hb
      subst e
      exact I1.fpOk (Nat.le_refl _) (I1.hok.fresh (Nat.le_refl _))
  · subst e
    obtain ⟨t, rfl⟩ := r1
    cases ha : z.cps.all (· < 128)
    · exact wpAny_pyIter_wide ha (pi_one (tk := s1.toks) I1 _ (turn_str _ z t "str_iterator" (.inr rfl)) ⟨_, Heap.get?_push_size _ rfl, rfl, rfl⟩ q)
    · exact wpAny_pyIter_ascii ha (pi_one (tk := s1.toks) I1 _ (turn_str _ z t "str_ascii_iterator" (.inl rfl)) ⟨_, Heap.get?_push_size _ rfl, rfl, rfl⟩ q)

section
variable {X : Cx} {C : Cls0} {W : Wx}
def walkOf (d : D) (S : Store) : Option (List D × List (Nat × List D)) := match d with
  | .tup ds => some (ds, [])
  | .fl ds => some (ds, [])
  | .str z => some (chars z, [])
  | .ref l => match S[l]? with
    | some (.lst ds) => some (ds, [(l, ds)])
    | _ => none
  | _ => none
def iE (f : EF D) : IF := fun ρ S => bindR (f ρ S) fun d S1 => match walkOf d S1 with
  | some p => okR p S1
  | none => none
theorem si_e {tg e : Expr} {f : EF D} (a : SE X C W e f) : SI X C W tg e (iE f) := by
  refine ⟨PI.imp (pi_any a.pe) ?_⟩
  rintro σ H Q ⟨mu, S, ρ, R, re, h⟩
  refine ⟨mu, S, ρ, R, re, (PostG.bind (RA := QD X.K) h).mono ?_⟩
  rintro v H1 ⟨mu1, S1, d1, R1, x1, r1, h1⟩
  cases r1 with
  | tup hs hd => exact .inl ⟨_, rfl, .inr ⟨⟨_, hs⟩, h1.ok R1 (itg_tup R1 hs hd)⟩⟩
  | fl hs hd => exact .inl ⟨_, rfl, .inl ⟨⟨_, hs.seq⟩, h1.ok R1 (itg_fl R1 hs hd)⟩⟩
  | str z => exact .inr ⟨z, rfl, h1.ok R1 itg_str⟩
  | @ref l hl =>
    simp only [walkOf] at h1
    cases e1 : S1[l]? with
    | none => rw [e1] at h1; exact h1.elim
    | some o =>
      rw [e1] at h1
      cases o with
      | lst ds =>
        obtain ⟨vs, e2, rd⟩ := R1.obj _ _ e1
        exact .inl ⟨_, rfl, .inl ⟨⟨vs, .of e2⟩, h1.ok R1 (itg_ref hl)⟩⟩
      | ins c fs => exact h1.elim
  | _ => exact h1.elim
/-- a new list, walked at once -/
def iL (f : EF (List D)) : IF := fun ρ S => bindR (f ρ S) fun ds S1 => okR (ds, []) S1
theorem si_l {tg e : Expr} {f : EF (List D)} (a : SL X C W e f) : SI X C W tg e (iL f) := by
  refine ⟨PI.imp (pi_list a.pe) ?_⟩
  rintro σ H Q ⟨mu, S, ρ, R, re, h⟩
  refine ⟨mu, S, ρ, R, re, (PostG.bind (RA := RL X.K) h).mono ?_⟩
  rintro v H1 ⟨mu1, S1, d1, R1, x1, ⟨p, vs, rfl, hp, rd, hf, _⟩, h1⟩
  exact ⟨p, rfl, ⟨vs, .of hp⟩, h1.ok R1 (itg_new R1 hp rd hf)⟩
def iR1 (g : EF (List D)) : IF := fun ρ S => bindR (g ρ S) fun ds S1 => match ds with
  | [.int j] => if j < 2 ^ 62 ∧ -(2 ^ 62) ≤ j then okR (dInts 0 j.toNat, []) S1 else none
  | _ => none
theorem si_range1 {tg a : Expr} {p pos : Pos} {g : EF (List D)} (hm : X.mg "range" = none) (ha : SA X C W [a] g) (hg : Gl X "range" := by rfl) (hs : starEach [a] X.env = [(false, eval a X.env)] := by rfl) : SI X C W tg (.Call (.Name "range" p) [a] [] pos) (iR1 g) := by
  refine ⟨PI.imp (pi_range1 hg hm ha.pa hs) ?_⟩
  rintro σ H Q ⟨mu, S, ρ, R, re, h⟩
  refine ⟨mu, S, ρ, R, re, (PostG.bind (RA := QDs X.K) h).mono ?_⟩
  rintro v H1 ⟨mu1, S1, d1, R1, x1, r1, h1⟩
  split at h1
  · rename_i j
    cases r1 with
    | cons r rr =>
      cases r
      cases rr
      by_cases hj : j < 2 ^ 62 ∧ -(2 ^ 62) ≤ j
      · rw [if_pos hj] at h1
        exact ⟨j, rfl, hj.2, hj.1, h1.ok R1 itg_rng⟩
      · rw [if_neg hj] at h1; exact h1.elim
  · exact h1.elim
def iR2 (g : EF (List D)) : IF := fun ρ S => bindR (g ρ S) fun ds S1 => match ds with
  | [.int i, .int j] => if (i < 2 ^ 62 ∧ -(2 ^ 62) ≤ i) ∧ j < 2 ^ 62 ∧ -(2 ^ 62) ≤ j then okR (dInts i (j - i).toNat, []) S1 else none
  | _ => none
theorem si_range2 {tg a b : Expr} {p pos : Pos} {g : EF (List D)} (hm : X.mg "range" = none) (ha : SA X C W [a, b] g) (hg : Gl X "range" := by rfl) (hs : starEach [a, b] X.env = [(false, eval a X.env), (false, eval b X.env)] := by rfl) (hs2 : starEach [b] X.env = [(false, eval b X.env)] := by rfl) :
    SI X C W tg (.Call (.Name "range" p) [a, b] [] pos) (iR2 g) := by
  refine ⟨PI.imp (pi_range2 hg hm ha.pa hs hs2) ?_⟩
  rintro σ H Q ⟨mu, S, ρ, R, re, h⟩
  refine ⟨mu, S, ρ, R, re, (PostG.bind (RA := QDs X.K) h).mono ?_⟩
  rintro v H1 ⟨mu1, S1, d1, R1, x1, r1, h1⟩
  split at h1
  · rename_i i j
    cases r1 with
    | cons r rr =>
      cases r
      cases rr with
      | cons r' rr =>
        cases r'
        cases rr
        by_cases hj : (i < 2 ^ 62 ∧ -(2 ^ 62) ≤ i) ∧ j < 2 ^ 62 ∧ -(2 ^ 62) ≤ j
        · rw [if_pos hj] at h1
          exact ⟨i, j, rfl, ⟨hj.1.2, hj.1.1, hj.2.2, hj.2.1⟩, h1.ok R1 itg_rng⟩
        · rw [if_neg hj] at h1; exact h1.elim
  · exact h1.elim
end
end Sh

set_option Elab.async false
set_option linter.all false
set_option maxRecDepth 100000
set_option maxHeartbeats 4000000
set_option autoImplicit false
namespace Sh
open PySem PySem.Spec PyProof.Rows L2

/-! ### for -/
noncomputable def forGo (g : GF) (body : SF) (p : List D × List (Nat × List D)) : List D → Rho → Store → Rf
  | [], ρ, S => if chkOk p S = true then some (.nx ρ, S) else none
  | d :: r, ρ, S => if chkOk p S = true then
      match g d ρ S with
      | none => none
      | some (ρ2, S2) => match body ρ2 S2 with
        | some (.nx ρ3, S3) => forGo g body p r ρ3 S3
        | some (.ct ρ3, S3) => forGo g body p r ρ3 S3
        | some (.bk ρ3, S3) => some (.nx ρ3, S3)
        | x => x
    else none
noncomputable def sFor (it : IF) (g : GF) (body : SF) : SF := fun ρ S => toS ρ (it ρ S) fun p S1 => forGo g body p p.1 ρ S1
section
variable {X : Cx} {C : Cls0} {W : Wx}
theorem ss_for {tg iter : Expr} {body : List Stmt} {it : IF} {g : GF} {ts : List Nat} {f : SF} {pos : Pos} (hp : PassesOwn (model X.prog X.w) X.A X.env X.xe) (hc : X.calm = true) (hi : SI X C W tg iter it) (hg : SG X C tg g ts) (hb : SB X C W body f)
    (hs : ∀ x, foldedSetIterable iter X.env x = pure x := by intro _; rfl) : SS X C W (.For tg iter body [] pos) (sFor it g f) := by
  refine ⟨PS.imp (ps_for hp hc hi.pi hg.pg hb.pss hs) ?_⟩
  rintro Dn σ H ⟨mu, S, ρ, R, re, h⟩
  refine ⟨mu, S, ρ, R, re, (PostS.bind (RA := RI X.K C) R re h).mono ?_⟩
  rintro J H1 ⟨mu1, S1, p, R1, x1, re1, ig, h1⟩
  refine ⟨fun i m σ H => i ≤ p.1.length ∧ m = p.1.length - i ∧ ∃ mu S ρ, Rel X.K C mu S H ∧ RE X.K mu S.length H σ ρ ∧ Ext mu1 S1.length H1 mu S.length H ∧ PostS X.K C W mu S.length H (forGo g f p (p.1.drop i) ρ S) Dn,
    ⟨p.1.length, Nat.zero_le _, by simp, mu1, S1, ρ, R1, re1, .refl, by simpa using h1⟩, ?_⟩
  rintro i m σ2 H2 ⟨hi', rfl, mu2, S2, ρ2, R2, re2, x2, h2⟩
  by_cases hlt : i < p.1.length
  · right
    rw [List.drop_eq_getElem_cons hlt] at h2
    simp only [forGo] at h2
    by_cases hk : chkOk p S2 = true
    · rw [if_pos hk] at h2
      have ck := chkOk_of hk
      refine ⟨ig.go mu2 S2 H2 i R2 x2 ck hlt, fun σ' H' => i + 1 ≤ p.1.length ∧ ∃ mu S ρ, Rel X.K C mu S H' ∧ RE X.K mu S.length H' σ' ρ ∧ Ext mu1 S1.length H1 mu S.length H' ∧ PostS X.K C W mu S.length H' (forGo g f p (p.1.drop (i + 1)) ρ S) Dn,
        fun σ' H' ⟨q1, q2⟩ => ⟨p.1.length - (i + 1), by omega, q1, rfl, q2⟩, fun x H3 y => ?_⟩
      obtain ⟨d, e, R3, x3, r3⟩ := ig.yld mu2 S2 H2 i x H3 R2 x2 ck hlt y
      rw [List.getElem?_eq_getElem hlt] at e
      cases e
      refine ⟨mu2, S2, ρ2, _, R3, re2.mono R2 x3, r3, ?_⟩
      cases e1 : g p.1[i] ρ2 S2 with
      | none => rw [e1] at h2; exact h2.elim
      | some q =>
        obtain ⟨ρ4, S4⟩ := q
        rw [e1] at h2
        intro mu4 H4 σ4 R4 x4 re4 _
        have x14 : Ext mu1 S1.length H1 mu4 S4.length H4 := (x2.trans x3).trans x4
        refine ⟨mu4, S4, ρ4, R4, re4, ?_⟩
        have h4 := PostS.trans (x3.trans x4) h2
        simp only at h4
        cases e2 : f ρ4 S4 with
        | none => rw [e2] at h4; exact h4.elim
        | some q2 =>
          obtain ⟨fl, S5⟩ := q2
          rw [e2] at h4
          cases fl with
          | nx ρ5 => exact fun mu' H' σ' R' x' re' => ⟨hlt, mu', S5, ρ5, R', re', x14.trans x', PostS.trans x' h4⟩
          | ct ρ5 => exact fun mu' H' σ' R' x' re' => ⟨hlt, mu', S5, ρ5, R', re', x14.trans x', PostS.trans x' h4⟩
          | bk ρ5 => exact h4
          | ret d => exact h4
          | exn e ρ5 => exact h4
    · rw [if_neg hk] at h2; exact h2.elim
  · left
    have e : i = p.1.length := by omega
    subst e
    rw [List.drop_length] at h2
    simp only [forGo] at h2
    by_cases hk : chkOk p S2 = true
    · rw [if_pos hk] at h2
      exact ⟨ig.stop mu2 S2 H2 R2 x2 (chkOk_of hk), h2 mu2 H2 σ2 R2 .refl re2⟩
    · rw [if_neg hk] at h2; exact h2.elim

/-! ### while -/
def whileN (c : EF Bool) (body : SF) : Nat → Rho → Store → Rf
  | 0, _, _ => none
  | n + 1, ρ, S => toS ρ (c ρ S) fun b S1 => if b = true then
      match body ρ S1 with
      | some (.nx ρ2, S2) => whileN c body n ρ2 S2
      | some (.ct ρ2, S2) => whileN c body n ρ2 S2
      | some (.bk ρ2, S2) => some (.nx ρ2, S2)
      | x => x
    else some (.nx ρ, S1)
theorem whileN_succ {c : EF Bool} {body : SF} : ∀ {n : Nat} {ρ : Rho} {S : Store} {r : Fl × Store}, whileN c body n ρ S = some r → whileN c body (n + 1) ρ S = some r
  | 0, _, _, _, h => by simp [whileN] at h
  | n + 1, ρ, S, r, h => by
    unfold whileN at h ⊢
    cases e : c ρ S with
    | none => rw [e] at h; simp at h
    | some p =>
      obtain ⟨x, S1⟩ := p
      rw [e] at h
      cases x with
      | error er => exact h
      | ok b =>
        simp only [toS_ok] at h ⊢
        cases b with
        | false => exact h
        | true =>
          rw [if_pos rfl] at h ⊢
          cases e2 : body ρ S1 with
          | none => rw [e2] at h; exact h
          | some q =>
            obtain ⟨fl, S2⟩ := q
            rw [e2] at h
            cases fl with
            | nx ρ2 => exact whileN_succ h
            | ct ρ2 => exact whileN_succ h
            | bk ρ2 => exact h
            | ret d => exact h
            | exn e ρ2 => exact h
theorem whileN_le {c : EF Bool} {body : SF} {n m : Nat} {ρ : Rho} {S : Store} {r : Fl × Store} (h : whileN c body n ρ S = some r) (hm : n ≤ m) : whileN c body m ρ S = some r := by
  induction hm with
  | refl => exact h
  | step _ ih => exact whileN_succ ih
open Classical in
noncomputable def sWhile (c : EF Bool) (body : SF) : SF := fun ρ S => if h : ∃ n, (whileN c body n ρ S).isSome = true then whileN c body (Classical.choose h) ρ S else none
theorem sWhile_of {c : EF Bool} {body : SF} {n : Nat} {ρ : Rho} {S : Store} {r : Fl × Store} (h : whileN c body n ρ S = some r) : sWhile c body ρ S = some r := by
  have hx : ∃ n, (whileN c body n ρ S).isSome = true := ⟨n, by rw [h]; rfl⟩
  unfold sWhile
  rw [dif_pos hx]
  have hc := Classical.choose_spec hx
  cases e : whileN c body (Classical.choose hx) ρ S with
  | none => rw [e] at hc; simp at hc
  | some q =>
    rcases Nat.le_total n (Classical.choose hx) with z | z
    · rw [← whileN_le h z, e]
    · rw [← h, whileN_le e z]
theorem ss_while {e : Expr} {body : List Stmt} {c : EF Bool} {f : SF} {pos : Pos} (hp : PassesOwn (model X.prog X.w) X.A X.env X.xe) (hc : ST X C W e c) (hb : SB X C W body f) : SS X C W (.While e body [] pos) (sWhile c f) := by
  refine ⟨PS.imp (ps_while hp hc.pt hb.pss) ?_⟩
  rintro Dn σ H ⟨mu, S, ρ, R, re, h⟩
  refine ⟨fun m σ H => ∃ mu S ρ, Rel X.K C mu S H ∧ RE X.K mu S.length H σ ρ ∧ PostS X.K C W mu S.length H (whileN c f m ρ S) Dn, ?_, ?_⟩
  · unfold sWhile at h
    split at h
    · exact ⟨_, mu, S, ρ, R, re, h⟩
    · exact h.elim
  · rintro m σ1 H1 ⟨mu1, S1, ρ1, R1, re1, h1⟩
    cases m with
    | zero => exact h1.elim
    | succ m =>
      refine ⟨mu1, S1, ρ1, R1, re1, (PostS.bind (RA := RB0) R1 re1 h1).mono ?_⟩
      rintro b H2 ⟨mu2, S2, b', R2, x2, re2, r2, h2⟩
      obtain rfl : b = b' := r2
      cases b with
      | false => exact h2 mu2 H2 σ1 R2 .refl re2
      | true =>
        rw [if_pos rfl] at h2 ⊢
        refine ⟨fun σ' H' => ∃ mu S ρ, Rel X.K C mu S H' ∧ RE X.K mu S.length H' σ' ρ ∧ PostS X.K C W mu S.length H' (whileN c f m ρ S) Dn, fun σ' H' q => ⟨m, Nat.lt_succ_self _, q⟩, mu2, S2, ρ1, R2, re2, ?_⟩
        cases e2 : f ρ1 S2 with
        | none => rw [e2] at h2; exact h2.elim
        | some q2 =>
          obtain ⟨fl, S5⟩ := q2
          rw [e2] at h2
          cases fl with
          | nx ρ5 => exact fun mu' H' σ' R' x' re' => ⟨mu', S5, ρ5, R', re', PostS.trans x' h2⟩
          | ct ρ5 => exact fun mu' H' σ' R' x' re' => ⟨mu', S5, ρ5, R', re', PostS.trans x' h2⟩
          | bk ρ5 => exact h2
          | ret d => exact h2
          | exn e ρ5 => exact h2
end

/-! ### list comprehensions -/
/-- nothing is raised -/
def noX {α : Type} (r : Rs α) : Rs α := match r with
  | some (.error _, _) => none
  | x => x
@[simp] theorem noX_ok {α : Type} (a : α) (S : Store) : noX (some (.ok a, S) : Rs α) = some (.ok a, S) := rfl
theorem noX_post {K : PySem.W.Frag} {C : Cls0} {XW XW' : Value → Option Addr → Hp → Prop} {mu : Nat → Addr} {n : Nat} {H : Hp} {α β γ δ : Type} {RA : Hp → (Nat → Addr) → Nat → Hp → β → α → Prop} {RB : Hp → (Nat → Addr) → Nat → Hp → δ → γ → Prop} [Anti RB]
    {r : Rs α} {k : α → Store → Rs γ} {Q : δ → Hp → Prop} (h : PostG K C XW mu n H RB (bindR (noX r) k) Q) :
    PostG K C XW' mu n H RA r fun v H1 => ∃ mu1 S1 a, Rel K C mu1 S1 H1 ∧ Ext mu n H mu1 S1.length H1 ∧ RA H mu1 S1.length H1 v a ∧ PostG K C XW mu1 S1.length H1 RB (k a S1) Q := by
  cases r with
  | none => exact h.elim
  | some p =>
    obtain ⟨x, S'⟩ := p
    cases x with
    | error e => exact h.elim
    | ok a => exact fun mu' H' v R y rd => ⟨mu', S', a, R, y, rd, PostG.trans y h⟩
def wipeR (ρ : Rho) : List Nat → Rho
  | [] => ρ
  | v :: vs => (wipeR ρ vs).set v none
theorem RE.wipe {K : PySem.W.Frag} {mu : Nat → Addr} {n : Nat} {H : Hp} {σ : L2.St} {ρ : Rho} (r : RE K mu n H σ ρ) : ∀ vs : List Nat, RE K mu n H (wipe σ vs) (wipeR ρ vs)
  | [] => r
  | v :: vs => (RE.wipe r vs).unset v
noncomputable def compGo (g : GF) (t : EF Bool) (f : EF D) (ρ : Rho) (p : List D × List (Nat × List D)) : List D → List D → Store → Rs (List D)
  | [], acc, S => if chkOk p S = true then okR acc S else none
  | d :: r, acc, S => if chkOk p S = true then
      match g d ρ S with
      | none => none
      | some (ρ2, S2) => bindR (noX (t ρ2 S2)) fun b S3 => if b = true then bindR (noX (f ρ2 S3)) fun y S4 => if acc.length < 16777216 then compGo g t f ρ p r (acc ++ [y]) S4 else none
          else compGo g t f ρ p r acc S3
    else none
noncomputable def fComp (it : IF) (vs : List Nat) (g : GF) (t : EF Bool) (f : EF D) : EF (List D) := fun ρ S => bindR (it ρ S) fun p S1 => compGo g t f (wipeR ρ vs) p p.1 [] S1
abbrev W0 : Wx := fun _ _ _ _ => False
/-- the tests of a clause -/
structure STs (X : Cx) (C : Cls0) (ifs : List Expr) (f : EF Bool) : Prop where
  pts : PTs X ifs (TT' X.K C W0 f)
def tTrue : EF Bool := fun _ S => okR true S
theorem sts_nil {X : Cx} {C : Cls0} : STs X C [] tTrue := ⟨⟨fun pins s σ H Q I ⟨mu, S, ρ, R, re, h⟩ => (pts_nil (X := X)).run pins s σ H Q I (h.ok R rfl)⟩⟩
theorem sts_one {X : Cx} {C : Cls0} {c : Expr} {f : EF Bool} (h : ST X C W0 c f) : STs X C [c] f := ⟨pts_one h.pt⟩

section
variable {K : PySem.W.Frag} {C : Cls0} {mu : Nat → Addr} {n : Nat} {S : Store} {H H1 : Hp} {p : Addr} {vs ws : List V}
/-- a list that the store does not know is changed -/
theorem Rel.off (R : Rel K C mu S H) (hp : H p = some (.lst vs)) (hf : ∀ l, l < S.length → mu l ≠ p) : Rel K C mu S (upd H p (.lst ws)) := by
  refine ⟨R.inj, fun l ob e => ?_⟩
  have hl : l < S.length := (List.getElem?_eq_some_iff.mp e).1
  refine (R.obj l ob e).mv (fun _ _ => rfl) (Nat.le_refl _) (fun a vs' z => ?_) (fun a vs' z => ?_) (by rw [upd_ne (hf l hl)])
  · rcases z with (z | ⟨o, z⟩) | z
    · exact .inl (.inl (by rw [upd_ne (ne_of z hp (fun q => by cases q))]; exact z))
    · exact .inl (.inr ⟨o, by rw [upd_ne (ne_of z hp (fun q => by cases q))]; exact z⟩)
    · exact .inr z
  · rcases z with ⟨o, z⟩ | z
    · exact .inl ⟨o, by rw [upd_ne (ne_of z hp (fun q => by cases q))]; exact z⟩
    · exact .inr z
theorem RDs.off {ds : List D} {us : List V} (hp : H p = some (.lst vs)) (r : RDs K mu n H us ds) : RDs K mu n (upd H p (.lst ws)) us ds := by
  refine r.mv (fun a vs' z => ?_) (fun a vs' z => ?_) (fun _ _ => rfl) (Nat.le_refl _)
  · rcases z with (z | ⟨o, z⟩) | z
    · exact .inl (.inl (by rw [upd_ne (ne_of z hp (fun q => by cases q))]; exact z))
    · exact .inl (.inr ⟨o, by rw [upd_ne (ne_of z hp (fun q => by cases q))]; exact z⟩)
    · exact .inr z
  · rcases z with ⟨o, z⟩ | z
    · exact .inl ⟨o, by rw [upd_ne (ne_of z hp (fun q => by cases q))]; exact z⟩
    · exact .inr z
/-- seen from a start where it was not -/
theorem Ext.off {mu0 : Nat → Addr} {n0 : Nat} {H0 : Hp} (x : Ext mu0 n0 H0 mu n H) (h0 : H0 p = none) : Ext mu0 n0 H0 mu n (upd H p (.lst ws)) :=
  ⟨x.le, x.same, fun a o e h => by rw [upd_ne (ne_of_none e h0)]; exact x.frame a o e h, fun a o e => by rw [upd_ne (ne_of_none e h0)]; exact x.keep a o e, x.fresh⟩
end
theorem Tch.wipe {ts vs : List Nat} {σ σ' : L2.St} (h : Tch ts σ σ') (hs : ∀ i ∈ ts, i ∈ vs) : wipe σ' vs = wipe σ vs := by
  have look : ∀ (us : List Nat) (τ : L2.St) (i : Nat), (L2.wipe τ us)[i]? = if i ∈ us then (if i < τ.length then some none else none) else τ[i]? := by
    intro us
    induction us with
    | nil => intro τ i; simp [L2.wipe]
    | cons u us ih =>
      intro τ i
      unfold L2.wipe
      by_cases hi : u = i
      · subst hi
        rw [List.getElem?_set]
        simp [wipe_length]
      · rw [List.getElem?_set_ne hi, ih]
        have : i ≠ u := fun e => hi e.symm
        simp [this]
  apply List.ext_getElem?
  intro i
  rw [look, look]
  by_cases hi : i ∈ vs
  · simp [hi, h.1]
  · simp only [hi, if_false]
    exact h.2 i fun z => hi (hs i z)

section
variable {X : Cx} {C : Cls0} {W : Wx}
/-- a comprehension's turn ends somewhere -/
theorem compGo_step {g : GF} {t : EF Bool} {f : EF D} {ρ : Rho} {p : List D × List (Nat × List D)} {d : D} {r acc : List D} {S S' : Store} {x : Except Ex (List D)} (h : compGo g t f ρ p (d :: r) acc S = some (x, S')) :
    chkOk p S = true ∧ ∃ ρ2 S2, g d ρ S = some (ρ2, S2) ∧ ∃ b S3, t ρ2 S2 = some (.ok b, S3) ∧
      ((b = false ∧ compGo g t f ρ p r acc S3 = some (x, S')) ∨ (b = true ∧ ∃ y S4, f ρ2 S3 = some (.ok y, S4) ∧ acc.length < 16777216 ∧ compGo g t f ρ p r (acc ++ [y]) S4 = some (x, S'))) := by
  simp only [compGo] at h
  by_cases hk : chkOk p S = true
  · rw [if_pos hk] at h
    refine ⟨hk, ?_⟩
    cases e1 : g d ρ S with
    | none => rw [e1] at h; cases h
    | some q =>
      obtain ⟨ρ2, S2⟩ := q
      rw [e1] at h
      simp only at h
      refine ⟨ρ2, S2, rfl, ?_⟩
      cases e2 : t ρ2 S2 with
      | none => rw [e2] at h; cases h
      | some q2 =>
        obtain ⟨z, S3⟩ := q2
        rw [e2] at h
        cases z with
        | error e => cases h
        | ok b =>
          simp only [noX_ok, bindR_ok] at h
          refine ⟨b, S3, rfl, ?_⟩
          cases b with
          | false => exact .inl ⟨rfl, h⟩
          | true =>
            rw [if_pos rfl] at h
            right
            refine ⟨rfl, ?_⟩
            cases e3 : f ρ2 S3 with
            | none => rw [e3] at h; cases h
            | some q3 =>
              obtain ⟨z, S4⟩ := q3
              rw [e3] at h
              cases z with
              | error e => cases h
              | ok y =>
                simp only [noX_ok, bindR_ok] at h
                by_cases hz : acc.length < 16777216
                · rw [if_pos hz] at h
                  exact ⟨y, S4, rfl, hz, h⟩
                · rw [if_neg hz] at h; cases h
  · rw [if_neg hk] at h; cases h
theorem compGo_end {g : GF} {t : EF Bool} {f : EF D} {ρ : Rho} {p : List D × List (Nat × List D)} {acc : List D} {S S' : Store} {x : Except Ex (List D)} (h : compGo g t f ρ p [] acc S = some (x, S')) : chkOk p S = true ∧ x = .ok acc ∧ S' = S := by
  simp only [compGo] at h
  by_cases hk : chkOk p S = true
  · rw [if_pos hk] at h
    cases h
    exact ⟨hk, rfl, rfl⟩
  · rw [if_neg hk] at h; cases h
theorem away {K : PySem.W.Frag} {mu mu' : Nat → Addr} {n n' : Nat} {H H' : Hp} {D : Addr} {us : List V} (x : Ext mu n H mu' n' H') (hD : H D = some (.lst us)) (hf : ∀ l, l < n → mu l ≠ D) : H' D = some (.lst us) ∧ ∀ l, l < n' → mu' l ≠ D := by
  refine ⟨x.frame _ _ hD hf, fun l hl e => ?_⟩
  by_cases hl2 : l < n
  · exact hf l hl2 ((x.same l hl2).symm.trans e)
  · have z := x.fresh l (Nat.le_of_not_lt hl2) hl
    rw [e, hD] at z; cases z
theorem wipe_idem (σ : L2.St) (vs : List Nat) : wipe (wipe σ vs) vs = wipe σ vs :=
  Tch.wipe (ts := vs) ⟨wipe_length _ _, fun j hj => by
    have look : ∀ (us : List Nat), j ∉ us → (L2.wipe σ us)[j]? = σ[j]? := by
      intro us
      induction us with
      | nil => intro _; rfl
      | cons u us ih =>
        intro hj'
        unfold L2.wipe
        rw [List.getElem?_set_ne (fun e => hj' (by simp [e]))]
        exact ih fun z => hj' (List.mem_cons_of_mem _ z)
    exact look vs hj⟩ fun _ z => z
theorem comp_read {it : IF} {g : GF} {ts : List Nat} {t : EF Bool} {f : EF D} {vs : List Nat} (hv : ∀ i ∈ ts, i ∈ vs) {σ : L2.St} {H : Hp} {Q : VK} (h : TL' X.K C W (fComp it vs g t f) σ H Q) :
    tLc (TI' X.K C W it) (TG' X.K C g ts) (TT' X.K C W0 t) (TE' X.K C W0 f) vs σ H Q := by
  obtain ⟨mu, S, ρ, R, re, h⟩ := h
  refine ⟨mu, S, ρ, R, re, (PostG.bind (RA := RI X.K C) h).mono ?_⟩
  rintro J H1 ⟨mu1, S1, p, R1, x1, ig, h1⟩
  intro D hD
  have re1 := re.mono R x1
  cases er : compGo g t f (wipeR ρ vs) p p.1 [] S1 with
  | none => rw [er] at h1; exact h1.elim
  | some q =>
  obtain ⟨res, Sf⟩ := q
  rw [er] at h1
  refine ⟨fun i m H => i ≤ p.1.length ∧ m = p.1.length - i ∧ ∃ mu S acc us, Rel X.K C mu S H ∧ Ext mu1 S1.length H1 mu S.length H ∧ H D = some (.lst us) ∧ RDs X.K mu S.length H us acc ∧ (∀ l, l < S.length → mu l ≠ D) ∧
      compGo g t f (wipeR ρ vs) p (p.1.drop i) acc S = some (res, Sf),
    ⟨p.1.length, Nat.zero_le _, by simp, mu1, S1, [], [], R1.new hD, .new hD, upd_same, .nil, fun l hl e => ?_, by simpa using er⟩, ?_⟩
  · obtain ⟨u, hu, _⟩ := R1.at hl
    rw [e, hD] at hu; cases hu
  rintro i m H2 ⟨hi', rfl, mu2, S2, acc, us, R2, x2, hD2, rd2, hf2, h2⟩
  by_cases hlt : i < p.1.length
  · right
    rw [List.drop_eq_getElem_cons hlt] at h2
    obtain ⟨hk, ρ4, S4, e1, b0, S5, e2, h3⟩ := compGo_step h2
    have ck := chkOk_of hk
    refine ⟨ig.go mu2 S2 H2 i R2 x2 ck hlt, fun H' => i + 1 ≤ p.1.length ∧ ∃ mu S acc us, Rel X.K C mu S H' ∧ Ext mu1 S1.length H1 mu S.length H' ∧ H' D = some (.lst us) ∧ RDs X.K mu S.length H' us acc ∧ (∀ l, l < S.length → mu l ≠ D) ∧
        compGo g t f (wipeR ρ vs) p (p.1.drop (i + 1)) acc S = some (res, Sf),
      fun H' ⟨q1, q2⟩ => ⟨p.1.length - (i + 1), by omega, q1, rfl, q2⟩, fun x H3 y => ?_⟩
    obtain ⟨d, e, R3, x3, r3⟩ := ig.yld mu2 S2 H2 i x H3 R2 x2 ck hlt y
    rw [List.getElem?_eq_getElem hlt] at e
    cases e
    have re3 : RE X.K mu2 S2.length H3 (wipe σ vs) (wipeR ρ vs) := (re1.mono R1 (x2.trans x3)).wipe vs
    refine ⟨mu2, S2, wipeR ρ vs, _, R3, re3, r3, ?_⟩
    rw [e1]
    intro mu4 H4 σ4 R4 x4 re4 tc
    refine ⟨(tc.wipe hv).trans (wipe_idem σ vs), mu4, S4, ρ4, R4, re4, ?_⟩
    rw [e2]
    rintro mu5 H5 b R5 x5 r5
    obtain rfl : b = b0 := r5
    have x25 := (x3.trans x4).trans x5
    obtain ⟨hD5, hf5⟩ := away (K := X.K) x25 hD2 hf2
    rcases h3 with ⟨rfl, h3⟩ | ⟨rfl, y0, S6, e3, hz, h3⟩
    · exact ⟨hlt, mu5, S5, acc, us, R5, x2.trans x25, hD5, rd2.mono R2 x25, hf5, h3⟩
    · rw [if_pos rfl]
      refine ⟨mu5, S5, ρ4, R5, re4.mono R4 x5, ?_⟩
      rw [e3]
      rintro mu6 H6 v R6 x6 r6
      have x26 := x25.trans x6
      obtain ⟨hD6, hf6⟩ := away (K := X.K) x26 hD2 hf2
      have rd6 := rd2.mono R2 x26
      refine ⟨us, hD6, by rw [sizeLine_16, RDs.length rd6]; exact hz, hlt, mu6, S6, acc ++ [y0], us ++ [v], R6.off hD6 hf6, (x2.trans x26).off hD, upd_same, ?_, hf6, h3⟩
      exact (rd6.append (.cons r6 .nil)).off hD6
  · left
    have e : i = p.1.length := by omega
    subst e
    rw [List.drop_length] at h2
    obtain ⟨hk, rfl, rfl⟩ := compGo_end h2
    exact ⟨ig.stop mu2 _ H2 R2 x2 (chkOk_of hk), h1 mu2 H2 (.ref D) R2 x2 ⟨D, us, rfl, hD2, rd2, hf2, hD⟩⟩
/-- [elt for tg in iter if ..] -/
theorem sl_comp {elt tg iter : Expr} {ifs : List Expr} {scope : Scope} {own : List (Str × Nat)} {pos : Pos} {it : IF} {g : GF} {ts : List Nat} {t : EF Bool} {f : EF D} (hc : X.calm = true) (hN : X.N.Nodup) (hi : SI X C W tg iter it) (ok : BlkOk X.N X.env.scope scope own)
    (hg : ∀ (s : Shared) (H : Hp) (C1 : Addr) (cl : List (Str × Addr)) (fp : List Addr), SG (X.blk s H scope (compEnvC scope cl C1 X.env) fp) C tg g ts) (ht : ∀ (s : Shared) (H : Hp) (C1 : Addr) (cl : List (Str × Addr)) (fp : List Addr), STs (X.blk s H scope (compEnvC scope cl C1 X.env) fp) C ifs t)
    (he : ∀ (s : Shared) (H : Hp) (C1 : Addr) (cl : List (Str × Addr)) (fp : List Addr), SE (X.blk s H scope (compEnvC scope cl C1 X.env) fp) C W0 elt f) (hs : ∀ x, foldedSetIterable iter X.env x = pure x := by intro _; rfl) (hv : ∀ i ∈ ts, i ∈ own.map (·.2) := by decide) :
    SL X C W (.ListComp elt [⟨tg, iter, ifs, 0⟩] scope pos) (fComp it (own.map (·.2)) g t f) :=
  ⟨PE.imp (pe_lc (te := TE' X.K C W0 f) (tt := TT' X.K C W0 t) (g := TG' X.K C g ts) hc hN hi.pi ok (fun s H C1 cl fp => (hg s H C1 cl fp).pg) (fun s H C1 cl fp => (ht s H C1 cl fp).pts) (fun s H C1 cl fp => (he s H C1 cl fp).pe) hs) fun σ H Q h => comp_read hv h⟩
/-- name = [..] on one line -/
theorem ss_setc (i : Nat) {y : Str} {py : Pos} {elt tg iter : Expr} {ifs : List Expr} {scope : Scope} {own : List (Str × Nat)} {pos spos : Pos} {it : IF} {g : GF} {ts : List Nat} {t : EF Bool} {f : EF D} (hc : X.calm = true) (hN : X.N.Nodup) (hi : SI X C W tg iter it) (ok : BlkOk X.N X.env.scope scope own)
    (hg : ∀ (s : Shared) (H : Hp) (C1 : Addr) (cl : List (Str × Addr)) (fp : List Addr), SG (X.blk s H scope (compEnvC scope cl C1 X.env) fp) C tg g ts) (ht : ∀ (s : Shared) (H : Hp) (C1 : Addr) (cl : List (Str × Addr)) (fp : List Addr), STs (X.blk s H scope (compEnvC scope cl C1 X.env) fp) C ifs t)
    (he : ∀ (s : Shared) (H : Hp) (C1 : Addr) (cl : List (Str × Addr)) (fp : List Addr), SE (X.blk s H scope (compEnvC scope cl C1 X.env) fp) C W0 elt f)
    (hsw : swapsWith (.ListComp elt [⟨tg, iter, ifs, 0⟩] scope pos) (some (.Name y py)) spos.line X.env = pure true) (hy : X.N[i]? = some y := by rfl) (hyl : X.env.scope.names.lookup y = some .local := by rfl) (hs : ∀ x, foldedSetIterable iter X.env x = pure x := by intro _; rfl) (hv : ∀ i ∈ ts, i ∈ own.map (·.2) := by decide) :
    SS X C W (.Assign [.Name y py] (.ListComp elt [⟨tg, iter, ifs, 0⟩] scope pos) spos) (sAsg (fAl (fComp it (own.map (·.2)) g t f)) (gN i)) := by
  refine ⟨PS.imp (ps_setLc (te := TE' X.K C W0 f) (tt := TT' X.K C W0 t) (g := TG' X.K C g ts) hc hN hy hyl hsw hi.pi ok (fun s H C1 cl fp => (hg s H C1 cl fp).pg) (fun s H C1 cl fp => (ht s H C1 cl fp).pts) (fun s H C1 cl fp => (he s H C1 cl fp).pe) hs) ?_⟩
  rintro Dn σ H ⟨mu, S, ρ, R, re, h⟩
  refine comp_read hv ⟨mu, S, ρ, R, re, ?_⟩
  have h' := PostS.bind (RA := QD X.K) R re h
  unfold fAl at h'
  cases e1 : fComp it (own.map (·.2)) g t f ρ S with
  | none => rw [e1] at h'; exact h'.elim
  | some p =>
    obtain ⟨r, S'⟩ := p
    rw [e1] at h'
    cases r with
    | error er => exact h'
    | ok ds =>
      rintro mu' H' v R' x ⟨p, vs, rfl, hp, rd, hf, h0⟩
      have hR := R'.take hf (o := .lst ds) ⟨vs, hp, rd⟩
      have z : RD X.K (muUp mu' S'.length p) (S' ++ [SO.lst ds]).length H' (.ref (muUp mu' S'.length p S'.length)) (.ref S'.length) := .ref (by simp)
      rw [muUp_same] at z
      obtain ⟨mu1, S1, d1, R1, x1, re1, r1, h1⟩ := h' (muUp mu' S'.length p) H' (.ref p) hR (by simpa using x.take h0) z
      exact h1 mu1 H' _ R1 .refl (re1.set r1 i)
end
end Sh

set_option Elab.async false
set_option linter.all false
set_option maxRecDepth 100000
set_option maxHeartbeats 4000000
set_option autoImplicit false
namespace Sh
open PySem PySem.Spec PyProof.Rows L2

/-! ### what a value, a store refers to -/
mutual
def D.bel (n : Nat) : D → Prop
  | .ref l => l < n
  | .tup xs => D.bels n xs
  | .fl xs => D.bels n xs
  | _ => True
def D.bels (n : Nat) : List D → Prop
  | [] => True
  | x :: xs => D.bel n x ∧ D.bels n xs
end
def SO.bel (n : Nat) : SO → Prop
  | .lst xs => D.bels n xs
  | .ins _ fs => D.bels n (fs.map (·.2))
def Closed (S : Store) : Prop := ∀ o ∈ S, o.bel S.length
section
variable {K : PySem.W.Frag} {C : Cls0} {mu : Nat → Addr} {n n' : Nat} {S J : Store} {H : Hp}
mutual
theorem RD.bel : ∀ {d : D} {v : V}, RD K mu n H v d → d.bel n
  | .ref l, _, h => by cases h; assumption
  | .tup xs, _, h => by cases h with | tup _ hd => exact RDs.bels hd
  | .fl xs, _, h => by cases h with | fl _ hd => exact RDs.bels hd
  | .non, _, _ => trivial
  | .bl _, _, _ => trivial
  | .int _, _, _ => trivial
  | .str _, _, _ => trivial
theorem RDs.bels : ∀ {ds : List D} {vs : List V}, RDs K mu n H vs ds → D.bels n ds
  | [], _, _ => trivial
  | _ :: _, _, h => by cases h with | cons h1 h2 => exact ⟨RD.bel h1, RDs.bels h2⟩
end
theorem RFs.bels : ∀ {ds : List (Str × D)} {vs : List (Str × V)}, RFs K mu n H vs ds → D.bels n (ds.map (·.2))
  | [], _, _ => trivial
  | _ :: _, _, h => by cases h with | cons h1 h2 => exact ⟨h1.bel, RFs.bels h2⟩
mutual
theorem D.bel_le (hn : n ≤ n') : ∀ {d : D}, d.bel n → d.bel n'
  | .ref l, h => Nat.lt_of_lt_of_le h hn
  | .tup xs, h => D.bels_le hn (show D.bels n xs from h)
  | .fl xs, h => D.bels_le hn (show D.bels n xs from h)
  | .non, _ => trivial
  | .bl _, _ => trivial
  | .int _, _ => trivial
  | .str _, _ => trivial
theorem D.bels_le (hn : n ≤ n') : ∀ {ds : List D}, D.bels n ds → D.bels n' ds
  | [], _ => trivial
  | _ :: _, h => ⟨D.bel_le hn h.1, D.bels_le hn h.2⟩
end
theorem Rel.closed (R : Rel K C mu S H) : Closed S := fun o ho => by
  obtain ⟨l, hl⟩ := List.mem_iff_getElem?.mp ho
  have r := R.obj l o hl
  cases o with
  | lst ds => obtain ⟨vs, _, rd⟩ := r; exact rd.bels
  | ins c fs => obtain ⟨A, dx, vs, _, _, rf⟩ := r; exact rf.bels
mutual
theorem RD.fg : ∀ {d : D} {v : V}, RD K mu n' H v d → d.bel n → RD K mu n H v d
  | .ref l, _, h, b => by cases h; exact .ref b
  | .tup xs, _, h, b => by cases h with | tup hs hd => exact .tup hs (RDs.fg hd b)
  | .fl xs, _, h, b => by cases h with | fl hs hd => exact .fl hs (RDs.fg hd b)
  | .non, _, h, _ => by cases h; exact .non
  | .bl _, _, h, _ => by cases h; exact .bl _
  | .int _, _, h, _ => by cases h; exact .int _
  | .str _, _, h, _ => by cases h; exact .str _
theorem RDs.fg : ∀ {ds : List D} {vs : List V}, RDs K mu n' H vs ds → D.bels n ds → RDs K mu n H vs ds
  | [], _, h, _ => by cases h; exact .nil
  | _ :: _, _, h, b => by cases h with | cons h1 h2 => exact .cons (RD.fg h1 b.1) (RDs.fg h2 b.2)
end
theorem RFs.fg : ∀ {ds : List (Str × D)} {vs : List (Str × V)}, RFs K mu n' H vs ds → D.bels n (ds.map (·.2)) → RFs K mu n H vs ds
  | [], _, h, _ => by cases h; exact .nil
  | _ :: _, _, h, b => by cases h with | cons h1 h2 => exact .cons (h1.fg b.1) (RFs.fg h2 b.2)
/-- the store lets go of what nothing refers to -/
theorem Rel.forget (R : Rel K C mu (S ++ J) H) (c : Closed S) : Rel K C mu S H := by
  refine ⟨fun i j hi hj e => R.inj i j (by simp; omega) (by simp; omega) e, fun l o e => ?_⟩
  have hl : l < S.length := (List.getElem?_eq_some_iff.mp e).1
  have r := R.obj l o (by rw [List.getElem?_append_left hl]; exact e)
  have b := c o (List.mem_of_getElem? e)
  cases o with
  | lst ds => obtain ⟨vs, h1, rd⟩ := r; exact ⟨vs, h1, rd.fg b⟩
  | ins k fs => obtain ⟨A, dx, vs, h0, h1, rf⟩ := r; exact ⟨A, dx, vs, h0, h1, rf.fg b⟩
theorem Ext.forget {H' : Hp} {mu' : Nat → Addr} {m : Nat} (x : Ext mu n H mu' n' H') (h1 : n ≤ m) (h2 : m ≤ n') : Ext mu n H mu' m H' :=
  ⟨h1, x.same, x.frame, x.keep, fun l a b => x.fresh l a (Nat.lt_of_lt_of_le b h2)⟩
end

/-! ### defs -/
/-- a def: what it hands back of these values at this store -/
abbrev M := List D → Store → Rs D
def spM (K : PySem.W.Frag) (C : Cls0) (n : Nat) (m : M) : Sp := fun vs H Q E => ∃ mu S ds, Rel K C mu S H ∧ RDs K mu S.length H vs ds ∧ ds.length = n ∧ PostG K C (fun c d H' => E c d H') mu S.length H (QD K) (m ds S) Q
theorem spM_len {K : PySem.W.Frag} {C : Cls0} {n : Nat} {m : M} {vs : List V} {H : Hp} {Q : VK} {E : XK} (h : spM K C n m vs H Q E) : vs.length = n := by
  obtain ⟨mu, S, ds, R, rd, hl, _⟩ := h
  rw [RDs.length rd, hl]
/-- room for calls, and nothing is being shown -/
structure RoomG (k : Nat) (A : Around) : Prop where
  room : Room k A
  gd : A.guards = some []
theorem RoomG.mono {j k : Nat} {A : Around} (r : RoomG k A) (h : j ≤ k) : RoomG j A := ⟨r.room.mono h, r.gd⟩
theorem RoomG.deeper {k : Nat} {A : Around} (r : RoomG (k + 1) A) (env : PySem.Env) : RoomG k (A.deeper env) := ⟨r.room.deeper env, r.gd⟩
/-- a def's promise where nothing is being shown -/
structure FnG (P : Program) (w : World) (K : PySem.W.Frag) (mg : Str → Option Value) (base : Heap) (k : Nat) (f : Addr) (fd : FuncData) (ps : List Str) (sp : Sp) : Prop where
  len : ∀ vs H Q E, sp vs H Q E → vs.length = ps.length
  run : ∀ (A : Around) (outer : List PySem.Env) (s : Shared) (H : Hp) (args : Args) (us : List Value) (vs : List V) (Q : VK) (E : XK), RoomG k A → Env0 P w K mg base A outer s H → BindsTo s fd args (ps.zip us) →
    Vals vs us → sp vs H Q E → codeAny (model P w) A (.call (.ref f) args) (CR (L2.CX P w) outer P w H s Q E) s
theorem FnG.mono {P : Program} {w : World} {K : PySem.W.Frag} {mg : Str → Option Value} {base : Heap} {j k : Nat} {f : Addr} {fd : FuncData} {ps : List Str} {sp : Sp} (F : FnG P w K mg base j f fd ps sp) (h : j ≤ k) : FnG P w K mg base k f fd ps sp :=
  ⟨F.len, fun A outer s H args us vs Q E hr => F.run A outer s H args us vs Q E (hr.mono h)⟩
/-- a def by its body -/
theorem fng_of {P : Program} {w : World} {K : PySem.W.Frag} {mg : Str → Option Value} {base : Heap} {x qual : Str} {st : Stmt} {f : Addr} {fd : FuncData} {N ps : List Str} {k : Nat} {sp : Sp} (F : Fun K x qual st f fd) (Sc : FnScope N ps (defScope st))
    (len : ∀ vs H Q E, sp vs H Q E → vs.length = ps.length)
    (hbody : ∀ (cdv : Value) (A : Around) (outer : List PySem.Env) (s : Shared) (H : Hp) (vs : List V) (Q : VK) (E : XK), RoomG k (A.deeper (envOfC qual (defScope st) s.heap.objs.size f cdv)) → sp vs H Q E →
      ∃ t, PSs (cxOf (L2.CX P w) P w K mg base N qual (defScope st) f cdv A outer s H E) (defBody st) t ∧ t { nx := fun _ H' => Q .non H', rt := Q } (L2.start N vs) H) : FnG P w K mg base (k + 1) f fd ps sp := by
  obtain ⟨oc, od, kV, doc, pm, an, cdv, ct, osl, rfl, lk, hcd⟩ := F.ex
  constructor
  · exact len
  intro A outer s H args us vs Q E hr e0 hb r hsp
  have stays : ∀ b o, base.get? b = some o → s.heap.get? b = some o := fun b o e => (e0.bs b o e).1
  have inK : K.In s.heap := e0.mod.kin.keeps stays
  refine codeAny_call_function hr.room.depth (inK _ _ lk) rfl Sc.co Sc.gen rfl (PySem.W.codeRec_of inK hcd) (hb _ _ _ _ ?_)
  have kinds : ∀ y ∈ ps.zip us, (defScope st).names.lookup y.1 = some .local ∨ ((defScope st).names.lookup y.1 = some .cell ∧ ((cellsFrom (s.heap.objs.size + 1) (defScope st).names []).lookup y.1).isSome = true) := by
    rintro ⟨a, v⟩ hy
    have q := Sc.par a (List.of_mem_zip hy).1
    exact q.imp id fun q => ⟨q, PySem.W.cellsFrom_some _ _ _ (.inl q)⟩
  refine wpAny_newFunctionEnv_cells Sc.kind kinds fun env he s1 x => ?_
  cases he
  refine ⟨(e0.mod.nolimit.keeps stays).keeps x.toInCall.keep, codeAny_func ?_⟩
  obtain ⟨t, ht, hq⟩ := hbody cdv A outer s H vs Q E (hr.deeper _) hsp
  have I := inv_start (CX := L2.CX P w) (E := E) Sc hr.room.hd e0 (len _ _ _ _ hsp) r x
  refine wpAny_mono (ht.run [] s1 _ H _ I hq) ?_ fun _ _ z => z
  intro fl s' hs
  cases fl with
  | ret u => obtain ⟨v, σ', H', J, rv, q⟩ := hs; exact ⟨v, H', J.os, J.bare, J.base, J.hok, rv, q⟩
  | next => obtain ⟨σ', H', J, q⟩ := hs; exact ⟨V.non, H', J.os, J.bare, J.base, J.hok, rfl, q⟩
  | brk => obtain ⟨_, _, _, q⟩ := hs; exact q.elim
  | cont => obtain ⟨_, _, _, q⟩ := hs; exact q.elim
structure Fn (P : Program) (w : World) (K : PySem.W.Frag) (mg : Str → Option Value) (base : Heap) (C : Cls0) (x : Str) (k n : Nat) (m : M) : Prop where
  ex : ∃ (f : Addr) (fd : FuncData) (ps : List Str), FnG P w K mg base k f fd ps (spM K C n m) ∧ mg x = some (.ref f) ∧ PySem.W.keepIn K (.ref f) = true ∧ Binds K fd ps []
theorem Fn.mono {P : Program} {w : World} {K : PySem.W.Frag} {mg : Str → Option Value} {base : Heap} {C : Cls0} {x : Str} {k k' n : Nat} {m : M} (F : Fn P w K mg base C x k n m) (h : k ≤ k') : Fn P w K mg base C x k' n m := by
  obtain ⟨f, fd, ps, a, b, c, d⟩ := F.ex
  exact ⟨f, fd, ps, a.mono h, b, c, d⟩
section
variable {X : Cx} {C : Cls0} {W : Wx}
def fApp (n : Nat) (m : M) (g : EF (List D)) : EF D := fun ρ S => bindR (g ρ S) fun ds S1 => if ds.length = n then m ds S1 else none
theorem se_call {x : Str} {k n : Nat} {m : M} {p pos : Pos} {e : Expr} {es : List Expr} {g : EF (List D)} (G : Fn X.prog X.w X.K X.mg X.base C x k n m) (hr : RoomG k X.A) (tk : Takes X W) (ha : SA X C W (e :: es) g) (hg : Gl X x := by rfl) (hdb : (x == ("__debug__" : Str)) = false := by decide)
    (he : starEach (e :: es) X.env = (false, eval e X.env) :: starEach es X.env := by rfl) (hpl : (backTo pos (starEach es X.env)).any (·.1) = false := by rfl) : SE X C W (.Call (.Name x p) (e :: es) [] pos) (fApp n m g) := by
  obtain ⟨f, fd, ps, F, hm, hk, hb⟩ := G.ex
  constructor
  constructor
  rintro pins s σ H Q I ⟨mu, S, ρ, R, re, h⟩
  have ha' := ha.pa.run pos pins s σ H _ I ⟨mu, S, ρ, R, re, PostG.bind (RA := QDs X.K) h⟩
  refine wpAny_Call_Name_kw (ld_glob I hg hm ?_ hdb)
  refine PySem.W.callWith_K (h₀ := X.base) I.ok.mod.kin hk (thn ha' ?_) he hpl
  rintro us s1 ⟨vs, H1, I1, rv, mu1, S1, d1, R1, x1, r1, h1⟩
  refine ⟨I1.kIn, ?_⟩
  by_cases hl : d1.length = n
  · rw [if_pos hl] at h1
    have sp1 : spM X.K C n m vs H1 Q (WE W σ) := ⟨mu1, S1, d1, R1, r1, hl, h1⟩
    have hul : us.length = ps.length := (Paired.length rv).symm.trans (F.len _ _ _ _ sp1)
    have bnd := hb s1 us I1.kIn (by rw [List.append_nil]; exact hul)
    rw [List.append_nil] at bnd
    refine wpAny_call (codeAny_mono (F.run X.A X.stack s1 H1 ⟨us, []⟩ us vs Q (WE W σ) hr I1.env0 bnd rv sp1) ?_)
    intro r s' hq
    cases r with
    | error e => exact passAt tk σ pins H1 s1 e s' I1 hq
    | ok fl =>
      cases fl with
      | ret u => exact I1.after hq
      | next => exact hq.elim
      | brk => exact hq.elim
      | cont => exact hq.elim
  · rw [if_neg hl] at h1; exact h1.elim
end
/-- what a body hands back -/
def outOf (r : Rf) : Rs D := match r with
  | some (.ret d, S) => okR d S
  | some (.nx _, S) => okR .non S
  | some (.exn e _, S) => some (.error e, S)
  | _ => none
@[simp] theorem outOf_ret (d : D) (S : Store) : outOf (some (.ret d, S)) = okR d S := rfl
@[simp] theorem outOf_nx (ρ : Rho) (S : Store) : outOf (some (.nx ρ, S)) = okR .non S := rfl
@[simp] theorem outOf_exn (e : Ex) (ρ : Rho) (S : Store) : outOf (some (.exn e ρ, S)) = some (.error e, S) := rfl
def startR (n : Nat) (ds : List D) : Rho := ds.map some ++ List.replicate (n - ds.length) none
def resBel (n : Nat) : Except Ex D → Prop
  | .ok d => d.bel n
  | .error e => D.bels n (e.2.map (·.2))
/-- m says of the body b no more than is so: what nothing refers to may be forgotten -/
def Refs (nN np : Nat) (m : M) (b : SF) : Prop := ∀ ds S r S1, ds.length = np → Closed S → D.bels S.length ds → m ds S = some (r, S1) →
  ∃ J, outOf (b (startR nN ds) S) = some (r, S1 ++ J) ∧ S.length ≤ S1.length ∧ Closed S1 ∧ resBel S1.length r
/-- the plain case: the store is as it was -/
theorem refs_pure {nN np : Nat} {m : M} {b : SF} (h : ∀ ds S r S1, ds.length = np → Closed S → D.bels S.length ds → m ds S = some (r, S1) → S1 = S ∧ resBel S.length r ∧ ∃ J, outOf (b (startR nN ds) S) = some (r, S ++ J)) : Refs nN np m b :=
  fun ds S r S1 hl c hb e => by
    obtain ⟨rfl, br, J, q⟩ := h ds S r S1 hl c hb e
    exact ⟨J, q, Nat.le_refl _, c, br⟩
theorem RE.begin {K : PySem.W.Frag} {mu : Nat → Addr} {n : Nat} {H : Hp} {N : List Str} {vs : List V} {ds : List D} (h : RDs K mu n H vs ds) : RE K mu n H (start N vs) (startR N.length ds) := by
  have hl := RDs.length h
  refine ⟨by simp [L2.start, startR, hl], fun i d e => ?_⟩
  unfold startR at e
  by_cases hi : i < ds.length
  · rw [List.getElem?_append_left (by simpa using hi), List.getElem?_map] at e
    cases q : ds[i]? with
    | none => rw [q] at e; cases e
    | some d' =>
      rw [q] at e
      cases e
      obtain ⟨v, e1, r⟩ := h.get q
      refine ⟨v, ?_, r⟩
      unfold L2.start
      rw [List.getElem?_append_left (by simp [hl, hi]), List.getElem?_map, e1]
      rfl
  · rw [List.getElem?_append_right (by simpa using Nat.le_of_not_lt hi), List.getElem?_replicate] at e
    split at e <;> cases e
section
variable {P : Program} {w : World} {K : PySem.W.Frag} {mg : Str → Option Value} {base : Heap} {C : Cls0}
/-- THE RULE for a def -/
theorem fn_mk {x qual : Str} {st : Stmt} {f : Addr} {fd : FuncData} {N ps : List Str} {k : Nat} {m : M} {b : SF} (F : Fun K x qual st f fd) (Sc : FnScope N ps (defScope st)) (bn : Binds K fd ps []) (gm : mg x = some (.ref f))
    (body : ∀ (cdv : Value) (A : Around) (outer : List PySem.Env) (s : Shared) (H : Hp) (E : XK), RoomG k (A.deeper (envOfC qual (defScope st) s.heap.objs.size f cdv)) →
      SB (cxOf (L2.CX P w) P w K mg base N qual (defScope st) f cdv A outer s H E) C (fun c d _ H => E c d H) (defBody st) b) (rf : Refs N.length ps.length m b) :
    Fn P w K mg base C x (k + 1) ps.length m := by
  refine ⟨f, fd, ps, fng_of F Sc (fun vs H Q E h => spM_len h) (fun cdv A outer s H vs Q E hr h => ?_), gm, F.kp, bn⟩
  refine ⟨_, (body cdv A outer s H E hr).pss, ?_⟩
  obtain ⟨mu, S, ds, R, rd, hl, hq⟩ := h
  refine ⟨mu, S, startR N.length ds, R, RE.begin rd, ?_⟩
  cases em : m ds S with
  | none => rw [em] at hq; exact hq.elim
  | some q =>
    obtain ⟨r, S1⟩ := q
    rw [em] at hq
    obtain ⟨J, eb, hle, hc, hb⟩ := rf ds S r S1 hl R.closed rd.bels em
    cases e1 : b (startR N.length ds) S with
    | none => rw [e1] at eb; cases eb
    | some z =>
      obtain ⟨fl, S2⟩ := z
      rw [e1] at eb
      have lenJ : S1.length ≤ (S1 ++ J).length := by simp
      cases fl with
      | ret d =>
        cases eb
        intro mu' H' v R' y rd'
        exact hq mu' H' v (R'.forget hc) (y.forget hle lenJ) (rd'.fg hb)
      | nx ρ =>
        cases eb
        intro mu' H' σ' R' y re'
        exact hq mu' H' .non (R'.forget hc) (y.forget hle lenJ) .non
      | exn e ρ =>
        cases eb
        intro mu' H' A' dx vs' σ' R' y c hd rf' re'
        exact hq mu' H' A' dx vs' (R'.forget hc) (y.forget hle lenJ) c hd (rf'.fg hb)
      | bk ρ => cases eb
      | ct ρ => cases eb
end
end Sh

set_option Elab.async false
set_option linter.all false
set_option maxRecDepth 100000
set_option maxHeartbeats 4000000
set_option autoImplicit false
namespace Sh
open PySem PySem.Spec PyProof.Rows L2

/-! ### the law's own call -/
/-- the heap in which nothing but the script may be tracked -/
def scriptH (K : PySem.W.Frag) (a : Addr) (vs : List Value) (ns : List Int) : Hp := fun b => if b = a ∧ K.lookup a = none then some (.frz { cls := .type "list", data := .seq vs.toArray } (.lst (ns.map V.int))) else none
theorem scriptH_some {K : PySem.W.Frag} {a b : Addr} {vs : List Value} {ns : List Int} {u : HO} (h : scriptH K a vs ns b = some u) : b = a ∧ K.lookup a = none ∧ u = .frz { cls := .type "list", data := .seq vs.toArray } (.lst (ns.map V.int)) := by
  unfold scriptH at h
  by_cases hb : b = a ∧ K.lookup a = none
  · rw [if_pos hb] at h; cases h; exact ⟨hb.1, hb.2, rfl⟩
  · rw [if_neg hb] at h; cases h
section
variable {P : Program} {w : World} {K : PySem.W.Frag} {mg mb : Str → Option Value} {k : Nat} {fa a : Addr} {fd : FuncData} {x : Str} {s : Shared} {vs : List Value} {ns : List Int} {C : Cls0} {m : M}
/-- the law is called with the script -/
theorem law_runs (hK : K.In s.heap) (hm : s.heap.Ns mainGlobals mg) (hb : s.heap.Ns builtinsNs mb) (hbb : ∀ y : Str, y ≠ "__name__" → mb y = bootBuiltins y) (hlim : s.heap.NoLimit) (hg : s.gens = #[])
    (ha : s.heap.get? a = some { cls := .type "list", data := .seq vs.toArray }) (hi : IntsAre vs ns) (hl : ns.length ≤ sizeLine) (hr : Room k callerA)
    (F : ∀ base : Heap, K.In base → base.Ns mainGlobals mg → FnG P w K mg base k fa fd [x] (spM K C 1 m)) (hbind : ∀ (s : Shared) (u : Value), BindsTo s fd ⟨[u], []⟩ [(x, u)])
    (hm1 : ∃ S1, m [.fl (ns.map D.int)] [] = some (.ok (.bl true), S1)) :
    codeAny (model P w) callerA (.call (.ref fa) ⟨[.ref a], []⟩) (fun r s' => r = .ok (.ret (.bool true)) ∧ OldK s.heap s'.heap ∧ s'.os = s.os ∧ AllBare s'.gens) s := by
  have rv := vals_ints hi
  have hlv := hi.length
  have fz : FzL K (scriptH K a vs ns) a (ns.map V.int) := by
    cases e : K.lookup a with
    | none => exact .inl ⟨_, if_pos ⟨rfl, e⟩⟩
    | some o =>
      have q := hK a o e
      rw [ha] at q
      cases q
      exact .inr ⟨_, vs.toArray, _, e, rfl, rfl, rfl, by rw [List.size_toArray, hlv]; exact hl, by simpa using rv⟩
  have hok : HOk P w (scriptH K a vs ns) s.heap := fun b u e => by
    obtain ⟨rfl, _, rfl⟩ := scriptH_some e
    exact ⟨ha, by rw [List.length_map]; exact hl, vs, _, rv, ha⟩
  have free : ∀ {b : Addr} {o : Obj} {es : Array DictEntry} {ep : Nat}, s.heap.get? b = some o → o.data = .dict es ep → scriptH K a vs ns b = none := fun {b o es ep} e d => by
    cases q : scriptH K a vs ns b with
    | none => rfl
    | some u =>
      obtain ⟨rfl, _, _⟩ := scriptH_some q
      rw [ha] at e
      cases e
      cases d
  have nsOf : ∀ {b : Addr} {f : Str → Option Value}, s.heap.Ns b f → (hidT s.heap (scriptH K a vs ns)).Ns b f := fun {b f} ⟨o, es, ep, e, d, r⟩ => ⟨o, es, ep, hidT_get e (free e d), d, r⟩
  have inK : K.In (hidT s.heap (scriptH K a vs ns)) := fun b o e => hidT_get (hK b o e) (by
    cases q : scriptH K a vs ns b with
    | none => rfl
    | some u =>
      obtain ⟨rfl, z, _⟩ := scriptH_some q
      rw [z] at e; cases e)
  have hMod : Mod K mg (hidT s.heap (scriptH K a vs ns)) := ⟨inK, nsOf hm, ⟨mb, nsOf hb, hbb⟩, by obtain ⟨mc, h1, h2⟩ := hlim; exact ⟨mc, nsOf h1, h2⟩⟩
  have e0 : Env0 P w K mg (hidT s.heap (scriptH K a vs ns)) callerA [] s (scriptH K a vs ns) :=
    ⟨rfl, hMod, fun _ _ e => of_hidT e, Nat.le_of_eq (hidT_size _ _), trivial, (fun b z => absurd (show b ∈ ([] : List Addr) from z) List.not_mem_nil), hok, .of_eq hg⟩
  have rel : Rel K C (fun _ => 0) [] (scriptH K a vs ns) := ⟨fun i _ h => absurd h (Nat.not_lt_zero i), fun l o e => by simp at e⟩
  have rds : ∀ l : List Int, RDs K (fun _ => 0) 0 (scriptH K a vs ns) (l.map V.int) (l.map D.int) := fun l => by
    induction l with
    | nil => exact .nil
    | cons i l ih => exact .cons (.int i) ih
  obtain ⟨S1, em⟩ := hm1
  have sp : spM K C 1 m [.ref a] (scriptH K a vs ns) (fun v _ => v = .bl true) (fun _ _ _ => False) := by
    refine ⟨fun _ => 0, [], [.fl (ns.map D.int)], rel, .cons (.fl fz (rds ns)) .nil, rfl, ?_⟩
    rw [em]
    intro mu' H' v R' y rd
    cases rd
    rfl
  refine codeAny_mono ((F _ inK (nsOf hm)).run callerA [] s _ ⟨[.ref a], []⟩ [.ref a] [.ref a] _ _ ⟨hr, rfl⟩ e0 (hbind s (.ref a)) (.cons rfl .nil) sp) ?_
  intro r s' h
  cases r with
  | error e =>
    obtain ⟨_, _, _, _, _, _, _, _, _, _, _, _, z⟩ := h
    exact z.elim
  | ok fl =>
    cases fl with
    | next => exact h.elim
    | brk => exact h.elim
    | cont => exact h.elim
    | ret u =>
      obtain ⟨v, H', os, bare, un, hok', r', q⟩ := h
      obtain rfl : v = .bl true := q
      obtain rfl : u = Value.bool true := r'
      refine ⟨rfl, OldK.of_keep fun b o e => ?_, os, bare⟩
      cases q : scriptH K a vs ns b with
      | none => exact un.keep b o e q (fun z => absurd (show b ∈ ([] : List Addr) from z) List.not_mem_nil) (fun z => absurd z List.not_mem_nil)
      | some u =>
        obtain ⟨rfl, _, rfl⟩ := scriptH_some q
        obtain ⟨e1, _⟩ := hok b _ q
        obtain ⟨e2, _⟩ := hok' b _ (un.frzs b _ _ q)
        rw [e] at e1; cases e1
        exact e2
end
/-- what the head leaves, from the law's def -/
theorem law_walk {l : PySem.W.OpenLaw} {n k : Nat} {q : Program} {loose : List Str} {XP : (Str → Option Value) → Heap → Prop} {YP : World → Heap → Prop} {d : DefRec} {K : Params → PySem.W.Frag} {C : World → Cls0} {m : M} {x : Str}
    (hn : l.most = some n) (hn2 : n ≤ sizeLine) (hdf : d.params.defaults = []) (hr : Room k callerA) (hY : ∀ (w : World) (h : Heap), YP w h → (K w.params).In h)
    (F : ∀ (w : World) (mg : Str → Option Value) (fa : Addr) (h : Heap), (K w.params).In h → h.Ns mainGlobals mg → mg d.name = some (.ref fa) →
      ∃ fd : FuncData, (∀ (s : Shared) (u : Value), BindsTo s fd ⟨[u], []⟩ [(x, u)]) ∧ ∃ C : Cls0, ∀ base : Heap, (K w.params).In base → base.Ns mainGlobals mg → FnG l.prog w (K w.params) mg base k fa fd [x] (spM (K w.params) C 1 m))
    (hm : ∀ ns : List Int, ns.length ≤ n → ∃ S1, m [.fl (ns.map D.int)] [] = some (.ok (.bl true), S1)) :
    PySem.W.WalkO q loose XP YP l.row.toRowW d [] (fun f vs => PySem.call f vs) := by
  refine Att.attach_call hn hdf ?_
  intro w s₀ s₁ mg mb fa o pm cd doc a vs ns G Y ho hd hcd hmg hobj hints hlen hg
  have inK := hY w _ Y
  obtain ⟨fd, hb, C, hF⟩ := F w mg fa _ inK G.T.g hmg
  exact law_runs inK G.T.g G.T.b G.T.builtins G.T.nolimit hg hobj hints (Nat.le_trans hlen hn2) hr hF hb (hm ns hlen)

/-! ### data as a tree -/
/-- a value as the library's data, k deep at most -/
def pyD (S : Store) : Nat → D → Option PyData
  | _, .non => some .none
  | _, .bl b => some (.bool b)
  | _, .int i => some (.int i)
  | _, .str x => if PyData.canLay0 (.str x) = true then some (.str x) else none
  | k + 1, .tup xs => (xs.mapM (pyD S k)).map .tuple
  | k + 1, .fl xs => (xs.mapM (pyD S k)).map .list
  | k + 1, .ref l => match S[l]? with
    | some (.lst xs) => (xs.mapM (pyD S k)).map .list
    | _ => none
  | 0, .tup _ => none
  | 0, .fl _ => none
  | 0, .ref _ => none
section
variable {K : PySem.W.Frag} {C : Cls0} {mu : Nat → Addr} {S : Store} {H : Hp}
theorem pyD_all (k : Nat) (ih : ∀ {d : D} {v : V} {a : PyData}, RD K mu S.length H v d → pyD S k d = some a → Dp K H v a ∧ a.canLay0 = true ∧ a.depth ≤ k) :
    ∀ {ds : List D} {vs : List V} {as : List PyData}, RDs K mu S.length H vs ds → ds.mapM (pyD S k) = some as → DpAll K H vs as ∧ PyData.canLayAll0 as = true ∧ PyData.depthAll as ≤ k
  | [], vs, as, r, e => by
    cases r
    simp at e
    subst e
    exact ⟨.nil, by simp [PyData.canLayAll0], by simp [PyData.depthAll]⟩
  | d :: ds, vs, as, r, e => by
    cases r with
    | cons r1 r2 =>
      rw [List.mapM_cons] at e
      cases e1 : pyD S k d with
      | none => rw [e1] at e; cases e
      | some a =>
        rw [e1] at e
        cases e2 : ds.mapM (pyD S k) with
        | none => rw [e2] at e; cases e
        | some as' =>
          rw [e2] at e
          cases e
          obtain ⟨p1, p2, p3⟩ := ih r1 e1
          obtain ⟨q1, q2, q3⟩ := pyD_all k ih r2 e2
          exact ⟨.cons p1 q1, by simp [PyData.canLayAll0, p2, q2], by simp only [PyData.depthAll]; exact Nat.max_le.mpr ⟨p3, q3⟩⟩
theorem pyD_dp (R : Rel K C mu S H) : ∀ (k : Nat) {d : D} {v : V} {a : PyData}, RD K mu S.length H v d → pyD S k d = some a → Dp K H v a ∧ a.canLay0 = true ∧ a.depth ≤ k
  | k, .non, v, a, r, e => by cases r; simp [pyD] at e; subst e; exact ⟨.non, by simp [PyData.canLay0], by simp [PyData.depth]⟩
  | k, .bl b, v, a, r, e => by cases r; simp [pyD] at e; subst e; exact ⟨.bl b, by simp [PyData.canLay0], by simp [PyData.depth]⟩
  | k, .int b, v, a, r, e => by cases r; simp [pyD] at e; subst e; exact ⟨.int b, by simp [PyData.canLay0], by simp [PyData.depth]⟩
  | k, .str x, v, a, r, e => by
    cases r
    unfold pyD at e
    by_cases h : PyData.canLay0 (.str x) = true
    · rw [if_pos h] at e; cases e; exact ⟨.str x, h, by simp [PyData.depth]⟩
    · rw [if_neg h] at e; cases e
  | 0, .tup xs, v, a, r, e => by simp [pyD] at e
  | 0, .fl xs, v, a, r, e => by simp [pyD] at e
  | 0, .ref l, v, a, r, e => by simp [pyD] at e
  | k + 1, .tup xs, v, a, r, e => by
    cases r with
    | tup hs hd =>
      unfold pyD at e
      cases e1 : xs.mapM (pyD S k) with
      | none => rw [e1] at e; cases e
      | some as =>
        rw [e1] at e
        cases e
        obtain ⟨q1, q2, q3⟩ := pyD_all k (fun {d v a} => pyD_dp R k (d := d) (v := v) (a := a)) hd e1
        exact ⟨.tup hs q1, by simpa [PyData.canLay0] using q2, by simp only [PyData.depth]; omega⟩
  | k + 1, .fl xs, v, a, r, e => by
    cases r with
    | fl hs hd =>
      unfold pyD at e
      cases e1 : xs.mapM (pyD S k) with
      | none => rw [e1] at e; cases e
      | some as =>
        rw [e1] at e
        cases e
        obtain ⟨q1, q2, q3⟩ := pyD_all k (fun {d v a} => pyD_dp R k (d := d) (v := v) (a := a)) hd e1
        exact ⟨.lst hs.seq q1, by simpa [PyData.canLay0] using q2, by simp only [PyData.depth]; omega⟩
  | k + 1, .ref l, v, a, r, e => by
    cases r with
    | ref hl =>
      unfold pyD at e
      cases e0 : S[l]? with
      | none => rw [e0] at e; cases e
      | some o =>
        rw [e0] at e
        cases o with
        | ins c fs => cases e
        | lst xs =>
          simp only at e
          obtain ⟨vs, h1, hd⟩ := R.obj l _ e0
          cases e1 : xs.mapM (pyD S k) with
          | none => rw [e1] at e; cases e
          | some as =>
            rw [e1] at e
            cases e
            obtain ⟨q1, q2, q3⟩ := pyD_all k (fun {d v a} => pyD_dp R k (d := d) (v := v) (a := a)) hd e1
            exact ⟨.lst (.of h1) q1, by simpa [PyData.canLay0] using q2, by simp only [PyData.depth]; omega⟩
theorem shaped_of {a : PyData} {k : Nat} (h1 : a.canLay0 = true) (h2 : a.depth ≤ k) (hk : k ≤ 64) : SeqAt.shaped a = true := by
  unfold SeqAt.shaped
  rw [h1, decide_eq_true (Nat.le_trans h2 hk)]
  rfl
end
end Sh

set_option Elab.async false
set_option linter.all false
set_option maxRecDepth 100000
set_option maxHeartbeats 4000000
set_option autoImplicit false
namespace Sh
open PySem PySem.Spec PyProof.Rows L2

/-! ### operations of ints, of all data -/
def pI2 (g : Int → Int → Option D) : P2 := fun d e S => match d, e with
  | .int i, .int j => match g i j with
    | some z => okR z S
    | none => none
  | _, _ => none
section
variable {K : PySem.W.Frag} {C : Cls0}
theorem srv_I {c : Int → Int → Prop} {f : Int → Int → V} {g : Int → Int → Option D} (hg : ∀ i j z, g i j = some z → c i j ∧ ∀ K mu n H, RD K mu n H (f i j) z) : Srv2 K C (rI c f) (pI2 g) := by
  intro XW mu S H x y d e Q R r1 r2 q
  cases r1 with
  | int i =>
    cases r2 with
    | int j =>
      simp only [pI2] at q
      cases e1 : g i j with
      | none => rw [e1] at q; exact q.elim
      | some z =>
        rw [e1] at q
        obtain ⟨h1, h2⟩ := hg i j z e1
        exact ⟨i, j, rfl, rfl, h1, q.ok R (h2 _ _ _ _)⟩
    | _ => exact q.elim
  | _ => exact q.elim
theorem srv_I0 {f : Int → Int → V} {g : Int → Int → Option D} (hg : ∀ i j z, g i j = some z → ∀ K mu n H, RD K mu n H (f i j) z) : Srv2 K C (rI0 f) (pI2 g) := by
  intro XW mu S H x y d e Q R r1 r2 q
  cases r1 with
  | int i =>
    cases r2 with
    | int j =>
      simp only [pI2] at q
      cases e1 : g i j with
      | none => rw [e1] at q; exact q.elim
      | some z =>
        rw [e1] at q
        exact ⟨i, j, rfl, rfl, q.ok R (hg i j z e1 _ _ _ _)⟩
    | _ => exact q.elim
  | _ => exact q.elim
end
def gSub : Int → Int → Option D := fun i j => some (.int (i - j))
def gMul : Int → Int → Option D := fun i j => if (-(2 ^ 64) < i ∧ i < 2 ^ 64) ∨ (-(2 ^ 64) < j ∧ j < 2 ^ 64) then some (.int (i * j)) else none
def gMod : Int → Int → Option D := fun i j => if j ≠ 0 then some (.int (i.fmod j)) else none
def gDiv : Int → Int → Option D := fun i j => if j ≠ 0 ∧ j.natAbs < 1073741824 then some (.int (i.fdiv j)) else none
def gPow : Int → Int → Option D := fun i j => if 0 ≤ j ∧ j ≤ 1000000 ∧ i.natAbs < 2 ^ 64 then some (.int (i ^ j.toNat)) else none
def gLt : Int → Int → Option D := fun i j => some (.bl (decide (i < j)))
def gLe : Int → Int → Option D := fun i j => some (.bl (decide (i ≤ j)))
def gGt : Int → Int → Option D := fun i j => some (.bl (decide (j < i)))
def gGe : Int → Int → Option D := fun i j => some (.bl (decide (j ≤ i)))
section
variable {K : PySem.W.Frag} {C : Cls0}
theorem sv_sub : Srv2 K C (rI0 fun i j => .int (i - j)) (pI2 gSub) := srv_I0 fun i j z e _ _ _ _ => by cases e; exact .int _
theorem sv_mul : Srv2 K C (rI CMul fun i j => .int (i * j)) (pI2 gMul) := srv_I fun i j z e => by
  unfold gMul at e
  split at e
  · cases e; exact ⟨by assumption, fun _ _ _ _ => .int _⟩
  · cases e
theorem sv_mod : Srv2 K C (rI (fun _ j => j ≠ 0) fun i j => .int (i.fmod j)) (pI2 gMod) := srv_I fun i j z e => by
  unfold gMod at e
  split at e
  · cases e; exact ⟨by assumption, fun _ _ _ _ => .int _⟩
  · cases e
theorem sv_div : Srv2 K C (rI CDivN fun i j => .int (i.fdiv j)) (pI2 gDiv) := srv_I fun i j z e => by
  unfold gDiv at e
  split at e
  · cases e; exact ⟨by assumption, fun _ _ _ _ => .int _⟩
  · cases e
theorem sv_pow : Srv2 K C (rI CPow fun i j => .int (i ^ j.toNat)) (pI2 gPow) := srv_I fun i j z e => by
  unfold gPow at e
  split at e
  · cases e; exact ⟨by assumption, fun _ _ _ _ => .int _⟩
  · cases e
theorem sv_lt : Srv2 K C (rI0 fun i j => .bl (decide (i < j))) (pI2 gLt) := srv_I0 fun i j z e _ _ _ _ => by cases e; exact .bl _
theorem sv_le : Srv2 K C (rI0 fun i j => .bl (decide (i ≤ j))) (pI2 gLe) := srv_I0 fun i j z e _ _ _ _ => by cases e; exact .bl _
theorem sv_gt : Srv2 K C (rI0 fun i j => .bl (decide (j < i))) (pI2 gGt) := srv_I0 fun i j z e _ _ _ _ => by cases e; exact .bl _
theorem sv_ge : Srv2 K C (rI0 fun i j => .bl (decide (j ≤ i))) (pI2 gGe) := srv_I0 fun i j z e _ _ _ _ => by cases e; exact .bl _
end
/-- a + b: ints, texts, tuples -/
def pAdd : P2 := fun d e S => match d, e with
  | .int i, .int j => okR (.int (i + j)) S
  | .str x, .str y => if x.length + y.length ≤ 16777216 then okR (.str (x ++ y)) S else none
  | .tup xs, .tup ys => if xs.length + ys.length ≤ 16777216 then okR (.tup (xs ++ ys)) S else none
  | _, _ => none
def rAddA (K : PySem.W.Frag) : R2 := fun x y H Q => (rI0 fun i j => .int (i + j)) x y H Q ∨ ((∃ i j, x = .str i ∧ y = .str j ∧ i.length + j.length ≤ sizeLine ∧ Q (.str (i ++ j)) H) ∨ rCatA K x y H Q)
theorem op_addA {X : Cx} : OpR X (binaryOp .Add) (rAddA X.K) := op_add.or (op_add_str.or op_catA)
section
variable {K : PySem.W.Frag} {C : Cls0}
theorem sv_add : Srv2 K C (rAddA K) pAdd := by
  intro XW mu S H x y d e Q R r1 r2 q
  cases r1 with
  | int i =>
    cases r2 with
    | int j => exact .inl ⟨i, j, rfl, rfl, q.ok R (.int _)⟩
    | _ => exact q.elim
  | str a =>
    cases r2 with
    | str b =>
      simp only [pAdd] at q
      split at q
      · rename_i hl
        exact .inr (.inl ⟨a, b, rfl, rfl, by rw [sizeLine_16]; exact hl, q.ok R (.str _)⟩)
      · exact q.elim
    | _ => exact q.elim
  | @tup a vs ds hs hd =>
    cases r2 with
    | @tup b ws es hs' hd' =>
      simp only [pAdd] at q
      split at q
      · rename_i hl
        have l1 := RDs.length hd
        have l2 := RDs.length hd'
        refine .inr (.inr ⟨a, b, vs, ws, rfl, rfl, hs, hs', by rw [sizeLine_16, l1, l2]; exact hl, fun e => ?_, fun _ e => ?_, fun _ _ p hp => ?_⟩)
        · subst e
          have : ds = [] := by cases ds with | nil => rfl | cons _ _ => simp at l1
          subst this
          exact q.ok R (.tup hs' hd')
        · subst e
          have : es = [] := by cases es with | nil => rfl | cons _ _ => simp at l2
          subst this
          rw [List.append_nil] at q
          exact q.ok R (.tup hs hd)
        · exact q mu _ _ (R.new hp) (.new hp) (.tup (.inl (.inl upd_same)) ((hd.append hd').mono R (.new hp)))
      · exact q.elim
    | _ => exact q.elim
  | _ => exact q.elim
end
/-- ==, != of all data -/
def eqO (S : Store) (d e : D) : Option Bool := match pyD S 60 d, pyD S 60 e with
  | some a, some b => some (PyData.eqv a b)
  | _, _ => none
def pEq : P2 := fun d e S => match d, e with
  | .str a, .str b => okR (.bl (a == b)) S
  | d, e => match eqO S d e with
    | some b => okR (.bl b) S
    | none => none
def pNe : P2 := fun d e S => match d, e with
  | .str a, .str b => okR (.bl (!(a == b))) S
  | d, e => match eqO S d e with
    | some b => okR (.bl (!b)) S
    | none => none
section
variable {K : PySem.W.Frag} {C : Cls0}
theorem eqO_dp {mu : Nat → Addr} {S : Store} {H : Hp} {d e : D} {x y : V} {b : Bool} (R : Rel K C mu S H) (r1 : RD K mu S.length H x d) (r2 : RD K mu S.length H y e) (h : eqO S d e = some b) :
    ∃ p q, Dp K H x p ∧ Dp K H y q ∧ SeqAt.shaped p = true ∧ SeqAt.shaped q = true ∧ b = PyData.eqv p q := by
  unfold eqO at h
  split at h
  · rename_i p q e1 e2
    cases h
    obtain ⟨a1, a2, a3⟩ := pyD_dp R 60 r1 e1
    obtain ⟨b1, b2, b3⟩ := pyD_dp R 60 r2 e2
    exact ⟨p, q, a1, b1, shaped_of a2 a3 (by decide), shaped_of b2 b3 (by decide), rfl⟩
  · cases h
theorem dec_strV {a b : Str} : decide (V.str a = V.str b) = (a == b) := by
  rw [Bool.eq_iff_iff]
  simp
theorem sv_eq : Srv2 K C (fun x y H Q => rEq x y H Q ∨ rEqD K x y H Q) pEq := by
  intro XW mu S H x y d e Q R r1 r2 q
  unfold pEq at q
  split at q
  · cases r1 with
    | str a =>
      cases r2 with
      | str b => exact .inl ⟨rfl, by rw [dec_strV]; exact q.ok R (.bl _)⟩
  · cases h : eqO S d e with
    | none => rw [h] at q; exact q.elim
    | some b =>
      rw [h] at q
      obtain ⟨p, p', a1, a2, a3, a4, rfl⟩ := eqO_dp R r1 r2 h
      exact .inr ⟨p, p', a1, a2, a3, a4, q.ok R (.bl _)⟩
theorem sv_ne : Srv2 K C (fun x y H Q => rNe x y H Q ∨ rNeD K x y H Q) pNe := by
  intro XW mu S H x y d e Q R r1 r2 q
  unfold pNe at q
  split at q
  · cases r1 with
    | str a =>
      cases r2 with
      | str b => exact .inl ⟨rfl, by rw [dec_strV]; exact q.ok R (.bl _)⟩
  · cases h : eqO S d e with
    | none => rw [h] at q; exact q.elim
    | some b =>
      rw [h] at q
      obtain ⟨p, p', a1, a2, a3, a4, rfl⟩ := eqO_dp R r1 r2 h
      exact .inr ⟨p, p', a1, a2, a3, a4, q.ok R (.bl _)⟩
end
/-- x is None -/
def isNonD : D → Bool
  | .non => true
  | _ => false
def pIsN : P2 := fun d e S => match e with
  | .non => okR (.bl (isNonD d)) S
  | _ => none
def pNotN : P2 := fun d e S => match e with
  | .non => okR (.bl (!isNonD d)) S
  | _ => none
section
variable {K : PySem.W.Frag} {C : Cls0}
theorem isNon_rd {mu : Nat → Addr} {n : Nat} {H : Hp} {x : V} {d : D} (r : RD K mu n H x d) : decide (x = .non) = isNonD d := by
  cases r <;> simp [isNonD]
theorem sv_isN : Srv2 K C (fun x y H Q => y = .non ∧ Q (.bl (decide (x = .non))) H) pIsN := by
  intro XW mu S H x y d e Q R r1 r2 q
  cases r2 with
  | non => exact ⟨rfl, by rw [isNon_rd r1]; exact q.ok R (.bl _)⟩
  | _ => exact q.elim
theorem sv_notN : Srv2 K C (fun x y H Q => y = .non ∧ Q (.bl (!decide (x = .non))) H) pNotN := by
  intro XW mu S H x y d e Q R r1 r2 q
  cases r2 with
  | non => exact ⟨rfl, by rw [isNon_rd r1]; exact q.ok R (.bl _)⟩
  | _ => exact q.elim
end
/-! ### built-in functions -/
def p1L (p : P1) : PL := fun ds S => match ds with
  | [d] => p d S
  | _ => none
def pLen : P1 := fun d S => match d with
  | .tup ds => okR (.int ds.length) S
  | .fl ds => okR (.int ds.length) S
  | .str z => if z.length ≤ 16777216 then okR (.int z.length) S else none
  | .ref l => match S[l]? with
    | some (.lst ds) => okR (.int ds.length) S
    | _ => none
  | _ => none
def pAbs : P1 := fun d S => match d with
  | .int i => okR (.int (if i < 0 then -i else i)) S
  | _ => none
def pInt : P1 := fun d S => match d with
  | .int i => okR (.int i) S
  | .bl b => okR (.int (if b then 1 else 0)) S
  | _ => none
def rLenA (K : PySem.W.Frag) : List V → Hp → VK → Prop := fun xs H Q => (∃ p ys, xs = [.ref p] ∧ (SqL K H p ys ∨ SqT K H p ys) ∧ Q (.int ys.length) H) ∨ (∃ z, xs = [.str z] ∧ z.length ≤ sizeLine ∧ Q (.int z.length) H)
theorem call_lenA {X : Cx} : CallR X (.builtin "len") (rLenA X.K) := call_len_seq.or call_len_str
section
variable {K : PySem.W.Frag} {C : Cls0}
theorem srvL1 {r : List V → Hp → VK → Prop} {p : P1} (h : ∀ (XW : Value → Option Addr → Hp → Prop) (mu : Nat → Addr) (S : Store) (H : Hp) (x : V) (d : D) (Q : VK), Rel K C mu S H → RD K mu S.length H x d → PostG K C XW mu S.length H (QD K) (p d S) Q → r [x] H Q) : SrvL K C r (p1L p) := by
  intro XW mu S H xs ds Q R r1 q
  unfold p1L at q
  split at q
  · cases r1 with
    | cons r1 r2 =>
      cases r2
      exact h XW mu S H _ _ Q R r1 q
  · exact q.elim
theorem sv_len : SrvL K C (rLenA K) (p1L pLen) := srvL1 fun XW mu S H x d Q R r q => by
  cases r with
  | tup hs hd => exact .inl ⟨_, _, rfl, .inr hs, by rw [RDs.length hd]; exact q.ok R (.int _)⟩
  | fl hs hd => exact .inl ⟨_, _, rfl, .inl hs.seq, by rw [RDs.length hd]; exact q.ok R (.int _)⟩
  | str z =>
    simp only [pLen] at q
    split at q
    · rename_i hl
      exact .inr ⟨z, rfl, by rw [sizeLine_16]; exact hl, q.ok R (.int _)⟩
    · exact q.elim
  | @ref l hl =>
    simp only [pLen] at q
    cases e : S[l]? with
    | none => rw [e] at q; exact q.elim
    | some o =>
      rw [e] at q
      cases o with
      | ins _ _ => exact q.elim
      | lst ds =>
        obtain ⟨vs, h1, hd⟩ := R.obj l _ e
        exact .inl ⟨_, vs, rfl, .inl (.of h1), by rw [RDs.length hd]; exact q.ok R (.int _)⟩
  | _ => exact q.elim
theorem sv_abs : SrvL K C (fun xs H Q => ∃ i, xs = [.int i] ∧ Q (.int (if i < 0 then -i else i)) H) (p1L pAbs) := srvL1 fun XW mu S H x d Q R r q => by
  cases r with
  | int i => exact ⟨i, rfl, q.ok R (.int _)⟩
  | _ => exact q.elim
theorem sv_int : SrvL K C (fun xs H Q => (∃ i, xs = [.int i] ∧ Q (.int i) H) ∨ ∃ k, xs = [.bl k] ∧ Q (.int (if k then 1 else 0)) H) (p1L pInt) := srvL1 fun XW mu S H x d Q R r q => by
  cases r with
  | int i => exact .inl ⟨i, rfl, q.ok R (.int _)⟩
  | bl b => exact .inr ⟨b, rfl, q.ok R (.int _)⟩
  | _ => exact q.elim
end
/-- tuple(x), list(x) of what holds items -/
def pTuple : P1 := fun d S => match d with
  | .tup ds => okR (.tup ds) S
  | .fl ds => okR (.tup ds) S
  | .ref l => match S[l]? with
    | some (.lst ds) => okR (.tup ds) S
    | _ => none
  | _ => none
section
variable {K : PySem.W.Frag} {C : Cls0}
theorem sv_tuple : SrvL K C (fun xs H Q => ∃ p ys, xs = [.ref p] ∧ ((SqL K H p ys ∧ ∀ l, H l = none → Q (.ref l) (upd H l (.tup ys))) ∨ (SqT K H p ys ∧ Q (.ref p) H))) (p1L pTuple) := srvL1 fun XW mu S H x d Q R r q => by
  cases r with
  | tup hs hd => exact ⟨_, _, rfl, .inr ⟨hs, q.ok R (.tup hs hd)⟩⟩
  | fl hs hd => exact ⟨_, _, rfl, .inl ⟨hs.seq, fun l hl => q mu _ _ (R.new hl) (.new hl) (.tup (.inl (.inl upd_same)) (hd.mono R (.new hl)))⟩⟩
  | @ref l hl =>
    simp only [pTuple] at q
    cases e : S[l]? with
    | none => rw [e] at q; exact q.elim
    | some o =>
      rw [e] at q
      cases o with
      | ins _ _ => exact q.elim
      | lst ds =>
        obtain ⟨vs, h1, hd⟩ := R.obj l _ e
        exact ⟨_, vs, rfl, .inl ⟨.of h1, fun l hl => q mu _ _ (R.new hl) (.new hl) (.tup (.inl (.inl upd_same)) (hd.mono R (.new hl)))⟩⟩
  | _ => exact q.elim
end
section
variable {X : Cx} {C : Cls0} {W : Wx}
/-! ### what is done with a new list at once -/
/-- the hand layer's rule r of a list serves the function q of its items -/
def SrvF (K : PySem.W.Frag) (C : Cls0) (r : List V → Hp → VK → Prop) (q : List D → Store → Rs D) : Prop :=
  ∀ (XW : Value → Option Addr → Hp → Prop) (mu : Nat → Addr) (S : Store) (H : Hp) (p : Addr) (vs : List V) (ds : List D) (Q : VK), Rel K C mu S H → H p = some (.lst vs) → RDs K mu S.length H vs ds → PostG K C XW mu S.length H (QD K) (q ds S) Q → r [.ref p] H Q
def fNew (q : List D → Store → Rs D) (f : EF (List D)) : EF D := fun ρ S => bindR (f ρ S) q
theorem se_bltF {x : Str} {p pos : Pos} {e : Expr} {id : String} {r : List V → Hp → VK → Prop} {q : List D → Store → Rs D} {f : EF (List D)} (hc : CallR X (.builtin id) r) (hr : SrvF X.K C r q) (hm : X.mg x = none) (hv : bootBuiltins x = some (.builtin id)) (ha : SL X C W e f) (hg : Gl X x := by rfl) (hn : x ≠ "__name__" := by decide) (hdb : (x == ("__debug__" : Str)) = false := by decide)
    (he : starEach [e] X.env = (false, eval e X.env) :: starEach [] X.env := by rfl) (hpl : (backTo pos (starEach [] X.env)).any (·.1) = false := by rfl) : SE X C W (.Call (.Name x p) [e] [] pos) (fNew q f) := by
  refine ⟨PE.imp (pe_callB hc hg hm hv (pa_cons ha.pe pa_nil he) hn hdb he hpl) ?_⟩
  rintro σ H Q ⟨mu, S, ρ, R, re, h⟩
  refine ⟨mu, S, ρ, R, re, (PostG.bind (RA := RL X.K) h).mono ?_⟩
  rintro v H1 ⟨mu1, S1, d1, R1, x1, ⟨p, vs, rfl, hp, rd, _, _⟩, h1⟩
  exact hr _ mu1 S1 H1 p vs d1 Q R1 hp rd h1
theorem se_typF {x : Str} {p pos : Pos} {e : Expr} {id : String} {r : List V → Hp → VK → Prop} {q : List D → Store → Rs D} {f : EF (List D)} (hc : CallR X (.type id) r) (hr : SrvF X.K C r q) (hm : X.mg x = none) (hv : bootBuiltins x = some (.type id)) (ha : SL X C W e f) (hg : Gl X x := by rfl) (hn : x ≠ "__name__" := by decide) (hdb : (x == ("__debug__" : Str)) = false := by decide)
    (he : starEach [e] X.env = (false, eval e X.env) :: starEach [] X.env := by rfl) (hpl : (backTo pos (starEach [] X.env)).any (·.1) = false := by rfl) : SE X C W (.Call (.Name x p) [e] [] pos) (fNew q f) := by
  refine ⟨PE.imp (pe_callTy hc hg hm hv (pa_cons ha.pe pa_nil he) hn hdb he hpl) ?_⟩
  rintro σ H Q ⟨mu, S, ρ, R, re, h⟩
  refine ⟨mu, S, ρ, R, re, (PostG.bind (RA := RL X.K) h).mono ?_⟩
  rintro v H1 ⟨mu1, S1, d1, R1, x1, ⟨p, vs, rfl, hp, rd, _, _⟩, h1⟩
  exact hr _ mu1 S1 H1 p vs d1 Q R1 hp rd h1
end
def allB : List D → Option (List Bool)
  | [] => some []
  | .bl b :: r => (allB r).map (b :: ·)
  | _ => none
def allI : List D → Option (List Int)
  | [] => some []
  | .int b :: r => (allI r).map (b :: ·)
  | _ => none
section
variable {K : PySem.W.Frag} {C : Cls0} {mu : Nat → Addr} {n : Nat} {H : Hp}
theorem allB_rd : ∀ {ds : List D} {vs : List V} {bs : List Bool}, RDs K mu n H vs ds → allB ds = some bs → vs = bs.map V.bl
  | [], _, _, r, e => by cases r; cases e; rfl
  | .bl b :: ds, _, _, r, e => by
    cases r with
    | cons r1 r2 =>
      cases r1
      simp only [allB] at e
      cases e1 : allB ds with
      | none => rw [e1] at e; cases e
      | some bs =>
        rw [e1] at e
        cases e
        rw [allB_rd r2 e1]
        rfl
  | .non :: _, _, _, _, e => by cases e
  | .int _ :: _, _, _, _, e => by cases e
  | .str _ :: _, _, _, _, e => by cases e
  | .tup _ :: _, _, _, _, e => by cases e
  | .ref _ :: _, _, _, _, e => by cases e
  | .fl _ :: _, _, _, _, e => by cases e
theorem allI_rd : ∀ {ds : List D} {vs : List V} {bs : List Int}, RDs K mu n H vs ds → allI ds = some bs → vs = bs.map V.int
  | [], _, _, r, e => by cases r; cases e; rfl
  | .int b :: ds, _, _, r, e => by
    cases r with
    | cons r1 r2 =>
      cases r1
      simp only [allI] at e
      cases e1 : allI ds with
      | none => rw [e1] at e; cases e
      | some bs =>
        rw [e1] at e
        cases e
        rw [allI_rd r2 e1]
        rfl
  | .non :: _, _, _, _, e => by cases e
  | .bl _ :: _, _, _, _, e => by cases e
  | .str _ :: _, _, _, _, e => by cases e
  | .tup _ :: _, _, _, _, e => by cases e
  | .ref _ :: _, _, _, _, e => by cases e
  | .fl _ :: _, _, _, _, e => by cases e
end
theorem allB_map : ∀ bs : List Bool, allB (bs.map D.bl) = some bs
  | [] => rfl
  | b :: bs => by simp [allB, allB_map bs]
theorem allI_map : ∀ bs : List Int, allI (bs.map D.int) = some bs
  | [] => rfl
  | b :: bs => by simp [allI, allI_map bs]
def qAll : List D → Store → Rs D := fun ds S => match allB ds with
  | some bs => okR (.bl (bs.all id)) S
  | none => none
def qAny : List D → Store → Rs D := fun ds S => match allB ds with
  | some bs => okR (.bl (bs.any id)) S
  | none => none
def qSum : List D → Store → Rs D := fun ds S => match allI ds with
  | some ns => okR (.int ns.sum) S
  | none => none
def greatest : List Int → Option Int
  | [] => none
  | n :: r => some (r.foldl max n)
def least : List Int → Option Int
  | [] => none
  | n :: r => some (r.foldl min n)
def qMax : List D → Store → Rs D := fun ds S => match allI ds with
  | some ns => match greatest ns with
    | some m => okR (.int m) S
    | none => none
  | none => none
def qMin : List D → Store → Rs D := fun ds S => match allI ds with
  | some ns => match least ns with
    | some m => okR (.int m) S
    | none => none
  | none => none
def qTuple : List D → Store → Rs D := fun ds S => okR (.tup ds) S
def qLen : List D → Store → Rs D := fun ds S => okR (.int ds.length) S
theorem foldl_max_ge : ∀ (r : List Int) (n : Int), n ≤ r.foldl max n ∧ (∀ y ∈ r, y ≤ r.foldl max n) ∧ (r.foldl max n = n ∨ r.foldl max n ∈ r)
  | [], n => ⟨Int.le_refl _, fun _ h => absurd h List.not_mem_nil, .inl rfl⟩
  | x :: r, n => by
    obtain ⟨h1, h2, h3⟩ := foldl_max_ge r (max n x)
    simp only [List.foldl_cons]
    refine ⟨by omega, fun y hy => ?_, ?_⟩
    · rcases List.mem_cons.mp hy with rfl | hy
      · omega
      · exact h2 y hy
    · rcases h3 with h3 | h3
      · rw [h3]
        by_cases hx : x ≤ n
        · left; omega
        · right; rw [show max n x = x by omega]; exact List.mem_cons_self
      · exact .inr (List.mem_cons_of_mem _ h3)
theorem foldl_min_le : ∀ (r : List Int) (n : Int), r.foldl min n ≤ n ∧ (∀ y ∈ r, r.foldl min n ≤ y) ∧ (r.foldl min n = n ∨ r.foldl min n ∈ r)
  | [], n => ⟨Int.le_refl _, fun _ h => absurd h List.not_mem_nil, .inl rfl⟩
  | x :: r, n => by
    obtain ⟨h1, h2, h3⟩ := foldl_min_le r (min n x)
    simp only [List.foldl_cons]
    refine ⟨by omega, fun y hy => ?_, ?_⟩
    · rcases List.mem_cons.mp hy with rfl | hy
      · omega
      · exact h2 y hy
    · rcases h3 with h3 | h3
      · rw [h3]
        by_cases hx : n ≤ x
        · left; omega
        · right; rw [show min n x = x by omega]; exact List.mem_cons_self
      · exact .inr (List.mem_cons_of_mem _ h3)
theorem greatest_of {ns : List Int} {m k : Int} (h : greatest ns = some k) (hm : m ∈ ns) (hle : ∀ y, y ∈ ns → y ≤ m) : m = k := by
  cases ns with
  | nil => cases h
  | cons n r =>
    cases h
    obtain ⟨h1, h2, h3⟩ := foldl_max_ge r n
    have up : m ≤ r.foldl max n := by
      rcases List.mem_cons.mp hm with rfl | hm
      · exact h1
      · exact h2 m hm
    have dn : r.foldl max n ≤ m := by
      rcases h3 with h3 | h3
      · rw [h3]; exact hle n List.mem_cons_self
      · exact hle _ (List.mem_cons_of_mem _ h3)
    omega
theorem least_of {ns : List Int} {m k : Int} (h : least ns = some k) (hm : m ∈ ns) (hle : ∀ y, y ∈ ns → m ≤ y) : m = k := by
  cases ns with
  | nil => cases h
  | cons n r =>
    cases h
    obtain ⟨h1, h2, h3⟩ := foldl_min_le r n
    have dn : r.foldl min n ≤ m := by
      rcases List.mem_cons.mp hm with rfl | hm
      · exact h1
      · exact h2 m hm
    have up : m ≤ r.foldl min n := by
      rcases h3 with h3 | h3
      · rw [h3]; exact hle n List.mem_cons_self
      · exact hle _ (List.mem_cons_of_mem _ h3)
    omega
section
variable {K : PySem.W.Frag} {C : Cls0}
theorem sf_all : SrvF K C (rAll K) qAll := by
  intro XW mu S H p vs ds Q R hp rd q
  unfold qAll at q
  cases e : allB ds with
  | none => rw [e] at q; exact q.elim
  | some bs => rw [e] at q; exact ⟨p, bs, rfl, .of (by rw [hp, allB_rd rd e]), q.ok R (.bl _)⟩
theorem sf_any : SrvF K C (rAny K) qAny := by
  intro XW mu S H p vs ds Q R hp rd q
  unfold qAny at q
  cases e : allB ds with
  | none => rw [e] at q; exact q.elim
  | some bs => rw [e] at q; exact ⟨p, bs, rfl, .of (by rw [hp, allB_rd rd e]), q.ok R (.bl _)⟩
theorem sf_sum : SrvF K C (rSum K) qSum := by
  intro XW mu S H p vs ds Q R hp rd q
  unfold qSum at q
  cases e : allI ds with
  | none => rw [e] at q; exact q.elim
  | some bs => rw [e] at q; exact ⟨p, bs, rfl, .of (by rw [hp, allI_rd rd e]), q.ok R (.int _)⟩
theorem sf_max : SrvF K C (rMax K) qMax := by
  intro XW mu S H p vs ds Q R hp rd q
  unfold qMax at q
  cases e : allI ds with
  | none => rw [e] at q; exact q.elim
  | some bs =>
    rw [e] at q
    simp only at q
    cases e2 : greatest bs with
    | none => rw [e2] at q; exact q.elim
    | some k =>
      rw [e2] at q
      refine ⟨p, bs, rfl, .of (by rw [hp, allI_rd rd e]), ?_, fun m hm hle => ?_⟩
      · cases bs with
        | nil => cases e2
        | cons _ _ => simp
      · rw [greatest_of e2 hm hle]; exact q.ok R (.int _)
theorem sf_min : SrvF K C (rMin K) qMin := by
  intro XW mu S H p vs ds Q R hp rd q
  unfold qMin at q
  cases e : allI ds with
  | none => rw [e] at q; exact q.elim
  | some bs =>
    rw [e] at q
    simp only at q
    cases e2 : least bs with
    | none => rw [e2] at q; exact q.elim
    | some k =>
      rw [e2] at q
      refine ⟨p, bs, rfl, .of (by rw [hp, allI_rd rd e]), ?_, fun m hm hle => ?_⟩
      · cases bs with
        | nil => cases e2
        | cons _ _ => simp
      · rw [least_of e2 hm hle]; exact q.ok R (.int _)
theorem sf_tuple : SrvF K C (fun xs H Q => ∃ p ys, xs = [.ref p] ∧ ((SqL K H p ys ∧ ∀ l, H l = none → Q (.ref l) (upd H l (.tup ys))) ∨ (SqT K H p ys ∧ Q (.ref p) H))) qTuple := by
  intro XW mu S H p vs ds Q R hp rd q
  exact ⟨p, vs, rfl, .inl ⟨.of hp, fun l hl => q mu _ _ (R.new hl) (.new hl) (.tup (.inl (.inl upd_same)) (rd.mono R (.new hl)))⟩⟩
theorem sf_len : SrvF K C (rLenA K) qLen := by
  intro XW mu S H p vs ds Q R hp rd q
  exact .inl ⟨p, vs, rfl, .inl (.of hp), by rw [RDs.length rd]; exact q.ok R (.int _)⟩
/-- .. of a list of the store -/
def pRef (q : List D → Store → Rs D) : P1 := fun d S => match d with
  | .ref l => match S[l]? with
    | some (.lst ds) => q ds S
    | _ => none
  | _ => none
theorem srv_ref {r : List V → Hp → VK → Prop} {q : List D → Store → Rs D} (h : SrvF K C r q) : SrvL K C r (p1L (pRef q)) := srvL1 fun XW mu S H x d Q R rd z => by
  cases rd with
  | @ref l hl =>
    simp only [pRef] at z
    cases e : S[l]? with
    | none => rw [e] at z; exact z.elim
    | some o =>
      rw [e] at z
      cases o with
      | ins _ _ => exact z.elim
      | lst ds =>
        obtain ⟨vs, h1, hd⟩ := R.obj l _ e
        exact h XW mu S H _ vs ds Q R h1 hd z
  | _ => exact z.elim
end
end Sh

set_option Elab.async false
set_option linter.all false
set_option maxRecDepth 100000
set_option maxHeartbeats 4000000
set_option autoImplicit false
namespace Sh
open PySem PySem.Spec PyProof.Rows L2

/-! ### the store is written -/
section
variable {K : PySem.W.Frag} {C : Cls0} {mu : Nat → Addr} {S : Store} {H : Hp} {l : Nat} {vs ws : List V} {ds es : List D}
theorem sqT_put {a p : Addr} {us : List V} (hp : H p = some (.lst vs)) (z : SqT K H a us) : SqT K (upd H p (.lst ws)) a us := by
  rcases z with (z | ⟨o, z⟩) | z
  · exact .inl (.inl (by rw [upd_ne (ne_of z hp (fun q => by cases q))]; exact z))
  · exact .inl (.inr ⟨o, by rw [upd_ne (ne_of z hp (fun q => by cases q))]; exact z⟩)
  · exact .inr z
theorem fzL_put {a p : Addr} {us : List V} (hp : H p = some (.lst vs)) (z : FzL K H a us) : FzL K (upd H p (.lst ws)) a us := by
  rcases z with ⟨o, z⟩ | z
  · exact .inl ⟨o, by rw [upd_ne (ne_of z hp (fun q => by cases q))]; exact z⟩
  · exact .inr z
theorem Rel.put (R : Rel K C mu S H) (hl : l < S.length) (hp : H (mu l) = some (.lst vs)) (hw : RDs K mu S.length H ws es) : Rel K C mu (S.set l (.lst es)) (upd H (mu l) (.lst ws)) := by
  have len : (S.set l (.lst es)).length = S.length := List.length_set
  refine ⟨fun i j hi hj e => R.inj i j (by rwa [len] at hi) (by rwa [len] at hj) e, fun k o e => ?_⟩
  rw [len]
  by_cases hk : k = l
  · subst hk
    rw [List.getElem?_set_self hl] at e
    cases e
    exact ⟨ws, upd_same, hw.mv (fun _ _ z => sqT_put hp z) (fun _ _ z => fzL_put hp z) (fun _ _ => rfl) (Nat.le_refl _)⟩
  · rw [List.getElem?_set_ne (fun e => hk e.symm)] at e
    have hkl : k < S.length := (List.getElem?_eq_some_iff.mp e).1
    exact (R.obj k o e).mv (fun _ _ => rfl) (Nat.le_refl _) (fun _ _ z => sqT_put hp z) (fun _ _ z => fzL_put hp z) (by rw [upd_ne (fun q => hk (R.inj k l hkl hl q))])
theorem Ext.put {n : Nat} {o : HO} (hl : l < n) (hp : ∃ u, H (mu l) = some u) : Ext mu n H mu n (upd H (mu l) o) := by
  refine ⟨Nat.le_refl _, fun _ _ => rfl, fun a u e h => by rw [upd_ne (fun q => h l hl q.symm)]; exact e, fun a u e => ?_, fun _ h1 h2 => absurd (Nat.lt_of_lt_of_le h2 h1) (Nat.lt_irrefl _)⟩
  by_cases ha : a = mu l
  · subst ha; exact ⟨o, upd_same⟩
  · exact ⟨u, by rw [upd_ne ha]; exact e⟩
theorem RD.putr {d : D} {v : V} (hp : H (mu l) = some (.lst vs)) (r : RD K mu S.length H v d) : RD K mu S.length (upd H (mu l) (.lst ws)) v d :=
  r.mv (fun _ _ z => sqT_put hp z) (fun _ _ z => fzL_put hp z) (fun _ _ => rfl) (Nat.le_refl _)
end
section
variable {X : Cx} {C : Cls0} {W : Wx}
/-! ### subscripts -/
def pIx : P2 := fun d e S => match e with
  | .int i => match d with
    | .tup ds => match atI ds i with
      | some x => okR x S
      | none => none
    | .fl ds => match atI ds i with
      | some x => okR x S
      | none => none
    | .ref l => match S[l]? with
      | some (.lst ds) => match atI ds i with
        | some x => okR x S
        | none => none
      | _ => none
    | .str z => if z.length ≤ 16777216 then match atI z.cps.toList i with
        | some c => okR (.str ⟨#[c]⟩) S
        | none => none
      else none
    | _ => none
  | _ => none
theorem atI_rd {K : PySem.W.Frag} {mu : Nat → Addr} {n : Nat} {H : Hp} {ds : List D} {vs : List V} {i : Int} {d : D} (r : RDs K mu n H vs ds) (e : atI ds i = some d) : ∃ v, atI vs i = some v ∧ RD K mu n H v d := by
  unfold atI at e ⊢
  rw [RDs.length r]
  cases q : ixN ds.length i with
  | none => rw [q] at e; cases e
  | some j =>
    rw [q] at e
    exact r.get e
theorem sv_ix {K : PySem.W.Frag} : Srv2 K C (rIx K) pIx := by
  intro XW mu S H x y d e Q R r1 r2 q
  cases r2 with
  | int i =>
    cases r1 with
    | @tup a vs ds hs hd =>
      simp only [pIx] at q
      cases h : atI ds i with
      | none => rw [h] at q; exact q.elim
      | some z =>
        rw [h] at q
        obtain ⟨v, e1, r⟩ := atI_rd hd h
        exact .inr (.inl ⟨a, vs, i, v, rfl, rfl, hs, e1, q.ok R r⟩)
    | @fl a vs ds hs hd =>
      simp only [pIx] at q
      cases h : atI ds i with
      | none => rw [h] at q; exact q.elim
      | some z =>
        rw [h] at q
        obtain ⟨v, e1, r⟩ := atI_rd hd h
        exact .inl ⟨a, vs, i, v, rfl, rfl, hs.seq, e1, q.ok R r⟩
    | @ref l hl =>
      simp only [pIx] at q
      cases h0 : S[l]? with
      | none => rw [h0] at q; exact q.elim
      | some o =>
        rw [h0] at q
        cases o with
        | ins _ _ => exact q.elim
        | lst ds =>
          simp only at q
          obtain ⟨vs, h1, hd⟩ := R.obj l _ h0
          cases h : atI ds i with
          | none => rw [h] at q; exact q.elim
          | some z =>
            rw [h] at q
            obtain ⟨v, e1, r⟩ := atI_rd hd h
            exact .inl ⟨_, vs, i, v, rfl, rfl, .of h1, e1, q.ok R r⟩
    | str z =>
      simp only [pIx] at q
      split at q
      · rename_i hz
        cases h : atI z.cps.toList i with
        | none => rw [h] at q; exact q.elim
        | some c =>
          rw [h] at q
          exact .inr (.inr ⟨z, i, c, rfl, rfl, by rw [sizeLine_16]; exact hz, h, q.ok R (.str _)⟩)
      · exact q.elim
    | _ => exact q.elim
  | _ => exact q.elim
theorem se_ix {a b : Expr} {f g : EF D} {pos : Pos} (ha : SE X C W a f) (hb : SE X C W b g) (hs : PlainIx b := by exact fun _ _ => rfl) : SE X C W (.Subscript a b pos) (fBin pIx f g) :=
  ⟨PE.imp (pe_ix ix_seq ha.pe hb.pe hs) fun σ H Q h => bin' (e1 := a) (e2 := b) sv_ix h⟩
/-- the parts of a slice -/
abbrev OF := EF (Option Int)
def RO1 : Hp → (Nat → Addr) → Nat → Hp → Option Int → Option Int → Prop := fun _ _ _ _ a b => a = b
instance : Anti RO1 := ⟨fun _ h => h⟩
def TO' (K : PySem.W.Frag) (C : Cls0) (W : Wx) (f : OF) : TO := fun σ H Q => ∃ mu S ρ, Rel K C mu S H ∧ RE K mu S.length H σ ρ ∧ PostG K C (fun c d H' => W c d σ H') mu S.length H RO1 (f ρ S) Q
structure SO' (X : Cx) (C : Cls0) (W : Wx) (e : Option Expr) (f : OF) : Prop where
  po : PO X e (TO' X.K C W f)
theorem PO.imp {e : Option Expr} {t t' : TO} (h : PO X e t) (k : ∀ σ H Q, t' σ H Q → t σ H Q) : PO X e t' := ⟨fun pins s σ H Q I q => h.run pins s σ H Q I (k σ H Q q)⟩
def oNone : OF := fun _ S => okR none S
def oSome (f : EF D) : OF := fun ρ S => bindR (f ρ S) fun d S1 => match d with
  | .int i => okR (some i) S1
  | _ => none
theorem so_none : SO' X C W none oNone := ⟨PO.imp po_none fun σ H Q ⟨mu, S, ρ, R, re, h⟩ => h.ok R rfl⟩
theorem so_some {e : Expr} {f : EF D} (a : SE X C W e f) : SO' X C W (some e) (oSome f) := by
  refine ⟨PO.imp (po_some a.pe) ?_⟩
  rintro σ H Q ⟨mu, S, ρ, R, re, h⟩
  refine ⟨mu, S, ρ, R, re, (PostG.bind (RA := QD X.K) h).mono ?_⟩
  rintro v H1 ⟨mu1, S1, d1, R1, x1, r1, h1⟩
  cases r1 with
  | int i => exact ⟨i, rfl, h1.ok R1 rfl⟩
  | _ => exact h1.elim
def cutD {α : Type} (xs : List α) (lo hi : Option Int) : List α := (xs.drop (HT.sIx xs.length 0 lo)).take (HT.sIx xs.length xs.length hi - HT.sIx xs.length 0 lo)
theorem cut_rd {K : PySem.W.Frag} {mu : Nat → Addr} {n : Nat} {H : Hp} {ds : List D} {vs : List V} (lo hi : Option Int) (r : RDs K mu n H vs ds) : RDs K mu n H (cutV vs lo hi) (cutD ds lo hi) := by
  unfold cutV cutD
  rw [RDs.length r]
  exact (r.drop _).take _
/-- a[lo:hi]: a list's is a new list, a tuple's a tuple -/
def fSl (f : EF D) (lo hi : OF) : EF D := fun ρ S => bindR (f ρ S) fun d S1 => bindR (lo ρ S1) fun a S2 => bindR (hi ρ S2) fun b S3 => match d with
  | .tup ds => okR (.tup (cutD ds a b)) S3
  | .fl ds => okR (.ref S3.length) (S3 ++ [.lst (cutD ds a b)])
  | .ref l => match S3[l]? with
    | some (.lst ds) => okR (.ref S3.length) (S3 ++ [.lst (cutD ds a b)])
    | _ => none
  | _ => none
theorem sIx_whole {n : Nat} {lo hi : Option Int} (h : HT.sIx n 0 lo = 0 ∧ HT.sIx n n hi = n) {α : Type} (xs : List α) (hx : xs.length = n) : cutD xs lo hi = xs := by
  subst hx
  unfold cutD
  rw [h.1, h.2]
  simp
theorem new_list {K : PySem.W.Frag} {XW : Value → Option Addr → Hp → Prop} {mu : Nat → Addr} {S : Store} {H : Hp} {p : Addr} {vs : List V} {ds : List D} {Q : VK} (R : Rel K C mu S H) (hp : H p = none) (hd : RDs K mu S.length H vs ds)
    (q : PostG K C XW mu S.length H (QD K) (okR (.ref S.length) (S ++ [.lst ds])) Q) : Q (.ref p) (upd H p (.lst vs)) := by
  have R1 := R.new (o := .lst vs) hp
  have hf : ∀ l, l < S.length → mu l ≠ p := fun l hl e => by
    obtain ⟨u, hu, _⟩ := R.at hl
    rw [e, hp] at hu; cases hu
  have R2 := R1.take hf (o := .lst ds) ⟨vs, upd_same, hd.mono R (.new hp)⟩
  have x : Ext mu S.length H (muUp mu S.length p) (S.length + 1) (upd H p (.lst vs)) := (Ext.new hp).take hp
  have z : RD K (muUp mu S.length p) (S ++ [SO.lst ds]).length (upd H p (.lst vs)) (.ref (muUp mu S.length p S.length)) (.ref S.length) := .ref (by simp)
  rw [muUp_same] at z
  exact q _ _ _ R2 (by simpa using x) z
def rSlX (K : PySem.W.Frag) : V → Option Int → Option Int → Hp → VK → Prop := fun x lo hi H Q => rSlL K x lo hi H Q ∨ rSlA K x lo hi H Q
theorem se_slice {e : Expr} {lo hi : Option Expr} {f : EF D} {a b : OF} {pos p2 : Pos} (he : SE X C W e f) (hl : SO' X C W lo a) (hh : SO' X C W hi b) : SE X C W (.Subscript e (.Slice lo hi none p2) pos) (fSl f a b) := by
  refine ⟨PE.imp (pe_slice (r := rSlX X.K) (sl_list.or sl_tupA) he.pe hl.po hh.po) ?_⟩
  rintro σ H Q ⟨mu, S, ρ, R, re, h⟩
  refine ⟨mu, S, ρ, R, re, (PostG.bind (RA := QD X.K) h).mono ?_⟩
  rintro v H1 ⟨mu1, S1, d1, R1, x1, r1, h1⟩
  refine ⟨mu1, S1, ρ, R1, re.mono R x1, (PostG.bind (RA := RO1) h1).mono ?_⟩
  rintro o1 H2 ⟨mu2, S2, o1', R2, x2, rfl, h2⟩
  refine ⟨mu2, S2, ρ, R2, (re.mono R x1).mono R1 x2, (PostG.bind (RA := RO1) h2).mono ?_⟩
  rintro o2 H3 ⟨mu3, S3, o2', R3, x3, rfl, h3⟩
  have r3 := (r1.mono R1 x2).mono R2 x3
  cases r3 with
  | @tup p vs ds hs hd =>
    refine .inr ⟨p, vs, rfl, hs, fun w => ?_, fun w q hq => ?_⟩
    · have w' : HT.sIx ds.length 0 o1 = 0 ∧ HT.sIx ds.length ds.length o2 = ds.length := by rw [← RDs.length hd]; exact w
      simp only at h3
      rw [sIx_whole w' ds rfl] at h3
      exact h3.ok R3 (.tup hs hd)
    · exact h3 mu3 _ _ (R3.new hq) (.new hq) (.tup (.inl (.inl upd_same)) ((cut_rd o1 o2 hd).mono R3 (.new hq)))
  | @fl p vs ds hs hd => exact .inl ⟨p, vs, rfl, hs.seq, fun q hq => new_list R3 hq (cut_rd o1 o2 hd) h3⟩
  | @ref l hl' =>
    simp only at h3
    cases e0 : S3[l]? with
    | none => rw [e0] at h3; exact h3.elim
    | some o =>
      rw [e0] at h3
      cases o with
      | ins _ _ => exact h3.elim
      | lst ds =>
        obtain ⟨vs, hv, hd⟩ := R3.obj l _ e0
        exact .inl ⟨_, vs, rfl, .of hv, fun q hq => new_list R3 hq (cut_rd o1 o2 hd) h3⟩
  | _ => exact h3.elim
/-- a[b] = .. -/
def gIx (f g : EF D) : GF := fun d ρ S => match f ρ S with
  | some (.ok (.ref l), S1) => match g ρ S1 with
    | some (.ok (.int k), S2) => match S2[l]? with
      | some (.lst ds) => match ixN ds.length k with
        | some j => some (ρ, S2.set l (.lst (ds.set j d)))
        | none => none
      | _ => none
    | _ => none
  | _ => none
theorem sg_ix {o i : Expr} {f g : EF D} {pos : Pos} (ho : SE X C W o f) (hi : SE X C W i g) (ha : ∀ v, assign (.Subscript o i pos) X.env v = (do
      let ov ← holding [v] (eval o X.env)
      let iv ← holding [v, ov] (eval i X.env)
      standAt pos
      holding [v, ov, iv] (setItem ov iv v)
      release [v, ov, iv] []) := by intro _; rfl) : SG X C (.Subscript o i pos) (gIx f g) [] := by
  refine ⟨PG.imp (pg_sub ho.pe hi.pe set_list ha) ?_⟩
  rintro v σ H Q ⟨mu, S, ρ, d, R, re, r, h⟩
  simp only [gIx] at h
  split at h
  · exact h.elim
  · rename_i ρ2 S4 eq
    split at eq
    · rename_i l S1 e1
      split at eq
      · rename_i k S2 e2
        split at eq
        · rename_i ds e3
          split at eq
          · rename_i j e4
            cases eq
            refine ⟨mu, S, ρ, R, re, ?_⟩
            rw [e1]
            intro mu1 H1 v1 R1 x1 r1
            cases r1 with
            | ref hl1 =>
            refine ⟨mu1, S1, ρ, R1, re.mono R x1, ?_⟩
            rw [e2]
            intro mu2 H2 v2 R2 x2 r2
            cases r2 with
            | int k =>
            obtain ⟨vs, hv, hd⟩ := R2.obj l _ e3
            have hl2 : l < S2.length := (List.getElem?_eq_some_iff.mp e3).1
            rw [x2.same l hl1] at hv
            refine ⟨_, vs, k, j, rfl, rfl, hv, by rw [RDs.length hd]; exact e4, ?_⟩
            rw [← x2.same l hl1] at hv ⊢
            have rd2 := (r.mono R x1).mono R1 x2
            have R3 := R2.put hl2 hv (RDs.set rd2 j hd)
            have x3 : Ext mu2 S2.length H2 mu2 S2.length (upd H2 (mu2 l) (.lst (vs.set j v))) := .put hl2 ⟨_, hv⟩
            have len : (S2.set l (SO.lst (ds.set j d))).length = S2.length := List.length_set
            refine h mu2 _ σ R3 (by rw [len]; exact (x1.trans x2).trans x3) (by rw [len]; exact ((re.mono R x1).mono R1 x2).mono R2 x3) .refl
          · cases eq
        · cases eq
      · cases eq
    · cases eq
/-- xs.append(e) -/
def fApd (f g : EF D) : EF D := fun ρ S => match f ρ S with
  | some (.ok (.ref l), S1) => match S1[l]? with
    | some (.lst _) => bindR (g ρ S1) fun d S2 => match S2[l]? with
      | some (.lst ds) => if ds.length < 16777216 then okR .non (S2.set l (.lst (ds ++ [d]))) else none
      | _ => none
    | _ => none
  | _ => none
theorem se_append {o e : Expr} {f g : EF D} {apos cpos : Pos} (ho : SE X C W o f) (he : SE X C W e g) (hbase : attributeBase o "append" X.env (eval o X.env) = eval o X.env := by rfl)
    (hfew : ((backTo cpos (starEach [e] X.env)).all (fun x => !x.1) && (backToKw cpos (keywordEach [] X.env)).all (fun x => x.1.isSome) && decide ([e].length + ([] : List Keyword).length + (if ([] : List Keyword).isEmpty then 0 else 1) < 30)) = true := by rfl)
    (hline : (apos.endLine == cpos.line) = true := by rfl) (hs : starEach [e] X.env = (false, eval e X.env) :: starEach [] X.env := by rfl) (hplain : (backTo cpos (starEach [] X.env)).any (·.1) = false := by rfl) :
    SE X C W (.Call (.Attribute o "append" apos) [e] [] cpos) (fApd f g) := by
  refine ⟨PE.imp (pe_bm PySem.F.plainAttrs_list PySem.F.slot_list_append PySem.F.type_list_append mt_append ho.pe (pa_cons he.pe pa_nil hs) hbase hfew hline hs hplain) ?_⟩
  rintro σ H Q ⟨mu, S, ρ, R, re, h⟩
  refine ⟨mu, S, ρ, R, re, ?_⟩
  unfold fApd at h
  split at h
  · rename_i l S1 e1
    rw [e1]
    split at h
    · rename_i ds0 e0
      intro mu1 H1 v1 R1 x1 r1
      cases r1 with
      | ref hl1 =>
      obtain ⟨vs0, hv0, hd0⟩ := R1.obj l _ e0
      refine ⟨.inl ⟨rfl, vs0, .of hv0⟩, ?_⟩
      refine ⟨mu1, S1, ρ, R1, re.mono R x1, (PostG.bind (RA := QD X.K) (PostG.trans x1 h)).mono ?_⟩
      rintro v2 H2 ⟨mu2, S2, d2, R2, x2, r2, h2⟩
      split at h2
      · rename_i ds e3
        split at h2
        · rename_i hz
          obtain ⟨vs, hv, hd⟩ := R2.obj l _ e3
          have hl2 : l < S2.length := (List.getElem?_eq_some_iff.mp e3).1
          refine ⟨mu1 l, vs, v2, rfl, rfl, by rw [← x2.same l hl1]; exact hv, by rw [sizeLine_16, RDs.length hd]; exact hz, ?_⟩
          rw [← x2.same l hl1]
          have R3 := R2.put hl2 hv (hd.append (.cons r2 .nil))
          have x3 : Ext mu2 S2.length H2 mu2 S2.length (upd H2 (mu2 l) (.lst (vs ++ [v2]))) := .put hl2 ⟨_, hv⟩
          have len : (S2.set l (SO.lst (ds ++ [d2]))).length = S2.length := List.length_set
          exact h2 mu2 _ .non R3 (by rw [len]; exact x3) .non
        · exact h2.elim
      · exact h2.elim
    · exact h.elim
  · exact h.elim
/-! ### lists joined, repeated -/
def fCat (f g : EF (List D)) : EF (List D) := fun ρ S => bindR (f ρ S) fun xs S1 => bindR (g ρ S1) fun ys S2 => if xs.length + ys.length ≤ 16777216 then okR (xs ++ ys) S2 else none
/-- a new list is kept while something else is worked out -/
theorem kept_list {mu mu' : Nat → Addr} {n n' : Nat} {H H' : Hp} {p : Addr} {vs : List V} (x : Ext mu n H mu' n' H') (hp : H p = some (.lst vs)) (hf : ∀ l, l < n → mu l ≠ p) : H' p = some (.lst vs) := x.frame _ _ hp hf
theorem new_fresh {K : PySem.W.Frag} {XW : Value → Option Addr → Hp → Prop} {mu0 mu : Nat → Addr} {n0 : Nat} {S : Store} {H0 H : Hp} {vs : List V} {ds : List D} {Q : VK} {q : Addr} (R : Rel K C mu S H) (x : Ext mu0 n0 H0 mu S.length H) (hq : H q = none) (hd : RDs K mu S.length H vs ds)
    (h : PostG K C XW mu0 n0 H0 (RL K) (okR ds S) Q) : Q (.ref q) (upd H q (.lst vs)) := by
  refine h mu _ _ (R.new hq) (x.trans (.new hq)) ⟨q, vs, rfl, upd_same, hd.mono R (.new hq), fun l hl e => ?_, ?_⟩
  · obtain ⟨u, hu, _⟩ := R.at hl
    rw [e, hq] at hu; cases hu
  · cases e : H0 q with
    | none => rfl
    | some o =>
      obtain ⟨o', e'⟩ := x.keep q o e
      rw [hq] at e'; cases e'
theorem sl_cat {a b : Expr} {f g : EF (List D)} {pos : Pos} (ha : SL X C W a f) (hb : SL X C W b g) : SL X C W (.BinOp a .Add b pos) (fCat f g) := by
  refine ⟨PE.imp (pe_op op_cat ha.pe hb.pe) ?_⟩
  rintro σ H Q ⟨mu, S, ρ, R, re, h⟩
  refine ⟨mu, S, ρ, R, re, (PostG.bind (RA := RL X.K) h).mono ?_⟩
  rintro v1 H1 ⟨mu1, S1, xs, R1, x1, ⟨p, vs, rfl, hp, rd, hf, h0⟩, h1⟩
  refine ⟨mu1, S1, ρ, R1, re.mono R x1, (PostG.bind (RA := RL X.K) h1).mono ?_⟩
  rintro v2 H2 ⟨mu2, S2, ys, R2, x2, ⟨p2, ws, rfl, hp2, rd2, hf2, h02⟩, h2⟩
  by_cases hz : xs.length + ys.length ≤ 16777216
  · rw [if_pos hz] at h2
    have rd1 := rd.mono R1 x2
    refine ⟨p, p2, vs, ws, rfl, rfl, kept_list x2 hp hf, hp2, by rw [sizeLine_16, RDs.length rd1, RDs.length rd2]; exact hz, fun q hq => ?_⟩
    exact new_fresh R2 .refl hq (rd1.append rd2) h2
  · rw [if_neg hz] at h2; exact h2.elim
def fRep (f : EF (List D)) (g : EF D) : EF (List D) := fun ρ S => bindR (f ρ S) fun xs S1 => bindR (g ρ S1) fun d S2 => match d with
  | .int k => if (-(2 ^ 63) ≤ k ∧ k < 2 ^ 63) ∧ xs.length * k.toNat ≤ 16777216 then okR (List.replicate k.toNat xs).flatten S2 else none
  | _ => none
theorem rds_rep {K : PySem.W.Frag} {mu : Nat → Addr} {n : Nat} {H : Hp} {xs : List D} {vs : List V} (r : RDs K mu n H vs xs) : ∀ k : Nat, RDs K mu n H (List.replicate k vs).flatten (List.replicate k xs).flatten
  | 0 => .nil
  | k + 1 => by
    rw [List.replicate_succ, List.replicate_succ, List.flatten_cons, List.flatten_cons]
    exact r.append (rds_rep r k)
theorem sl_rep {a b : Expr} {f : EF (List D)} {g : EF D} {pos : Pos} (ha : SL X C W a f) (hb : SE X C W b g) : SL X C W (.BinOp a .Mult b pos) (fRep f g) := by
  refine ⟨PE.imp (pe_op op_rep ha.pe hb.pe) ?_⟩
  rintro σ H Q ⟨mu, S, ρ, R, re, h⟩
  refine ⟨mu, S, ρ, R, re, (PostG.bind (RA := RL X.K) h).mono ?_⟩
  rintro v1 H1 ⟨mu1, S1, xs, R1, x1, ⟨p, vs, rfl, hp, rd, hf, h0⟩, h1⟩
  refine ⟨mu1, S1, ρ, R1, re.mono R x1, (PostG.bind (RA := QD X.K) h1).mono ?_⟩
  rintro v2 H2 ⟨mu2, S2, d2, R2, x2, r2, h2⟩
  cases r2 with
  | int k =>
    simp only at h2
    by_cases hz : (-(2 ^ 63) ≤ k ∧ k < 2 ^ 63) ∧ xs.length * k.toNat ≤ 16777216
    · rw [if_pos hz] at h2
      have rd1 := rd.mono R1 x2
      refine ⟨p, k, vs, rfl, rfl, kept_list x2 hp hf, hz.1.1, hz.1.2, by rw [sizeLine_16, RDs.length rd1]; exact hz.2, fun q hq => ?_⟩
      exact new_fresh R2 .refl hq (rds_rep rd1 _) h2
    · rw [if_neg hz] at h2; exact h2.elim
  | _ => exact h2.elim
/-- list(x) -/
def fList (f : EF D) : EF (List D) := fun ρ S => bindR (f ρ S) fun d S1 => match seqOf d S1 with
  | some ds => okR ds S1
  | none => none
theorem sl_list_of {p pos : Pos} {e : Expr} {f : EF D} (hm : X.mg "list" = none) (ha : SE X C W e f) (hg : Gl X "list" := by rfl) (he : starEach [e] X.env = (false, eval e X.env) :: starEach [] X.env := by rfl) (hpl : (backTo pos (starEach [] X.env)).any (·.1) = false := by rfl) :
    SL X C W (.Call (.Name "list" p) [e] [] pos) (fList f) := by
  refine ⟨PE.imp (pe_callTy call_list_of hg hm PyProof.Rows.boot_list (pa_cons ha.pe pa_nil he) (by decide) (by decide) he hpl) ?_⟩
  rintro σ H Q ⟨mu, S, ρ, R, re, h⟩
  refine ⟨mu, S, ρ, R, re, (PostG.bind (RA := QD X.K) h).mono ?_⟩
  rintro v1 H1 ⟨mu1, S1, d1, R1, x1, r1, h1⟩
  cases e1 : seqOf d1 S1 with
  | none => rw [e1] at h1; exact h1.elim
  | some ds =>
    rw [e1] at h1
    obtain ⟨a, vs, rfl, hs, rd⟩ := seqOf_sq R1 r1 e1
    exact ⟨a, vs, rfl, hs.symm, fun q hq => new_fresh R1 .refl hq rd h1⟩
/-! ### in, not in -/
def inO (S : Store) (d e : D) : Option Bool := match pyD S 60 d, pyD S 60 e with
  | some a, some (.list as) => some (as.any fun z => PyData.eqv z a)
  | _, _ => none
def pInL : P2 := fun d e S => match inO S d e with
  | some b => okR (.bl b) S
  | none => none
def pNotInL : P2 := fun d e S => match inO S d e with
  | some b => okR (.bl (!b)) S
  | none => none
theorem inO_dp {K : PySem.W.Frag} {mu : Nat → Addr} {S : Store} {H : Hp} {d e : D} {x y : V} {b : Bool} (R : Rel K C mu S H) (r1 : RD K mu S.length H x d) (r2 : RD K mu S.length H y e) (h : inO S d e = some b) :
    ∃ p q, Dp K H x p ∧ Dp K H y (.list q) ∧ SeqAt.shaped p = true ∧ SeqAt.shaped (.list q) = true ∧ b = q.any fun z => PyData.eqv z p := by
  unfold inO at h
  split at h
  · rename_i p q e1 e2
    cases h
    obtain ⟨a1, a2, a3⟩ := pyD_dp R 60 r1 e1
    obtain ⟨b1, b2, b3⟩ := pyD_dp R 60 r2 e2
    exact ⟨p, q, a1, b1, shaped_of a2 a3 (by decide), shaped_of b2 b3 (by decide), rfl⟩
  · cases h
theorem sv_inL {K : PySem.W.Frag} : Srv2 K C (rInD K) pInL := by
  intro XW mu S H x y d e Q R r1 r2 q
  unfold pInL at q
  cases h : inO S d e with
  | none => rw [h] at q; exact q.elim
  | some b =>
    rw [h] at q
    obtain ⟨p, p', a1, a2, a3, a4, rfl⟩ := inO_dp R r1 r2 h
    exact ⟨p, p', a1, a2, a3, a4, q.ok R (.bl _)⟩
theorem sv_notInL {K : PySem.W.Frag} : Srv2 K C (rNotInD K) pNotInL := by
  intro XW mu S H x y d e Q R r1 r2 q
  unfold pNotInL at q
  cases h : inO S d e with
  | none => rw [h] at q; exact q.elim
  | some b =>
    rw [h] at q
    obtain ⟨p, p', a1, a2, a3, a4, rfl⟩ := inO_dp R r1 r2 h
    exact ⟨p, p', a1, a2, a3, a4, q.ok R (.bl _)⟩
/-- xs.index(x) of a list -/
def findEq (a : PyData) : List PyData → Nat → Option Nat
  | [], _ => none
  | z :: r, k => if PyData.eqv z a = true then some k else findEq a r (k + 1)
theorem findEq_of {a : PyData} : ∀ {ds : List PyData} {k j : Nat}, findEq a ds k = some j → ∃ i z, j = k + i ∧ ds[i]? = some z ∧ PyData.eqv z a = true ∧ ∀ m z', m < i → ds[m]? = some z' → PyData.eqv z' a = false
  | [], _, _, h => by cases h
  | z :: r, k, j, h => by
    unfold findEq at h
    split at h
    · rename_i e
      cases h
      exact ⟨0, z, rfl, rfl, e, fun m _ hm => absurd hm (Nat.not_lt_zero m)⟩
    · rename_i e
      obtain ⟨i, z1, h1, h2, h3, h4⟩ := findEq_of h
      refine ⟨i + 1, z1, by omega, by simpa using h2, h3, fun m z' hm hz => ?_⟩
      cases m with
      | zero => simp at hz; subst hz; simpa using e
      | succ m => exact h4 m z' (by omega) (by simpa using hz)
def fIdx (f g : EF D) : EF D := fun ρ S => bindR (f ρ S) fun d S1 => match d with
  | .ref l => match S1[l]? with
    | some (.lst _) => bindR (g ρ S1) fun e S2 => match pyD S2 60 (.ref l), pyD S2 60 e with
      | some (.list as), some a => match findEq a as 0 with
        | some j => okR (.int (j : Nat)) S2
        | none => none
      | _, _ => none
    | _ => none
  | _ => none
theorem se_index {o e : Expr} {f g : EF D} {apos cpos : Pos} (hu : X.A.units + 65 < cLine) (ho : SE X C W o f) (he : SE X C W e g) (hbase : attributeBase o "index" X.env (eval o X.env) = eval o X.env := by rfl)
    (hfew : ((backTo cpos (starEach [e] X.env)).all (fun x => !x.1) && (backToKw cpos (keywordEach [] X.env)).all (fun x => x.1.isSome) && decide ([e].length + ([] : List Keyword).length + (if ([] : List Keyword).isEmpty then 0 else 1) < 30)) = true := by rfl)
    (hline : (apos.endLine == cpos.line) = true := by rfl) (hs : starEach [e] X.env = (false, eval e X.env) :: starEach [] X.env := by rfl) (hplain : (backTo cpos (starEach [] X.env)).any (·.1) = false := by rfl) :
    SE X C W (.Call (.Attribute o "index" apos) [e] [] cpos) (fIdx f g) := by
  refine ⟨PE.imp (pe_bm PySem.F.plainAttrs_list PySem.F.slot_list_index PySem.F.type_list_index (mt_indexD hu) ho.pe (pa_cons he.pe pa_nil hs) hbase hfew hline hs hplain) ?_⟩
  rintro σ H Q ⟨mu, S, ρ, R, re, h⟩
  refine ⟨mu, S, ρ, R, re, (PostG.bind (RA := QD X.K) h).mono ?_⟩
  rintro v1 H1 ⟨mu1, S1, d1, R1, x1, r1, h1⟩
  cases r1 with
  | @ref l hl =>
    simp only at h1
    cases e0 : S1[l]? with
    | none => rw [e0] at h1; exact h1.elim
    | some ob =>
      rw [e0] at h1
      cases ob with
      | ins _ _ => exact h1.elim
      | lst ds0 =>
        obtain ⟨vs0, hv0, hd0⟩ := R1.obj l _ e0
        refine ⟨.inl ⟨rfl, vs0, .of hv0⟩, ?_⟩
        refine ⟨mu1, S1, ρ, R1, re.mono R x1, (PostG.bind (RA := QD X.K) h1).mono ?_⟩
        rintro v2 H2 ⟨mu2, S2, d2, R2, x2, r2, h2⟩
        split at h2
        · rename_i as a e1 e2
          cases e3 : findEq a as 0 with
          | none => rw [e3] at h2; exact h2.elim
          | some j =>
            rw [e3] at h2
            obtain ⟨i, z, rfl, q1, q2, q3⟩ := findEq_of e3
            have rl : RD X.K mu2 S2.length H2 (.ref (mu1 l)) (.ref l) := by
              rw [← x2.same l hl]
              exact .ref (Nat.lt_of_lt_of_le hl x2.le)
            obtain ⟨a1, a2, a3⟩ := pyD_dp R2 60 rl e1
            obtain ⟨b1, b2, b3⟩ := pyD_dp R2 60 r2 e2
            refine ⟨mu1 l, v2, a, as, i, z, rfl, rfl, a1, b1, shaped_of a2 a3 (by decide), shaped_of b2 b3 (by decide), q1, q2, q3, ?_⟩
            rw [Nat.zero_add] at h2
            exact h2.ok R2 (.int _)
        · exact h2.elim
  | _ => exact h1.elim
end
end Sh

set_option Elab.async false
set_option linter.all false
set_option maxRecDepth 100000
set_option maxHeartbeats 4000000
set_option autoImplicit false
namespace Sh
open PySem PySem.Spec PyProof.Rows L2

/-! ### kinds -/
def kindO (d : D) (S : Store) : Option String := match d with
  | .non => some "NoneType"
  | .bl _ => some "bool"
  | .int _ => some "int"
  | .str _ => some "str"
  | .tup _ => some "tuple"
  | .fl _ => some "list"
  | .ref l => match S[l]? with
    | some (.lst _) => some "list"
    | _ => none
section
variable {K : PySem.W.Frag} {C : Cls0} {mu : Nat → Addr} {S : Store} {H : Hp}
theorem sqT_tyx {a : Addr} {vs : List V} (h : SqT K H a vs) : TyX K H (.ref a) (.type "tuple") := by
  rcases h with (h | ⟨o, h⟩) | ⟨o, its, n, hk, hc, _⟩
  · exact .base (.tup h)
  · exact .fTuple h
  · exact .kTuple hk hc
theorem fzL_tyx {a : Addr} {vs : List V} (h : FzL K H a vs) : TyX K H (.ref a) (.type "list") := by
  rcases h with ⟨o, h⟩ | ⟨o, its, n, hk, hc, _⟩
  · exact .base (.frz h)
  · exact .kList hk hc
theorem kind_tyx {d : D} {v : V} {T : String} (R : Rel K C mu S H) (r : RD K mu S.length H v d) (e : kindO d S = some T) : TyX K H v (.type T) ∧ TyB K H v T := by
  cases r with
  | non => cases e; exact ⟨.base .non, .non⟩
  | bl b => cases e; exact ⟨.base (.bl b), .bl b⟩
  | int i => cases e; exact ⟨.base (.int i), .int i⟩
  | str x => cases e; exact ⟨.base (.str x), .str x⟩
  | tup hs hd => cases e; exact ⟨sqT_tyx hs, .tup hs⟩
  | fl hs hd => cases e; exact ⟨fzL_tyx hs, .lst hs.seq⟩
  | @ref l hl =>
    simp only [kindO] at e
    cases e0 : S[l]? with
    | none => rw [e0] at e; cases e
    | some o =>
      rw [e0] at e
      cases o with
      | ins _ _ => cases e
      | lst ds =>
        cases e
        obtain ⟨vs, hv, _⟩ := R.obj l _ e0
        exact ⟨.base (.lst hv), .lst (.of hv)⟩
end
/-- isinstance(x, T) -/
def pIsi (T : String) : P1 := fun d S => match kindO d S with
  | some t => match kitB t T with
    | some b => okR (.bl b) S
    | none => none
  | none => none
section
variable {X : Cx} {C : Cls0} {W : Wx}
theorem se_isi {p p2 pos : Pos} {e : Expr} {f : EF D} {T : Str} {TS : String} (hm : X.mg "isinstance" = none) (hmT : X.mg T = none) (hT : bootBuiltins T = some (.type TS)) (ha : SE X C W e f) (hg : Gl X "isinstance" := by rfl) (hgT : Gl X T := by rfl)
    (hnT : T ≠ "__name__" := by decide) (hdT : (T == ("__debug__" : Str)) = false := by decide) (he : starEach [e, .Name T p2] X.env = (false, eval e X.env) :: starEach [.Name T p2] X.env := by rfl) (he2 : starEach [.Name T p2] X.env = (false, eval (.Name T p2) X.env) :: starEach [] X.env := by rfl)
    (hpl : (backTo pos (starEach [.Name T p2] X.env)).any (·.1) = false := by rfl) : SE X C W (.Call (.Name "isinstance" p) [e, .Name T p2] [] pos) (fUn (pIsi TS) f) := by
  have pT : PE X (.Name T p2) (tC (.ty TS)) := pe_bltn hgT hmT hT rfl hnT hdT
  refine ⟨PE.imp (pe_callB call_isi hg hm PyProof.Rows.boot_isinstance (pa_cons ha.pe (pa_cons pT pa_nil he2) he) (by decide) (by decide) he hpl) ?_⟩
  rintro σ H Q ⟨mu, S, ρ, R, re, h⟩
  refine ⟨mu, S, ρ, R, re, (PostG.bind (RA := QD X.K) h).mono ?_⟩
  rintro v H1 ⟨mu1, S1, d1, R1, x1, r1, h1⟩
  unfold pIsi at h1
  cases e1 : kindO d1 S1 with
  | none => rw [e1] at h1; exact h1.elim
  | some t =>
    rw [e1] at h1
    simp only at h1
    cases e2 : kitB t TS with
    | none => rw [e2] at h1; exact h1.elim
    | some b =>
      rw [e2] at h1
      exact ⟨v, .ty TS, .type t, .type TS, b, rfl, .ty TS, (kind_tyx R1 r1 e1).1, kit_ty e2, h1.ok R1 (.bl b)⟩
/-- type(x) is T -/
def pTyIs (T : String) : P1 := fun d S => match kindO d S with
  | some t => okR (.bl (decide (t = T))) S
  | none => none
theorem tyIs_read {e : Expr} {f : EF D} {TS : String} {σ : L2.St} {H : Hp} {Q : VK} (h : TE' X.K C W (fUn (pTyIs TS) f) σ H Q) :
    tOp (fun x y H Q => ∃ a b, x = .ty a ∧ y = .ty b ∧ Q (.bl (decide (a = b))) H) (tCB (rTyp X.K) (tCons (TE' X.K C W f) tNil)) (tC (.ty TS)) σ H Q := by
  obtain ⟨mu, S, ρ, R, re, h⟩ := h
  refine ⟨mu, S, ρ, R, re, (PostG.bind (RA := QD X.K) h).mono ?_⟩
  rintro v H1 ⟨mu1, S1, d1, R1, x1, r1, h1⟩
  unfold pTyIs at h1
  cases e1 : kindO d1 S1 with
  | none => rw [e1] at h1; exact h1.elim
  | some t =>
    rw [e1] at h1
    exact ⟨v, t, rfl, (kind_tyx R1 r1 e1).2, t, TS, rfl, rfl, h1.ok R1 (.bl _)⟩
theorem se_tyIs {p p2 pos pos2 : Pos} {e : Expr} {f : EF D} {T : Str} {TS : String} (hm : X.mg "type" = none) (hmT : X.mg T = none) (hT : bootBuiltins T = some (.type TS)) (ha : SE X C W e f) (hg : Gl X "type" := by rfl) (hgT : Gl X T := by rfl)
    (hnT : T ≠ "__name__" := by decide) (hdT : (T == ("__debug__" : Str)) = false := by decide) (he : starEach [e] X.env = (false, eval e X.env) :: starEach [] X.env := by rfl)
    (hpl : (backTo pos (starEach [] X.env)).any (·.1) = false := by rfl) (hmk : behindInMarks .Is (.Name T p2) = false := by first | exact nomark _ | rfl) : SE X C W (.Compare (.Call (.Name "type" p) [e] [] pos) [.Is] [.Name T p2] pos2) (fUn (pTyIs TS) f) := by
  have pT : PE X (.Name T p2) (tC (.ty TS)) := pe_bltn hgT hmT hT rfl hnT hdT
  exact ⟨PE.imp (pe_cmpR op_isTyB (pe_callTy call_type1 hg hm PyProof.Rows.boot_type (pa_cons ha.pe pa_nil he) (by decide) (by decide) he hpl) pT hmk) fun σ H Q h => tyIs_read (e := e) h⟩
theorem st_tyIs {p p2 pos pos2 : Pos} {e : Expr} {f : EF D} {T : Str} {TS : String} (hm : X.mg "type" = none) (hmT : X.mg T = none) (hT : bootBuiltins T = some (.type TS)) (ha : SE X C W e f) (hg : Gl X "type" := by rfl) (hgT : Gl X T := by rfl)
    (hnT : T ≠ "__name__" := by decide) (hdT : (T == ("__debug__" : Str)) = false := by decide) (he : starEach [e] X.env = (false, eval e X.env) :: starEach [] X.env := by rfl)
    (hpl : (backTo pos (starEach [] X.env)).any (·.1) = false := by rfl) (hmk : behindInMarks .Is (.Name T p2) = false := by first | exact nomark _ | rfl) : ST X C W (.Compare (.Call (.Name "type" p) [e] [] pos) [.Is] [.Name T p2] pos2) (fT (fUn (pTyIs TS) f)) := by
  have pT : PE X (.Name T p2) (tC (.ty TS)) := pe_bltn hgT hmT hT rfl hnT hdT
  refine ⟨PT.imp (pt_cmpR op_isTyB (pe_callTy call_type1 hg hm PyProof.Rows.boot_type (pa_cons ha.pe pa_nil he) (by decide) (by decide) he hpl) pT hmk) ?_⟩
  rintro σ H Q ⟨mu, S, ρ, R, re, h⟩
  exact tyIs_read (e := e) ⟨mu, S, ρ, R, re, asB_post h⟩
/-! ### repr -/
def reprO (d : D) (S : Store) : Option Str := match pyD S 60 d with
  | some a => if a.showable = true ∧ a.hasDict = false ∧ a.shown.length ≤ 16777216 then some a.shown else none
  | none => none
def pRepr : P1 := fun d S => match reprO d S with
  | some x => okR (.str x) S
  | none => none
def rReprD (K : PySem.W.Frag) : List V → Hp → VK → Prop := fun xs H Q => ∃ x d, xs = [x] ∧ Dp K H x d ∧ d.showable = true ∧ d.hasDict = false ∧ d.depth ≤ 60 ∧ d.shown.length ≤ sizeLine ∧ Q (.str d.shown) H
theorem call_reprD {k : Nat} (hr : RoomG k X.A) : CallR X (.builtin "repr") (rReprD X.K) := by
  intro pins s σ H vs us Q I r h
  obtain ⟨x, d, rfl, hd, hs, hn, hdp, hz, q⟩ := h
  obtain ⟨u, rfl, rx⟩ := vals1 r
  obtain ⟨as, rd⟩ := Dp.reads I d x u hd rx
  have un := hr.room.un
  cases rd with
  | none => exact P.repr_of_none ⟨.str "None", H, I.tok _, ⟨_, rfl⟩, by simpa [PyData.shown] using q⟩
  | bool b =>
    refine P.repr_of_bool ⟨.str _, H, I.tok _, ⟨_, rfl⟩, ?_⟩
    simpa [PyData.shown] using q
  | int i t =>
    have hi : i.natAbs.log2 < 1920 := by simpa [PyData.showable] using hs
    refine P.repr_of_int hi ⟨.str _, H, I.tok _, ⟨_, rfl⟩, ?_⟩
    simpa [PyData.shown] using q
  | str z t =>
    refine P.repr_of_str ⟨.str _, H, I.tok _, ⟨_, rfl⟩, ?_⟩ (by simpa [PyData.shown] using hz)
    simpa [PyData.shown] using q
  | list h1 h2 h3 h4 =>
    exact repr_of_reads' (.list h1 h2 h3 h4) hs (PyData.noDict_hsm hn) hr.gd (by omega) (fun _ _ e => e) (fun h' u' tk hk => ⟨.str _, H, I.kept hk, ⟨_, rfl⟩, q⟩) hz
  | tuple h1 h2 h3 h4 =>
    exact repr_of_reads' (.tuple h1 h2 h3 h4) hs (PyData.noDict_hsm hn) hr.gd (by omega) (fun _ _ e => e) (fun h' u' tk hk => ⟨.str _, H, I.kept hk, ⟨_, rfl⟩, q⟩) hz
  | dict _ _ _ _ _ => cases hd
theorem sv_repr {K : PySem.W.Frag} : SrvL K C (rReprD K) (p1L pRepr) := srvL1 fun XW mu S H x d Q R r q => by
  unfold pRepr reprO at q
  cases e : pyD S 60 d with
  | none => rw [e] at q; exact q.elim
  | some a =>
    rw [e] at q
    simp only at q
    by_cases hz : a.showable = true ∧ a.hasDict = false ∧ a.shown.length ≤ 16777216
    · rw [if_pos hz] at q
      obtain ⟨h1, h2, h3⟩ := pyD_dp R 60 r e
      exact ⟨x, a, rfl, h1, hz.1, hz.2.1, h3, by rw [sizeLine_16]; exact hz.2.2, q.ok R (.str _)⟩
    · rw [if_neg hz] at q; exact q.elim
end
/-! ### errors of the program's own -/
/-- the classes, where the module has them -/
def CM (mg : Str → Option Value) : Cls0 := fun x A => mg x = some (.ref A)
/-- __init__(self, f): self.f = f -/
def spI (K : PySem.W.Frag) (f : Str) : Sp := fun vs H Q _ => ∃ (a Ca : Addr) (v : V), vs = [.ref a, v] ∧ OexC K Ca ∧ PySem.W.findIn K (.ref Ca) f = some none ∧ H a = some (exo a Ca none) ∧
  ∀ dx, H dx = none → dx ≠ a → Q .non (upd (upd H dx (exd dx [(f, v)])) a (exo a Ca (some dx)))
theorem exc_init {P : Program} {w : World} {K : PySem.W.Frag} {mg : Str → Option Value} {base : Heap} {qual f : Str} {st : Stmt} {fI : Addr} {fd : FuncData} {p1 p2 p3 p4 : Pos} (F : Fun K "__init__" qual st fI fd) (Sc : FnScope ["self", f] ["self", f] (defScope st))
    (hb : defBody st = [.Assign [.Attribute (.Name "self" p1) f p2] (.Name f p3) p4]) (hd : (f == ("__debug__" : Str)) = false := by decide) (hcd : (f == ("__classdict__" : Str)) = false := by decide) : FnOk P w K mg base CX0 1 fI fd ["self", f] (spI K f) := by
  refine F.ok Sc (fun vs H Q E h => ?_) (fun cdv A outer s H vs Q E hr h => ?_)
  · obtain ⟨a, Ca, v, rfl, _⟩ := h
    rfl
  · obtain ⟨a, Ca, v, rfl, T, hno, ha, q⟩ := h
    rw [hb]
    have v0 : (defScope st).names.lookup ("self" : Str) = some NameKind.local ∨ (defScope st).names.lookup ("self" : Str) = some NameKind.cell ∨ (defScope st).names.lookup ("self" : Str) = some NameKind.free := (Sc.par "self" (by simp)).elim .inl fun z => .inr (.inl z)
    have v1 : (defScope st).names.lookup f = some NameKind.local ∨ (defScope st).names.lookup f = some NameKind.cell ∨ (defScope st).names.lookup f = some NameKind.free := (Sc.par f (by simp)).elim .inl fun z => .inr (.inl z)
    refine ⟨_, pss_one (ps_ost (pe_var (i := 0) rfl v0) (pe_var (i := 1) rfl v1 hd hcd)), ?_⟩
    exact ⟨v, rfl, .ref a, rfl, a, Ca, rfl, T, hno, .inl ⟨ha, fun dx h1 h2 => q dx h1 h2⟩⟩
structure Exc1 (P : Program) (w : World) (K : PySem.W.Frag) (mg : Str → Option Value) (base : Heap) (x f : Str) : Prop where
  ex : ∃ (A fI : Addr) (fd : FuncData), mg x = some (.ref A) ∧ OexC K A ∧ XfC K A ∧ PySem.W.findIn K (.ref A) f = some none ∧ PySem.W.findIn K (.ref A) "__init__" = some (some (.ref fI)) ∧ PySem.W.typeIn K (.ref fI) = some (.type "function") ∧
    FnOk P w K mg base CX0 1 fI fd ["self", f] (spI K f) ∧ Binds K fd ["self", f] []
section
variable {X : Cx} {W : Wx}
def sRaise (x f : Str) (g : EF D) : SF := fun ρ S => toS ρ (g ρ S) fun d S1 => some (.exn (x, [(f, d)]) ρ, S1)
theorem del_new {H : Hp} {a d : Addr} {C : Addr} {o1 o2 o3 : HO} {o : HO} (ha : H a = none) (hda : d ≠ a) : upd (del (upd (upd (upd H a o1) d o2) a o3) a) d o = upd H d o := by
  funext b
  by_cases hb : b = d
  · subst hb; rw [upd_same, upd_same]
  · rw [upd_ne hb, upd_ne hb]
    by_cases hb2 : b = a
    · subst hb2; rw [del_same, ha]
    · rw [del_ne hb2, upd_ne hb2, upd_ne hb, upd_ne hb2]
theorem ss_raise {x f : Str} {p pos pos2 : Pos} {e : Expr} {g : EF D} {k : Nat} (hc : X.calm = true) (T : Exc1 X.prog X.w X.K X.mg X.base x f) (hr : RoomG (k + 2) X.A) (tk : Takes X W) (ha : SE X (CM X.mg) W e g) (hg : Gl X x := by rfl)
    (hdb : (x == ("__debug__" : Str)) = false := by decide) (he : starEach [e] X.env = (false, eval e X.env) :: starEach [] X.env := by rfl) (hpl : (backTo pos (starEach [] X.env)).any (·.1) = false := by rfl) : SS X (CM X.mg) W (.Raise (some (.Call (.Name x p) [e] [] pos)) none pos2) (sRaise x f g) := by
  obtain ⟨A, fI, fd, gA, oC, xC, hno, iC, tI, F1, bI⟩ := T.ex
  refine ⟨PS.imp (ps_raise hc tk (pmk_oex (ds := []) (dvs := []) oC iC tI F1 (hr.room.mono (by omega)) bI .nil pass0 hg gA (pa_cons ha.pe pa_nil he) hdb he hpl)) ?_⟩
  rintro Dn σ H ⟨mu, S, ρ, R, re, h⟩
  refine ⟨mu, S, ρ, R, re, (PostS.bind (RA := QD X.K) R re h).mono ?_⟩
  rintro v H1 ⟨mu1, S1, d1, R1, x1, re1, r1, h1⟩
  refine ⟨by simp, fun a hn => ⟨a, A, v, rfl, oC, hno, upd_same, fun dx h2 h3 => ⟨rfl, dx, [(f, v)], upd_same, ?_, ?_, ?_⟩⟩⟩
  · rw [upd_ne h3, upd_same]
  · rw [upd_ne h3] at h2; exact h2
  · have hdx : H1 dx = none := by rw [upd_ne h3] at h2; exact h2
    rw [del_new (C := A) hn h3]
    exact h1 mu1 _ A dx [(f, v)] σ (R1.new hdx) (.new hdx) gA upd_same (.cons (r1.mono R1 (.new hdx)) .nil) (re1.mono R1 (.new hdx))
end
/-! ### try: .. except X as e: return .. -/
/-- the caught error -/
def XAt (K : PySem.W.Frag) (C : Cls0) (mu : Nat → Addr) (n : Nat) (H : Hp) (cls : Value) (d : Option Addr) (e : Ex) : Prop := ∃ A dx vs, cls = .ref A ∧ d = some dx ∧ C e.1 A ∧ H dx = some (.xd vs) ∧ RFs K mu n H vs e.2
theorem XAt.mono {K : PySem.W.Frag} {C : Cls0} {mu mu' : Nat → Addr} {n' : Nat} {S : Store} {H H' : Hp} {cls : Value} {d : Option Addr} {e : Ex} (h : XAt K C mu S.length H cls d e) (R : Rel K C mu S H) (x : Ext mu S.length H mu' n' H') : XAt K C mu' n' H' cls d e := by
  obtain ⟨A, dx, vs, h1, h2, h3, h4, h5⟩ := h
  refine ⟨A, dx, vs, h1, h2, h3, x.frame _ _ h4 fun l hl q => ?_, h5.mono R x⟩
  have r := R.obj l S[l] (List.getElem?_eq_getElem hl)
  rw [q] at r
  cases e : S[l] with
  | lst ds => rw [e] at r; obtain ⟨us, e1, _⟩ := r; rw [h4] at e1; cases e1
  | ins c fs => rw [e] at r; obtain ⟨B, dy, us, _, e1, _⟩ := r; rw [h4] at e1; cases e1
def TX' (K : PySem.W.Frag) (C : Cls0) (i : Nat) (a : Addr) (cls : Value) (d : Option Addr) (f : Ex → EF D) : TE := fun σ H Q => ∃ mu S ρ e, Rel K C mu S H ∧ RE K mu S.length H σ ρ ∧ σ[i]? = some (some (.ref a)) ∧ XAt K C mu S.length H cls d e ∧
  PostG K C (fun _ _ _ => False) mu S.length H (QD K) (f e ρ S) Q
def TXA' (K : PySem.W.Frag) (C : Cls0) (i : Nat) (a : Addr) (cls : Value) (d : Option Addr) (f : Ex → EF (List D)) : TA := fun σ H Q => ∃ mu S ρ e, Rel K C mu S H ∧ RE K mu S.length H σ ρ ∧ σ[i]? = some (some (.ref a)) ∧ XAt K C mu S.length H cls d e ∧
  PostG K C (fun _ _ _ => False) mu S.length H (QDs K) (f e ρ S) Q
structure SX (X : Cx) (C : Cls0) (i : Nat) (ex : Expr) (f : Ex → EF D) : Prop where
  pe : ∀ (a : Addr) (oe : Obj) (cls : Value) (d : Option Addr) (pn : List (Addr × Obj)), Zc cls d oe → (∃ vs, oe.data = .fields vs) → PE (X.suite a ((a, oe) :: pn)) ex (TX' X.K C i a cls d f)
structure SXA (X : Cx) (C : Cls0) (i : Nat) (es : List Expr) (f : Ex → EF (List D)) : Prop where
  pa : ∀ (a : Addr) (oe : Obj) (cls : Value) (d : Option Addr) (pn : List (Addr × Obj)), Zc cls d oe → (∃ vs, oe.data = .fields vs) → PA (X.suite a ((a, oe) :: pn)) es (TXA' X.K C i a cls d f)
section
variable {X : Cx} {C : Cls0} {W : Wx} {i : Nat}
theorem sx_of {ex : Expr} {f : EF D} (h : ∀ (a : Addr) (oe : Obj) (pn : List (Addr × Obj)), SE (X.suite a ((a, oe) :: pn)) C W0 ex f) : SX X C i ex (fun _ => f) :=
  ⟨fun a oe cls d pn _ _ => PE.imp (h a oe pn).pe fun σ H Q ⟨mu, S, ρ, e, R, re, _, _, q⟩ => ⟨mu, S, ρ, R, re, q⟩⟩
theorem sxa_nil : SXA X C i [] (fun _ => fNil) := ⟨fun a oe cls d pn _ _ => PA.imp pa_nil fun σ H Q ⟨mu, S, ρ, e, R, re, _, _, q⟩ => q.ok R .nil⟩
theorem sxa_cons {e : Expr} {es : List Expr} {f : Ex → EF D} {g : Ex → EF (List D)} (h1 : SX X C i e f) (h2 : SXA X C i es g) (hs : ∀ (a : Addr) (oe : Obj) (pn : List (Addr × Obj)), starEach (e :: es) (X.suite a ((a, oe) :: pn)).env = (false, eval e (X.suite a ((a, oe) :: pn)).env) :: starEach es (X.suite a ((a, oe) :: pn)).env := by intro _ _ _; rfl) :
    SXA X C i (e :: es) (fun x => fCons (f x) (g x)) := by
  refine ⟨fun a oe cls d pn z1 z2 => PA.imp (pa_cons (h1.pe a oe cls d pn z1 z2) (h2.pa a oe cls d pn z1 z2) (hs a oe pn)) ?_⟩
  rintro σ H Q ⟨mu, S, ρ, x, R, re, hi, hx, h⟩
  refine ⟨mu, S, ρ, x, R, re, hi, hx, (PostG.bind (RA := QD X.K) h).mono ?_⟩
  rintro v H1 ⟨mu1, S1, d1, R1, x1, r1, h1⟩
  refine ⟨mu1, S1, ρ, x, R1, re.mono R x1, hi, hx.mono R x1, (PostG.bind (RA := QDs X.K) h1).mono ?_⟩
  rintro vs H2 ⟨mu2, S2, d2, R2, x2, r2, h2⟩
  exact h2.ok R2 (.cons (r1.mono R1 x2) r2)
theorem sx_tup {es : List Expr} {pos : Pos} {x1} {g : Ex → EF (List D)} (h : SXA X C i es g) : SX X C i (.Tuple es x1 pos) (fun x => fTup (g x)) := by
  refine ⟨fun a oe cls d pn z1 z2 => PE.imp (pe_tup (h.pa a oe cls d pn z1 z2)) ?_⟩
  rintro σ H Q ⟨mu, S, ρ, x, R, re, hi, hx, h⟩
  refine ⟨mu, S, ρ, x, R, re, hi, hx, (PostG.bind (RA := QDs X.K) h).mono ?_⟩
  rintro vs H1 ⟨mu1, S1, d1, R1, x1, r1, h1⟩
  split at h1
  · rename_i hl
    exact ⟨by rw [RDs.length r1, sizeLine_16]; exact hl, fun p hp => h1 mu1 _ _ (R1.new hp) (.new hp) (.tup (.inl (.inl upd_same)) (r1.mono R1 (.new hp)))⟩
  · exact h1.elim
/-- e.f -/
def fFld (names : List Str) (f : Str) : Ex → EF D := fun x _ S => if x.1 ∈ names then match x.2.lookup f with
    | some d => okR d S
    | none => none
  else none
theorem lookup_rf {K : PySem.W.Frag} {mu : Nat → Addr} {n : Nat} {H : Hp} {f : Str} : ∀ {ds : List (Str × D)} {vs : List (Str × V)} {d : D}, RFs K mu n H vs ds → ds.lookup f = some d → ∃ v, vs.lookup f = some v ∧ RD K mu n H v d
  | [], _, _, _, e => by cases e
  | (g, d0) :: ds, _, d, r, e => by
    cases r with
    | cons r1 r2 =>
      by_cases hg : f = g
      · subst hg
        simp [List.lookup] at e
        subst e
        exact ⟨_, by simp [List.lookup], r1⟩
      · have hb : (f == g) = false := by simpa using hg
        simp only [List.lookup, hb] at e ⊢
        exact lookup_rf r2 e
theorem sx_fld {n f : Str} {p pos : Pos} {names : List Str} (hT : ∀ x ∈ names, ∀ A, C x A → XfC X.K A ∧ PySem.W.findIn X.K (.ref A) f = some none) (hN : X.N[i]? = some n := by rfl) (hv : Vis X.env.scope n := by first | exact Or.inl rfl | exact Or.inr (Or.inl rfl) | exact Or.inr (Or.inr rfl)) (hd : (n == ("__debug__" : Str)) = false := by decide)
    (hcd : (n == ("__classdict__" : Str)) = false := by decide) (hb : attributeBase (.Name n p) f X.env (eval (.Name n p) X.env) = eval (.Name n p) X.env := by rfl) : SX X C i (.Attribute (.Name n p) f pos) (fFld names f) := by
  refine ⟨fun a oe cls d pn z1 z2 => ?_⟩
  constructor
  rintro pins s σ H Q I ⟨mu, S, ρ, x, R, re, hi, hx, h⟩
  obtain ⟨A, dx, vs, rfl, rfl, hC, hdx, rf⟩ := hx
  unfold fFld at h
  by_cases hm : x.1 ∈ names
  · rw [if_pos hm] at h
    cases e : x.2.lookup f with
    | none => rw [e] at h; exact h.elim
    | some d =>
      rw [e] at h
      obtain ⟨v, hv1, r⟩ := lookup_rf rf e
      obtain ⟨t1, t2⟩ := hT x.1 hm A hC
      exact (pe_xf (X := X) t1 t2 z1 z2 (pe_var (X := X.suite a ((a, oe) :: pn)) hN hv hd hcd) hb).run pins s σ H Q I ⟨.ref a, hi, rfl, rfl, dx, vs, v, rfl, hdx, hv1, h.ok R r⟩
  · rw [if_neg hm] at h; exact h.elim
/-- which classes the clause takes, of those that may come -/
def sTry (b : SF) (mt : List (Str × Bool)) (i : Nat) (f : Ex → EF D) : SF := fun ρ S => match b ρ S with
  | some (.exn e ρ', S') => match mt.lookup e.1 with
    | some true => if i < ρ'.length then match f e (ρ'.set i none) S' with
      | some (.ok d, S2) => some (.ret d, S2)
      | _ => none
      else none
    | some false => some (.exn e ρ', S')
    | none => none
  | r => r
theorem ss_try {x n : Str} {c : Addr} {body : List Stmt} {ex : Expr} {np pos pos' pos2 : Pos} {b : SF} {mt : List (Str × Bool)} {f : Ex → EF D} (hs : X.stack = X.env :: X.outer) (hf : X.env.frame = some X.env.locals) (hN : X.N.Nodup) (hgx : X.mg x = some (.ref c)) (tk : Takes X W)
    (hmt : ∀ y v, mt.lookup y = some v → ∀ A, C y A → PySem.W.exmOne X.K (.ref A) (.ref c) = some v)
    (hb : ∀ (W' : Wx) (pn : List (Addr × Obj)) (xe : Value → Shared → Prop), Takes (X.tr pn xe) W' → PassesOwn (model X.prog X.w) X.A X.env xe → SB (X.tr pn xe) C W' body b) (hsu : SX X C i ex f)
    (hi : X.N[i]? = some n := by rfl) (hln : X.env.kindOf n = some .local := by rfl) (hg : Gl X x := by rfl) (hdb : (x == ("__debug__" : Str)) = false := by decide) :
    SS X C W (.Try body [.ExceptHandler (some (.Name x np)) (some n) [.Return (some ex) pos2] pos'] [] [] pos) (sTry b mt i f) := by
  refine ⟨PS.imp (ps_try_as (tb := fun W' => TS' X.K C W' b) (ts := fun a cls d => tRet (TX' X.K C i a cls d f)) (Wout := W) hs hf hN hi hln ⟨hg, hdb, .inl hgx⟩ tk (fun W' pn xe tk' po => (hb W' pn xe tk' po).pss) (fun a oe cls d pn z1 z2 => pss_one (ps_ret (hsu.pe a oe cls d pn z1 z2)))) ?_⟩
  rintro Dn σ H ⟨mu, S, ρ, R, re, h⟩
  refine ⟨mu, S, ρ, R, re, ?_⟩
  unfold sTry at h
  cases e : b ρ S with
  | none => rw [e] at h; exact h.elim
  | some p =>
    obtain ⟨fl, S'⟩ := p
    rw [e] at h
    cases fl with
    | nx ρ' => exact h
    | ret d => exact h
    | bk ρ' => exact h
    | ct ρ' => exact h
    | exn er ρ' =>
      intro mu' H' A dx vs σ' R' y hC hd rf re'
      simp only at h
      cases e1 : mt.lookup er.1 with
      | none => rw [e1] at h; exact h.elim
      | some v =>
        rw [e1] at h
        refine ⟨v, hmt _ _ e1 A hC, fun hv a ha => ?_, fun hv => ?_⟩
        · subst hv
          simp only at h
          have re2 : RE X.K mu' S'.length H' (σ'.set i (some (.ref a))) (ρ'.set i none) := by
            refine ⟨by simp [re'.len], fun j d q => ?_⟩
            by_cases hj : i = j
            · subst hj
              by_cases hl : i < ρ'.length
              · rw [List.getElem?_set_self hl] at q; cases q
              · rw [List.getElem?_eq_none (by simpa using hl)] at q; cases q
            · rw [List.getElem?_set_ne hj] at q
              obtain ⟨w, q1, q2⟩ := re'.get j d q
              exact ⟨w, by rw [List.getElem?_set_ne hj]; exact q1, q2⟩
          by_cases hl : i < ρ'.length
          · rw [if_pos hl] at h
            refine ⟨mu', S', ρ'.set i none, er, R', re2, List.getElem?_set_self (re'.len ▸ hl), ⟨A, dx, vs, rfl, rfl, hC, hd, rf⟩, ?_⟩
            cases e2 : f er (ρ'.set i none) S' with
            | none => rw [e2] at h; exact h.elim
            | some q2 =>
              obtain ⟨z, S2⟩ := q2
              rw [e2] at h
              cases z with
              | error _ => exact h.elim
              | ok d => exact fun mu2 H2 v2 R2 y2 r2 => h mu2 H2 v2 R2 (y.trans y2) r2
          · rw [if_neg hl] at h; exact h.elim
        · subst hv
          exact h mu' H' A dx vs σ' R' y hC hd rf re'
end
end Sh

set_option Elab.async false
set_option linter.all false
set_option maxRecDepth 100000
set_option maxHeartbeats 4000000
set_option autoImplicit false
namespace Sh
open PySem PySem.Spec PyProof.Rows L2

/-! ### zip, enumerate -/
abbrev Chk := List (Nat × List D)
def listSrc (d : D) (S : Store) : Option (List D × Chk) := match d with
  | .fl ds => some (ds, [])
  | .ref l => match S[l]? with
    | some (.lst ds) => some (ds, [(l, ds)])
    | _ => none
  | _ => none
/-- what is walked, as long as it stands -/
def Stands (K : PySem.W.Frag) (C : Cls0) (P : Hp → Addr → List V → Prop) (a : Addr) (ds : List D) (ch : Chk) (mu : Nat → Addr) (n : Nat) (H : Hp) : Prop :=
  ∀ mu' S' H', Rel K C mu' S' H' → Ext mu n H mu' S'.length H' → (∀ q ∈ ch, S'[q.1]? = some (.lst q.2)) → ∃ vs, P H' a vs ∧ RDs K mu' S'.length H' vs ds
section
variable {K : PySem.W.Frag} {C : Cls0} {mu : Nat → Addr} {S : Store} {H : Hp}
theorem stands_list {d : D} {v : V} {ds : List D} {ch : Chk} (R : Rel K C mu S H) (r : RD K mu S.length H v d) (e : listSrc d S = some (ds, ch)) :
    ∃ a vs, v = .ref a ∧ SqL K H a vs ∧ Stands K C (SqL K) a ds ch mu S.length H := by
  cases r with
  | fl hs hd =>
    cases e
    exact ⟨_, _, rfl, hs.seq, fun mu' S' H' R' x _ => ⟨_, (x.fzL R hs).seq, hd.mono R x⟩⟩
  | @ref l hl =>
    unfold listSrc at e
    simp only at e
    cases e1 : S[l]? with
    | none => rw [e1] at e; cases e
    | some o =>
      rw [e1] at e
      cases o with
      | ins c fs => cases e
      | lst ds' =>
        cases e
        obtain ⟨vs, e2, rd⟩ := R.obj _ _ e1
        refine ⟨_, vs, rfl, .of e2, fun mu' S' H' R' x c => ?_⟩
        obtain ⟨us, e3, rd'⟩ := R'.obj l _ (c (l, ds) (List.mem_cons_self ..))
        rw [x.same l hl] at e3
        exact ⟨us, .of e3, rd'⟩
  | _ => cases e
theorem stands_tup {a : Addr} {vs : List V} {ds : List D} (R : Rel K C mu S H) (hs : SqT K H a vs) (hd : RDs K mu S.length H vs ds) : Stands K C (SqT K) a ds [] mu S.length H :=
  fun mu' S' H' R' x _ => ⟨vs, x.sqT R hs, hd.mono R x⟩
def zipIt (P : Hp → Addr → List V → Prop) (a b : Addr) : It :=
  ⟨fun i H => ∃ (xs ys : List V) (x y : V), P H a xs ∧ P H b ys ∧ xs[i]? = some x ∧ ys[i]? = some y,
    fun i H v H' => ∃ T x y, v = .ref T ∧ H T = none ∧ H' = upd H T (.tup [x, y]) ∧ (∀ xs, P H a xs → xs[i]? = some x) ∧ ∀ ys, P H b ys → ys[i]? = some y,
    fun i H => ∃ xs ys : List V, P H a xs ∧ P H b ys ∧ (xs.length ≤ i ∨ ys.length ≤ i)⟩
def zipD (xs ys : List D) : List D := List.zipWith (fun x y => D.tup [x, y]) xs ys
theorem itg_zip {P : Hp → Addr → List V → Prop} {a b : Addr} {xs ys : List D} {c1 c2 : Chk} {n : Nat} (h1 : Stands K C P a xs c1 mu n H) (h2 : Stands K C P b ys c2 mu n H) : ItG K C (zipIt P a b) (zipD xs ys) (c1 ++ c2) mu n H where
  go := fun mu' S' H' i R' x c hi => by
    obtain ⟨vs, p1, r1⟩ := h1 mu' S' H' R' x fun q hq => c q (List.mem_append_left _ hq)
    obtain ⟨us, p2, r2⟩ := h2 mu' S' H' R' x fun q hq => c q (List.mem_append_right _ hq)
    simp only [zipD, List.length_zipWith] at hi
    obtain ⟨v, e1, _⟩ := r1.get (List.getElem?_eq_getElem (show i < xs.length by omega))
    obtain ⟨u, e2, _⟩ := r2.get (List.getElem?_eq_getElem (show i < ys.length by omega))
    exact ⟨vs, us, v, u, p1, p2, e1, e2⟩
  yld := fun mu' S' H' i v H'' R' x c hi y => by
    obtain ⟨vs, p1, r1⟩ := h1 mu' S' H' R' x fun q hq => c q (List.mem_append_left _ hq)
    obtain ⟨us, p2, r2⟩ := h2 mu' S' H' R' x fun q hq => c q (List.mem_append_right _ hq)
    obtain ⟨T, x0, y0, rfl, hT, rfl, f1, f2⟩ := y
    obtain ⟨d1, g1, q1⟩ := r1.get' (f1 vs p1)
    obtain ⟨d2, g2, q2⟩ := r2.get' (f2 us p2)
    refine ⟨.tup [d1, d2], by simp [zipD, List.getElem?_zipWith, g1, g2], R'.new hT, .new hT, .tup (.inl (.inl upd_same)) (.cons (q1.mono R' (.new hT)) (.cons (q2.mono R' (.new hT)) .nil))⟩
  stop := fun mu' S' H' R' x c => by
    obtain ⟨vs, p1, r1⟩ := h1 mu' S' H' R' x fun q hq => c q (List.mem_append_left _ hq)
    obtain ⟨us, p2, r2⟩ := h2 mu' S' H' R' x fun q hq => c q (List.mem_append_right _ hq)
    refine ⟨vs, us, p1, p2, ?_⟩
    rw [RDs.length r1, RDs.length r2]
    simp only [zipD, List.length_zipWith]
    omega
def enumD (xs : List D) : List D := (List.range xs.length).zipWith (fun i x => D.tup [.int (i : Nat), x]) xs
theorem itg_enum {a : Addr} {xs : List D} {c1 : Chk} {n : Nat} (h1 : Stands K C (SqL K) a xs c1 mu n H) : ItG K C (Ite K a) (enumD xs) c1 mu n H where
  go := fun mu' S' H' i R' x c hi => by
    obtain ⟨vs, p1, r1⟩ := h1 mu' S' H' R' x c
    simp only [enumD, List.length_zipWith, List.length_range] at hi
    obtain ⟨v, e1, _⟩ := r1.get (List.getElem?_eq_getElem (show i < xs.length by omega))
    exact ⟨vs, v, p1, e1⟩
  yld := fun mu' S' H' i v H'' R' x c hi y => by
    obtain ⟨vs, p1, r1⟩ := h1 mu' S' H' R' x c
    obtain ⟨T, x0, rfl, hT, rfl, f1⟩ := y
    obtain ⟨d1, g1, q1⟩ := r1.get' (f1 vs p1)
    simp only [enumD, List.length_zipWith, List.length_range] at hi
    refine ⟨.tup [.int (i : Nat), d1], ?_, R'.new hT, .new hT, .tup (.inl (.inl upd_same)) (.cons (.int _) (.cons (q1.mono R' (.new hT)) .nil))⟩
    have hi' : i < xs.length := by omega
    have hr : (List.range xs.length)[i]? = some i := by simp [hi']
    simp [enumD, List.getElem?_zipWith, g1, hr]
  stop := fun mu' S' H' R' x c => by
    obtain ⟨vs, p1, r1⟩ := h1 mu' S' H' R' x c
    exact ⟨vs, p1, by rw [RDs.length r1]; simp [enumD]⟩
end
section
variable {X : Cx} {C : Cls0} {W : Wx}
def iZip (g : EF (List D)) : IF := fun ρ S => bindR (g ρ S) fun ds S1 => match ds with
  | [.tup xs, .tup ys] => okR (zipD xs ys, []) S1
  | [d, e] => match listSrc d S1, listSrc e S1 with
    | some (xs, c1), some (ys, c2) => okR (zipD xs ys, c1 ++ c2) S1
    | _, _ => none
  | _ => none
theorem si_zip {p pos tpos : Pos} {elts : List Expr} {kk : Nat} {a b : Expr} {g : EF (List D)} (hm : X.mg "zip" = none) (ha : SA X C W [a, b] g) (hg : Gl X "zip" := by rfl) (hs : starEach [a, b] X.env = (false, eval a X.env) :: starEach [b] X.env := by rfl) (hpl : (backTo pos (starEach [b] X.env)).any (·.1) = false := by rfl) :
    SI X C W (.Tuple elts kk tpos) (.Call (.Name "zip" p) [a, b] [] pos) (iZip g) := by
  refine ⟨PI.imp (RZ.pi_zipA hg hm ha.pa hs hpl) ?_⟩
  rintro σ H Q ⟨mu, S, ρ, R, re, h⟩
  refine ⟨mu, S, ρ, R, re, (PostG.bind (RA := QDs X.K) h).mono ?_⟩
  rintro v H1 ⟨mu1, S1, d1, R1, x1, r1, h1⟩
  split at h1
  · cases r1 with
    | cons r rr =>
      cases rr with
      | cons r' rr =>
        cases rr
        cases r with
        | tup hs hd =>
          cases r' with
          | tup hs' hd' => exact ⟨_, _, _, _, rfl, .inr ⟨hs, hs', h1.ok R1 (itg_zip (stands_tup R1 hs hd) (stands_tup R1 hs' hd'))⟩⟩
  · rename_i d e _
    cases r1 with
    | cons r rr =>
      cases rr with
      | cons r' rr =>
        cases rr
        split at h1
        · rename_i xs c1 ys c2 e1 e2
          obtain ⟨a, vs, rfl, s1, t1⟩ := stands_list R1 r e1
          obtain ⟨b, us, rfl, s2, t2⟩ := stands_list R1 r' e2
          exact ⟨_, _, _, _, rfl, .inl ⟨s1, s2, h1.ok R1 (itg_zip t1 t2)⟩⟩
        · exact h1.elim
  · exact h1.elim
def iEnu (g : EF (List D)) : IF := fun ρ S => bindR (g ρ S) fun ds S1 => match ds with
  | [d] => match listSrc d S1 with
    | some (xs, c1) => okR (enumD xs, c1) S1
    | none => none
  | _ => none
theorem si_enum {p pos tpos : Pos} {elts : List Expr} {kk : Nat} {a : Expr} {g : EF (List D)} (hm : X.mg "enumerate" = none) (ha : SA X C W [a] g) (hg : Gl X "enumerate" := by rfl) (hs : starEach [a] X.env = [(false, eval a X.env)] := by rfl) :
    SI X C W (.Tuple elts kk tpos) (.Call (.Name "enumerate" p) [a] [] pos) (iEnu g) := by
  refine ⟨PI.imp (pi_enum hg hm ha.pa hs) ?_⟩
  rintro σ H Q ⟨mu, S, ρ, R, re, h⟩
  refine ⟨mu, S, ρ, R, re, (PostG.bind (RA := QDs X.K) h).mono ?_⟩
  rintro v H1 ⟨mu1, S1, d1, R1, x1, r1, h1⟩
  split at h1
  · cases r1 with
    | cons r rr =>
      cases rr
      split at h1
      · rename_i xs c1 e1
        obtain ⟨a, vs, rfl, s1, t1⟩ := stands_list R1 r e1
        exact ⟨_, _, rfl, s1, h1.ok R1 (itg_enum t1)⟩
      · exact h1.elim
  · exact h1.elim
end

/-! ### comprehensions of two clauses -/
noncomputable def inGo (L : Nat) (g : GF) (t : EF Bool) (f : EF D) (ρ : Rho) (p : List D × Chk) : List D → Store → Rs Unit
  | [], S => if chkOk p S = true then okR () S else none
  | d :: r, S => if chkOk p S = true then
      match g d ρ S with
      | none => none
      | some (ρ2, S2) => bindR (noX (t ρ2 S2)) fun b S3 => if b = true then bindR (noX (f ρ2 S3)) fun y S4 => match S4[L]? with
            | some (.lst acc) => if acc.length < 16777216 then inGo L g t f ρ p r (S4.set L (.lst (acc ++ [y]))) else none
            | _ => none
          else inGo L g t f ρ p r S3
    else none
noncomputable def comp2Go (L : Nat) (g : GF) (t : EF Bool) (it1 : IF) (vs1 : List Nat) (g1 : GF) (t1 : EF Bool) (f : EF D) (ρ : Rho) (p : List D × Chk) : List D → Store → Rs D
  | [], S => if chkOk p S = true then okR (.ref L) S else none
  | d :: r, S => if chkOk p S = true then
      match g d ρ S with
      | none => none
      | some (ρ2, S2) => bindR (noX (t ρ2 S2)) fun b S3 => if b = true then bindR (noX (it1 ρ2 S3)) fun p1 S4 => bindR (noX (inGo L g1 t1 f (wipeR ρ2 vs1) p1 p1.1 S4)) fun _ S5 => comp2Go L g t it1 vs1 g1 t1 f ρ p r S5
          else comp2Go L g t it1 vs1 g1 t1 f ρ p r S3
    else none
noncomputable def fComp2 (it : IF) (vs : List Nat) (g : GF) (t : EF Bool) (it1 : IF) (vs1 : List Nat) (g1 : GF) (t1 : EF Bool) (f : EF D) : EF D := fun ρ S => bindR (it ρ S) fun p S1 => comp2Go S1.length g t it1 vs1 g1 t1 f (wipeR ρ vs) p p.1 (S1 ++ [.lst []])
theorem noX_some {α β : Type} {r : Rs α} {k : α → Store → Rs β} {b : Except Ex β} {S' : Store} (h : bindR (noX r) k = some (b, S')) : ∃ a S1, r = some (.ok a, S1) ∧ k a S1 = some (b, S') := by
  cases r with
  | none => cases h
  | some q =>
    obtain ⟨x, S1⟩ := q
    cases x with
    | error e => cases h
    | ok a => exact ⟨a, S1, rfl, h⟩
theorem inGo_end {L : Nat} {g : GF} {t : EF Bool} {f : EF D} {ρ : Rho} {p : List D × Chk} {S S' : Store} {x : Except Ex Unit} (h : inGo L g t f ρ p [] S = some (x, S')) : chkOk p S = true ∧ S' = S := by
  simp only [inGo] at h
  by_cases hk : chkOk p S = true
  · rw [if_pos hk] at h; cases h; exact ⟨hk, rfl⟩
  · rw [if_neg hk] at h; cases h
theorem inGo_step {L : Nat} {g : GF} {t : EF Bool} {f : EF D} {ρ : Rho} {p : List D × Chk} {d : D} {r : List D} {S S' : Store} {x : Except Ex Unit} (h : inGo L g t f ρ p (d :: r) S = some (x, S')) :
    chkOk p S = true ∧ ∃ ρ2 S2, g d ρ S = some (ρ2, S2) ∧ ∃ b S3, t ρ2 S2 = some (.ok b, S3) ∧
      ((b = false ∧ inGo L g t f ρ p r S3 = some (x, S')) ∨ (b = true ∧ ∃ y S4 acc, f ρ2 S3 = some (.ok y, S4) ∧ S4[L]? = some (.lst acc) ∧ acc.length < 16777216 ∧ inGo L g t f ρ p r (S4.set L (.lst (acc ++ [y]))) = some (x, S'))) := by
  simp only [inGo] at h
  by_cases hk : chkOk p S = true
  · rw [if_pos hk] at h
    refine ⟨hk, ?_⟩
    cases e1 : g d ρ S with
    | none => rw [e1] at h; cases h
    | some q =>
      obtain ⟨ρ2, S2⟩ := q
      rw [e1] at h
      simp only at h
      obtain ⟨b, S3, e2, h⟩ := noX_some h
      refine ⟨ρ2, S2, rfl, b, S3, e2, ?_⟩
      cases b with
      | false => exact .inl ⟨rfl, h⟩
      | true =>
        rw [if_pos rfl] at h
        obtain ⟨y, S4, e3, h⟩ := noX_some h
        split at h
        · rename_i acc e4
          by_cases hz : acc.length < 16777216
          · rw [if_pos hz] at h
            exact .inr ⟨rfl, y, S4, acc, e3, e4, hz, h⟩
          · rw [if_neg hz] at h; cases h
        · cases h
  · rw [if_neg hk] at h; cases h
theorem comp2Go_end {L : Nat} {g : GF} {t : EF Bool} {it1 : IF} {vs1 : List Nat} {g1 : GF} {t1 : EF Bool} {f : EF D} {ρ : Rho} {p : List D × Chk} {S S' : Store} {x : Except Ex D} (h : comp2Go L g t it1 vs1 g1 t1 f ρ p [] S = some (x, S')) : chkOk p S = true ∧ x = .ok (.ref L) ∧ S' = S := by
  simp only [comp2Go] at h
  by_cases hk : chkOk p S = true
  · rw [if_pos hk] at h; cases h; exact ⟨hk, rfl, rfl⟩
  · rw [if_neg hk] at h; cases h
theorem comp2Go_step {L : Nat} {g : GF} {t : EF Bool} {it1 : IF} {vs1 : List Nat} {g1 : GF} {t1 : EF Bool} {f : EF D} {ρ : Rho} {p : List D × Chk} {d : D} {r : List D} {S S' : Store} {x : Except Ex D} (h : comp2Go L g t it1 vs1 g1 t1 f ρ p (d :: r) S = some (x, S')) :
    chkOk p S = true ∧ ∃ ρ2 S2, g d ρ S = some (ρ2, S2) ∧ ∃ b S3, t ρ2 S2 = some (.ok b, S3) ∧
      ((b = false ∧ comp2Go L g t it1 vs1 g1 t1 f ρ p r S3 = some (x, S')) ∨ (b = true ∧ ∃ p1 S4 S5, it1 ρ2 S3 = some (.ok p1, S4) ∧ inGo L g1 t1 f (wipeR ρ2 vs1) p1 p1.1 S4 = some (.ok (), S5) ∧ comp2Go L g t it1 vs1 g1 t1 f ρ p r S5 = some (x, S'))) := by
  simp only [comp2Go] at h
  by_cases hk : chkOk p S = true
  · rw [if_pos hk] at h
    refine ⟨hk, ?_⟩
    cases e1 : g d ρ S with
    | none => rw [e1] at h; cases h
    | some q =>
      obtain ⟨ρ2, S2⟩ := q
      rw [e1] at h
      simp only at h
      obtain ⟨b, S3, e2, h⟩ := noX_some h
      refine ⟨ρ2, S2, rfl, b, S3, e2, ?_⟩
      cases b with
      | false => exact .inl ⟨rfl, h⟩
      | true =>
        rw [if_pos rfl] at h
        obtain ⟨p1, S4, e3, h⟩ := noX_some h
        obtain ⟨_, S5, e4, h⟩ := noX_some h
        exact .inr ⟨rfl, p1, S4, S5, e3, e4, h⟩
  · rw [if_neg hk] at h; cases h
section
variable {X : Cx} {C : Cls0} {W : Wx}
/-- the inner clause -/
theorem in_read {g : GF} {ts : List Nat} {t : EF Bool} {f : EF D} {vs : List Nat} (hv : ∀ i ∈ ts, i ∈ vs) {J : It} {p : List D × Chk} {mu1 : Nat → Addr} {S1 Sf : Store} {H1 : Hp} {σ : L2.St} {ρ : Rho} {L : Nat} {Dd : Addr} {x : Except Ex Unit} {Nx : Hp → Prop}
    (R1 : Rel X.K C mu1 S1 H1) (re1 : RE X.K mu1 S1.length H1 σ ρ) (ig : ItG X.K C J p.1 p.2 mu1 S1.length H1) (hL : L < S1.length) (eL : mu1 L = Dd) (er : inGo L g t f (wipeR ρ vs) p p.1 S1 = some (x, Sf))
    (hE : ∀ mu H, Rel X.K C mu Sf H → Ext mu1 S1.length H1 mu Sf.length H → Nx H) :
    ∃ W1 : Nat → Nat → Hp → Prop, (∃ m, W1 0 m H1) ∧ ∀ j k H, W1 j k H →
      (J.stop j H ∧ Nx H) ∨ (J.go j H ∧ ∃ Nx1 : Hp → Prop, (∀ H', Nx1 H' → ∃ k', k' < k ∧ W1 (j + 1) k' H') ∧ ∀ x H', J.yld j H x H' → TG' X.K C g ts x (wipe σ vs) H' fun σ3 H5 => wipe σ3 vs = wipe σ vs ∧ TT' X.K C W0 t σ3 H5 fun b H6 =>
        if b = true then TE' X.K C W0 f σ3 H6 fun y H7 => ∃ acc, H7 Dd = some (.lst acc) ∧ acc.length < sizeLine ∧ Nx1 (upd H7 Dd (.lst (acc ++ [y]))) else Nx1 H6) := by
  refine ⟨fun i m H => i ≤ p.1.length ∧ m = p.1.length - i ∧ ∃ mu S, Rel X.K C mu S H ∧ Ext mu1 S1.length H1 mu S.length H ∧ inGo L g t f (wipeR ρ vs) p (p.1.drop i) S = some (x, Sf),
    ⟨p.1.length, Nat.zero_le _, by simp, mu1, S1, R1, .refl, by simpa using er⟩, ?_⟩
  rintro i m H2 ⟨hi', rfl, mu2, S2, R2, x2, h2⟩
  by_cases hlt : i < p.1.length
  · right
    rw [List.drop_eq_getElem_cons hlt] at h2
    obtain ⟨hk, ρ4, S4, e1, b0, S5, e2, h3⟩ := inGo_step h2
    have ck := chkOk_of hk
    refine ⟨ig.go mu2 S2 H2 i R2 x2 ck hlt, fun H' => i + 1 ≤ p.1.length ∧ ∃ mu S, Rel X.K C mu S H' ∧ Ext mu1 S1.length H1 mu S.length H' ∧ inGo L g t f (wipeR ρ vs) p (p.1.drop (i + 1)) S = some (x, Sf),
      fun H' ⟨q1, q2⟩ => ⟨p.1.length - (i + 1), by omega, q1, rfl, q2⟩, fun x H3 y => ?_⟩
    obtain ⟨d, e, R3, x3, r3⟩ := ig.yld mu2 S2 H2 i x H3 R2 x2 ck hlt y
    rw [List.getElem?_eq_getElem hlt] at e
    cases e
    have re3 : RE X.K mu2 S2.length H3 (wipe σ vs) (wipeR ρ vs) := (re1.mono R1 (x2.trans x3)).wipe vs
    refine ⟨mu2, S2, wipeR ρ vs, _, R3, re3, r3, ?_⟩
    rw [e1]
    intro mu4 H4 σ4 R4 x4 re4 tc
    refine ⟨(tc.wipe hv).trans (wipe_idem σ vs), mu4, S4, ρ4, R4, re4, ?_⟩
    rw [e2]
    rintro mu5 H5 b R5 x5 r5
    obtain rfl : b = b0 := r5
    have x15 := x2.trans ((x3.trans x4).trans x5)
    rcases h3 with ⟨rfl, h3⟩ | ⟨rfl, y0, S6, acc, e3, eA, hz, h3⟩
    · exact ⟨hlt, mu5, S5, R5, x15, h3⟩
    · rw [if_pos rfl]
      refine ⟨mu5, S5, ρ4, R5, re4.mono R4 x5, ?_⟩
      rw [e3]
      rintro mu6 H6 v R6 x6 r6
      have x16 := x15.trans x6
      have eL6 : mu6 L = Dd := (x16.same L hL).trans eL
      have hL6 : L < S6.length := Nat.lt_of_lt_of_le hL x16.le
      obtain ⟨us, eD, rd⟩ := R6.obj L _ eA
      rw [eL6] at eD
      refine ⟨us, eD, by rw [sizeLine_16, RDs.length rd]; exact hz, hlt, mu6, S6.set L (.lst (acc ++ [y0])), ?_, ?_, h3⟩
      · rw [← eL6] at eD ⊢
        exact R6.put hL6 eD (rd.append (.cons r6 .nil))
      · rw [List.length_set, ← eL6]
        exact x16.trans (.put hL6 ⟨_, by rw [eL6]; exact eD⟩)
  · left
    have e : i = p.1.length := by omega
    subst e
    rw [List.drop_length] at h2
    obtain ⟨hk, rfl⟩ := inGo_end h2
    exact ⟨ig.stop mu2 _ H2 R2 x2 (chkOk_of hk), hE mu2 H2 R2 x2⟩
theorem comp2_read {it it1 : IF} {g g1 : GF} {ts ts1 : List Nat} {t t1 : EF Bool} {f : EF D} {vs vs1 : List Nat} (hv : ∀ i ∈ ts, i ∈ vs) (hv1 : ∀ i ∈ ts1, i ∈ vs1) {σ : L2.St} {H : Hp} {Q : VK} (h : TE' X.K C W (fComp2 it vs g t it1 vs1 g1 t1 f) σ H Q) :
    tLc2 (TI' X.K C W it) (TG' X.K C g ts) (TT' X.K C W0 t) (TI' X.K C W0 it1) (TG' X.K C g1 ts1) (TT' X.K C W0 t1) (TE' X.K C W0 f) vs vs1 σ H Q := by
  obtain ⟨mu, S, ρ, R, re, h⟩ := h
  refine ⟨mu, S, ρ, R, re, (PostG.bind (RA := RI X.K C) h).mono ?_⟩
  rintro J H1 ⟨mu1, S1, p, R1, x1, ig, h1⟩
  intro D hD
  have re1 := re.mono R x1
  have hf1 : ∀ l, l < S1.length → mu1 l ≠ D := fun l hl e => by
    obtain ⟨u, hu, _⟩ := R1.at hl
    rw [e, hD] at hu; cases hu
  have RD0 : Rel X.K C (muUp mu1 S1.length D) (S1 ++ [SO.lst []]) (upd H1 D (.lst [])) := (R1.new hD).take hf1 ⟨[], upd_same, .nil⟩
  have xD0 : Ext mu1 S1.length H1 (muUp mu1 S1.length D) (S1 ++ [SO.lst []]).length (upd H1 D (.lst [])) := by
    have z := (Ext.new (mu := mu1) (n := S1.length) (o := .lst []) hD).take hD
    simpa using z
  cases er : comp2Go S1.length g t it1 vs1 g1 t1 f (wipeR ρ vs) p p.1 (S1 ++ [SO.lst []]) with
  | none => rw [er] at h1; exact h1.elim
  | some q =>
  obtain ⟨res, Sf⟩ := q
  rw [er] at h1
  refine ⟨fun i m H => i ≤ p.1.length ∧ m = p.1.length - i ∧ ∃ mu S, Rel X.K C mu S H ∧ Ext mu1 S1.length H1 mu S.length H ∧ S1.length < S.length ∧ mu S1.length = D ∧ comp2Go S1.length g t it1 vs1 g1 t1 f (wipeR ρ vs) p (p.1.drop i) S = some (res, Sf),
    ⟨p.1.length, Nat.zero_le _, by simp, _, _, RD0, xD0, by simp, muUp_same, by simpa using er⟩, ?_⟩
  rintro i m H2 ⟨hi', rfl, mu2, S2, R2, x2, hL2, eL2, h2⟩
  by_cases hlt : i < p.1.length
  · right
    rw [List.drop_eq_getElem_cons hlt] at h2
    obtain ⟨hk, ρ4, S4, e1, b0, S5, e2, h3⟩ := comp2Go_step h2
    have ck := chkOk_of hk
    refine ⟨ig.go mu2 S2 H2 i R2 x2 ck hlt, fun H' => i + 1 ≤ p.1.length ∧ ∃ mu S, Rel X.K C mu S H' ∧ Ext mu1 S1.length H1 mu S.length H' ∧ S1.length < S.length ∧ mu S1.length = D ∧ comp2Go S1.length g t it1 vs1 g1 t1 f (wipeR ρ vs) p (p.1.drop (i + 1)) S = some (res, Sf),
      fun H' ⟨q1, q2⟩ => ⟨p.1.length - (i + 1), by omega, q1, rfl, q2⟩, fun x H3 y => ?_⟩
    obtain ⟨d, e, R3, x3, r3⟩ := ig.yld mu2 S2 H2 i x H3 R2 x2 ck hlt y
    rw [List.getElem?_eq_getElem hlt] at e
    cases e
    have re3 : RE X.K mu2 S2.length H3 (wipe σ vs) (wipeR ρ vs) := (re1.mono R1 (x2.trans x3)).wipe vs
    refine ⟨mu2, S2, wipeR ρ vs, _, R3, re3, r3, ?_⟩
    rw [e1]
    intro mu4 H4 σ4 R4 x4 re4 tc
    refine ⟨(tc.wipe hv).trans (wipe_idem σ vs), mu4, S4, ρ4, R4, re4, ?_⟩
    rw [e2]
    rintro mu5 H5 b R5 x5 r5
    obtain rfl : b = b0 := r5
    have x25 := (x3.trans x4).trans x5
    have x15 := x2.trans x25
    have hL5 := Nat.lt_of_lt_of_le hL2 x25.le
    have eL5 := (x25.same _ hL2).trans eL2
    rcases h3 with ⟨rfl, h3⟩ | ⟨rfl, p1, S6, S7, e3, e4, h3⟩
    · exact ⟨hlt, mu5, S5, R5, x15, hL5, eL5, h3⟩
    · rw [if_pos rfl]
      have re5 := re4.mono R4 x5
      refine ⟨mu5, S5, ρ4, R5, re5, ?_⟩
      rw [e3]
      rintro mu6 H6 J1 R6 x6 ig6
      have hL6 := Nat.lt_of_lt_of_le hL5 x6.le
      have eL6 := (x6.same _ hL5).trans eL5
      refine in_read (X := X) hv1 R6 (re5.mono R5 x6) ig6 hL6 eL6 e4 fun mu7 H7 R7 x7 => ?_
      exact ⟨hlt, mu7, S7, R7, (x15.trans x6).trans x7, Nat.lt_of_lt_of_le hL6 x7.le, (x7.same _ hL6).trans eL6, h3⟩
  · left
    have e : i = p.1.length := by omega
    subst e
    rw [List.drop_length] at h2
    obtain ⟨hk, rfl, rfl⟩ := comp2Go_end h2
    refine ⟨ig.stop mu2 _ H2 R2 x2 (chkOk_of hk), h1 mu2 H2 (.ref D) R2 x2 ?_⟩
    have z : RD X.K mu2 Sf.length H2 (.ref (mu2 S1.length)) (.ref S1.length) := .ref hL2
    rw [eL2] at z
    exact z
/-- [elt for tg in iter if .. for tg1 in iter1 if ..] -/
theorem se_comp2 {elt tg iter tg1 iter1 : Expr} {ifs ifs1 : List Expr} {scope : Scope} {own : List (Str × Nat)} (vs1 : List Nat) {pos : Pos} {it it1 : IF} {g g1 : GF} {ts ts1 : List Nat} {t t1 : EF Bool} {f : EF D} (hc : X.calm = true) (hN : X.N.Nodup) (hi : SI X C W tg iter it) (ok : BlkOk X.N X.env.scope scope own)
    (hg : ∀ (s : Shared) (H : Hp) (C1 : Addr) (cl : List (Str × Addr)) (fp : List Addr), SG (X.blk s H scope (compEnvC scope cl C1 X.env) fp) C tg g ts) (ht : ∀ (s : Shared) (H : Hp) (C1 : Addr) (cl : List (Str × Addr)) (fp : List Addr), STs (X.blk s H scope (compEnvC scope cl C1 X.env) fp) C ifs t)
    (hi1 : ∀ (s : Shared) (H : Hp) (C1 : Addr) (cl : List (Str × Addr)) (fp : List Addr), SI (X.blk s H scope (compEnvC scope cl C1 X.env) fp) C W0 tg1 iter1 it1)
    (hg1 : ∀ (s : Shared) (H : Hp) (C1 : Addr) (cl : List (Str × Addr)) (fp : List Addr), SG (X.blk s H scope (compEnvC scope cl C1 X.env) fp) C tg1 g1 ts1) (ht1 : ∀ (s : Shared) (H : Hp) (C1 : Addr) (cl : List (Str × Addr)) (fp : List Addr), STs (X.blk s H scope (compEnvC scope cl C1 X.env) fp) C ifs1 t1)
    (he : ∀ (s : Shared) (H : Hp) (C1 : Addr) (cl : List (Str × Addr)) (fp : List Addr), SE (X.blk s H scope (compEnvC scope cl C1 X.env) fp) C W0 elt f) (hs : ∀ x, foldedSetIterable iter X.env x = pure x := by intro _; rfl) (hs1 : ∀ env x, foldedSetIterable iter1 env x = pure x := by intro _ _; rfl)
    (hv : ∀ i ∈ ts, i ∈ own.map (·.2) := by decide) (hv1 : ∀ i ∈ ts1, i ∈ vs1 := by decide) (hv2 : ∀ i ∈ vs1, i ∈ own.map (·.2) := by decide) :
    SE X C W (.ListComp elt [⟨tg, iter, ifs, 0⟩, ⟨tg1, iter1, ifs1, 0⟩] scope pos) (fComp2 it (own.map (·.2)) g t it1 vs1 g1 t1 f) :=
  ⟨PE.imp (pe_lc2 (te := TE' X.K C W0 f) (tt := TT' X.K C W0 t) (g := TG' X.K C g ts) (wi1 := TI' X.K C W0 it1) (tt1 := TT' X.K C W0 t1) (g1 := TG' X.K C g1 ts1) hc hN hi.pi ok hv2 (fun s H C1 cl fp => (hg s H C1 cl fp).pg) (fun s H C1 cl fp => (ht s H C1 cl fp).pts)
    (fun s H C1 cl fp => (hi1 s H C1 cl fp).pi) (fun s H C1 cl fp => (hg1 s H C1 cl fp).pg) (fun s H C1 cl fp => (ht1 s H C1 cl fp).pts) (fun s H C1 cl fp => (he s H C1 cl fp).pe) hs hs1) fun σ H Q h => comp2_read hv hv1 h⟩
end
end Sh

set_option Elab.async false
set_option linter.all false
set_option maxRecDepth 100000
set_option maxHeartbeats 4000000
set_option autoImplicit false
namespace Sh
open PySem PySem.Spec PyProof.Rows L2

theorem RoomG.u65 {k : Nat} {A : Around} (r : RoomG k A) : A.units + 65 < cLine := by have := r.room.un; omega
theorem RoomG.u64 {k : Nat} {A : Around} (r : RoomG k A) : A.units + 64 < cLine := r.room.units
/-! ### sum, max, min, all, any of tuples -/
section
variable {prog : Program} {w : World} {A : Around} {E : Value → Shared → Prop} {s : Shared} {l : Addr}
theorem iter_tupA {items : Array Value} {Q : Value → Shared → Prop} (hl : s.heap.IsTuple l items)
    (h : ∀ s₂ : Shared, s₂ = { s with heap := s.heap.push { cls := .type "tuple_iterator", data := .fields #[.ref l, .int 0 0] } } →
      (s₂.heap.IsTupleIter s.heap.objs.size l 0 ∧ s₂.heap.IsTuple l items) → (∀ b ∈ [s.heap.objs.size, l], b < s₂.heap.objs.size) → l ≠ s.heap.objs.size → Q (.ref s.heap.objs.size) s₂) :
    wpAny (model prog w) A (pyIter (.ref l)) Q E s := by
  have hlt : l < s.heap.objs.size := by obtain ⟨_, e, _⟩ := hl; exact Heap.lt_size e
  have hp : (s.heap.push { cls := .type "tuple_iterator", data := .fields #[.ref l, .int 0 0] }).IsTuple l items := by
    obtain ⟨o, e1, e2⟩ := hl
    exact ⟨o, Heap.get?_push_of_some _ e1, e2⟩
  refine wpAny_pyIter_tuple hl (h _ rfl ⟨⟨_, Heap.get?_push_size _ rfl, rfl, rfl⟩, hp⟩ (fun b hb => ?_) (Nat.ne_of_lt hlt))
  show b < (s.heap.push _).objs.size
  rw [Heap.size_push]
  have e : b = s.heap.objs.size ∨ b = l := by simpa using hb
  rcases e with e | e
  · rw [e]; exact Nat.lt_succ_self _
  · rw [e]; exact Nat.lt_succ_of_lt hlt
theorem old_keptT {h' : Heap} (hk : ∀ b o, b ∉ [s.heap.objs.size] → (s.heap.push { cls := .type "tuple_iterator", data := .fields #[.ref l, .int 0 0] }).get? b = some o → h'.get? b = some o) :
    ∀ b o, s.heap.get? b = some o → h'.get? b = some o := fun b o e => by
  refine hk b o (fun hm => ?_) (Heap.get?_push_of_some _ e)
  have e1 : b = s.heap.objs.size := by simpa using hm
  exact absurd (e1 ▸ Heap.lt_size e) (Nat.lt_irrefl _)
variable {xs : Array (Int × Tok)}
theorem sum_intTup {Q : Value → Shared → Prop} (hh : A.handled = none) (hl : s.heap.IsTuple l (intItems xs))
    (h : ∀ h' tk t', (∀ b o, s.heap.get? b = some o → h'.get? b = some o) → Q (.int (preSum (numAt xs) xs.size) t') { s with heap := h', toks := tk }) :
    wpAny (model prog w) A (call (.builtin "sum") [.ref l]) Q E s := by
  refine call_sum_walkG (iter_tupA hl fun s₂ e st hfp hlI => ?_)
  subst e
  refine ⟨_, _, _, _, _, _, numAt xs, rfl, Walks.tuple (A := A.in1) hh _ l hlI (intItems xs), st, hfp, (fun _ _ => intItems_at), fun h' tk t' hk => ?_⟩
  have := h h' tk t' (old_keptT hk)
  simpa [intItems] using this
theorem max_intTup {Q : Value → Shared → Prop} (hh : A.handled = none) (hl : s.heap.IsTuple l (intItems xs)) (hne : 0 < xs.size)
    (h : ∀ v h' tk, (intItems xs)[argBest (fun i j => decide (numAt xs i > numAt xs j)) (xs.size - 1)]? = some v → (∀ b o, s.heap.get? b = some o → h'.get? b = some o) → Q v { s with heap := h', toks := tk }) :
    wpAny (model prog w) A (call (.builtin "max") [.ref l]) Q E s := by
  refine call_max_walk (iter_tupA hl fun s₂ e st hfp hlI => ?_)
  subst e
  refine ⟨_, _, _, _, _, _, _, rfl, Walks.tuple (A := A.in1) hh _ l hlI (intItems xs), st, hfp, by simpa [intItems] using hne, CmpOf.ints_gt (numAt xs) (fun _ _ => intItems_at), fun v h' tk hP hk => ?_⟩
  exact h v h' tk (by simpa [intItems] using hP) (old_keptT hk)
theorem min_intTup {Q : Value → Shared → Prop} (hh : A.handled = none) (hl : s.heap.IsTuple l (intItems xs)) (hne : 0 < xs.size)
    (h : ∀ v h' tk, (intItems xs)[argBest (fun i j => decide (numAt xs i < numAt xs j)) (xs.size - 1)]? = some v → (∀ b o, s.heap.get? b = some o → h'.get? b = some o) → Q v { s with heap := h', toks := tk }) :
    wpAny (model prog w) A (call (.builtin "min") [.ref l]) Q E s := by
  refine call_min_walk (iter_tupA hl fun s₂ e st hfp hlI => ?_)
  subst e
  refine ⟨_, _, _, _, _, _, _, rfl, Walks.tuple (A := A.in1) hh _ l hlI (intItems xs), st, hfp, by simpa [intItems] using hne, CmpOf.ints_lt (numAt xs) (fun _ _ => intItems_at), fun v h' tk hP hk => ?_⟩
  exact h v h' tk (by simpa [intItems] using hP) (old_keptT hk)
variable {its : List Value} {ns : List Int}
theorem sumT_raw {Q : Value → Shared → Prop} (hh : A.handled = none) (hl : s.heap.IsTuple l its.toArray) (hi : IntsAre its ns)
    (h : ∀ h' tk t', (∀ b o, s.heap.get? b = some o → h'.get? b = some o) → Q (.int ns.sum t') { s with heap := h', toks := tk }) : wpAny (model prog w) A (call (.builtin "sum") [.ref l]) Q E s := by
  obtain ⟨xs, e⟩ := hi.allInts.items
  have hn : numsOf (intItems xs).toList = ns := by rw [← e]; exact hi.numsOf
  rw [nums_intItems] at hn
  rw [e] at hl
  refine sum_intTup hh hl fun h' tk t' hk => ?_
  have := h h' tk t' hk
  rw [preSum_eq, List.take_of_length_le (by simp), hn]; exact this
theorem maxT_raw {Q : Value → Shared → Prop} (hh : A.handled = none) (hl : s.heap.IsTuple l its.toArray) (hi : IntsAre its ns) (hne : 0 < ns.length)
    (h : ∀ h' tk M t', (∀ b o, s.heap.get? b = some o → h'.get? b = some o) → M ∈ ns → (∀ a, a ∈ ns → a ≤ M) → Q (.int M t') { s with heap := h', toks := tk }) : wpAny (model prog w) A (call (.builtin "max") [.ref l]) Q E s := by
  obtain ⟨xs, e⟩ := hi.allInts.items
  have hn : numsOf (intItems xs).toList = ns := by rw [← e]; exact hi.numsOf
  rw [nums_intItems] at hn
  subst hn
  rw [e] at hl
  have hsz : 0 < xs.size := by simpa using hne
  refine max_intTup hh hl hsz fun v h' tk hv hk => ?_
  obtain ⟨t, rfl⟩ := intItems_at hv
  obtain ⟨h1, h2⟩ := argBest_gt (numAt xs) (xs.size - 1)
  refine h h' tk _ t hk ?_ fun a ha => ?_
  · rw [numAt_eq]; exact PySem.getD_mem (by rw [List.length_map, Array.length_toList]; omega)
  · obtain ⟨j, hj, rfl⟩ := mem_getD ha
    rw [List.length_map, Array.length_toList] at hj
    rw [← numAt_eq]; exact h2 j (by omega)
theorem minT_raw {Q : Value → Shared → Prop} (hh : A.handled = none) (hl : s.heap.IsTuple l its.toArray) (hi : IntsAre its ns) (hne : 0 < ns.length)
    (h : ∀ h' tk M t', (∀ b o, s.heap.get? b = some o → h'.get? b = some o) → M ∈ ns → (∀ a, a ∈ ns → M ≤ a) → Q (.int M t') { s with heap := h', toks := tk }) : wpAny (model prog w) A (call (.builtin "min") [.ref l]) Q E s := by
  obtain ⟨xs, e⟩ := hi.allInts.items
  have hn : numsOf (intItems xs).toList = ns := by rw [← e]; exact hi.numsOf
  rw [nums_intItems] at hn
  subst hn
  rw [e] at hl
  have hsz : 0 < xs.size := by simpa using hne
  refine min_intTup hh hl hsz fun v h' tk hv hk => ?_
  obtain ⟨t, rfl⟩ := intItems_at hv
  obtain ⟨h1, h2⟩ := argBest_lt (numAt xs) (xs.size - 1)
  refine h h' tk _ t hk ?_ fun a ha => ?_
  · rw [numAt_eq]; exact PySem.getD_mem (by rw [List.length_map, Array.length_toList]; omega)
  · obtain ⟨j, hj, rfl⟩ := mem_getD ha
    rw [List.length_map, Array.length_toList] at hj
    rw [← numAt_eq]; exact h2 j (by omega)
end
section
variable {X : Cx}
def rSumT (K : PySem.W.Frag) : List V → Hp → VK → Prop := fun vs H Q => ∃ (a : Addr) (ns : List Int), vs = [V.ref a] ∧ SqT K H a (ns.map V.int) ∧ Q (.int ns.sum) H
def rMaxT (K : PySem.W.Frag) : List V → Hp → VK → Prop := fun vs H Q => ∃ (a : Addr) (ns : List Int), vs = [V.ref a] ∧ SqT K H a (ns.map V.int) ∧ 0 < ns.length ∧ ∀ m, m ∈ ns → (∀ y, y ∈ ns → y ≤ m) → Q (.int m) H
def rMinT (K : PySem.W.Frag) : List V → Hp → VK → Prop := fun vs H Q => ∃ (a : Addr) (ns : List Int), vs = [V.ref a] ∧ SqT K H a (ns.map V.int) ∧ 0 < ns.length ∧ ∀ m, m ∈ ns → (∀ y, y ∈ ns → m ≤ y) → Q (.int m) H
def rAnyT (K : PySem.W.Frag) : List V → Hp → VK → Prop := fun vs H Q => ∃ (a : Addr) (bs : List Bool), vs = [V.ref a] ∧ SqT K H a (bs.map V.bl) ∧ Q (.bl (bs.any id)) H
def rAllT (K : PySem.W.Frag) : List V → Hp → VK → Prop := fun vs H Q => ∃ (a : Addr) (bs : List Bool), vs = [V.ref a] ∧ SqT K H a (bs.map V.bl) ∧ Q (.bl (bs.all id)) H
theorem cr_sumT (hc : X.calm = true) : CallR X (.builtin "sum") (rSumT X.K) := by
  intro pins s σ H vs us Q I r h
  obtain ⟨a, ns, rfl, hs, q⟩ := h
  obtain ⟨its, rv, hl, _⟩ := I.tuple hs
  rw [Vals.ref1 r]
  exact sumT_raw (I.ok.hd hc) hl rv.ints fun h' tk t' hk => ⟨.int _, H, I.kept hk, ⟨_, rfl⟩, q⟩
theorem cr_maxT (hc : X.calm = true) : CallR X (.builtin "max") (rMaxT X.K) := by
  intro pins s σ H vs us Q I r h
  obtain ⟨a, ns, rfl, hs, hne, q⟩ := h
  obtain ⟨its, rv, hl, _⟩ := I.tuple hs
  rw [Vals.ref1 r]
  exact maxT_raw (I.ok.hd hc) hl rv.ints hne fun h' tk m t' hk h1 h2 => ⟨.int _, H, I.kept hk, ⟨_, rfl⟩, q m h1 h2⟩
theorem cr_minT (hc : X.calm = true) : CallR X (.builtin "min") (rMinT X.K) := by
  intro pins s σ H vs us Q I r h
  obtain ⟨a, ns, rfl, hs, hne, q⟩ := h
  obtain ⟨its, rv, hl, _⟩ := I.tuple hs
  rw [Vals.ref1 r]
  exact minT_raw (I.ok.hd hc) hl rv.ints hne fun h' tk m t' hk h1 h2 => ⟨.int _, H, I.kept hk, ⟨_, rfl⟩, q m h1 h2⟩
theorem cr_anyT (hc : X.calm = true) : CallR X (.builtin "any") (rAnyT X.K) := by
  intro pins s σ H vs us Q I r h
  obtain ⟨a, bs, rfl, hs, q⟩ := h
  obtain ⟨its, rv, hl, _⟩ := I.tuple hs
  rw [Vals.ref1 r]
  have hb := rv.bls
  refine call_any_walk (iter_tupA hl fun s₂ e2 st _ hne => ?_)
  subst e2
  refine ⟨_, _, _, _, _, _, _, rfl, Walks.tuple (A := X.A.in1) (I.ok.hd hc) _ a hne its.toArray, st, truth_bools hb, fun h' tk hk => ?_⟩
  refine ⟨.bl _, H, I.kept (old_keptT hk), ?_, q⟩
  show Value.bool _ = Value.bool _
  rw [← L2.any_range, hb, List.size_toArray, List.length_map]
theorem cr_allT (hc : X.calm = true) : CallR X (.builtin "all") (rAllT X.K) := by
  intro pins s σ H vs us Q I r h
  obtain ⟨a, bs, rfl, hs, q⟩ := h
  obtain ⟨its, rv, hl, _⟩ := I.tuple hs
  rw [Vals.ref1 r]
  have hb := rv.bls
  refine call_all_walk (iter_tupA hl fun s₂ e2 st _ hne => ?_)
  subst e2
  refine ⟨_, _, _, _, _, _, _, rfl, Walks.tuple (A := X.A.in1) (I.ok.hd hc) _ a hne its.toArray, st, truth_bools hb, fun h' tk hk => ?_⟩
  refine ⟨.bl _, H, I.kept (old_keptT hk), ?_, q⟩
  show Value.bool _ = Value.bool _
  rw [← L2.all_range, hb, List.size_toArray, List.length_map]
end
/-- what is done with the items of a list or a tuple -/
def pSeq (q : List D → Store → Rs D) : P1 := fun d S => match seqOf d S with
  | some ds => q ds S
  | none => none
section
variable {K : PySem.W.Frag} {C : Cls0}
/-- rL of lists, rT of tuples -/
theorem srv_seq {rL rT : List V → Hp → VK → Prop} {q : List D → Store → Rs D}
    (hL : ∀ (XW : Value → Option Addr → Hp → Prop) (mu : Nat → Addr) (S : Store) (H : Hp) (p : Addr) (vs : List V) (ds : List D) (Q : VK), Rel K C mu S H → SqL K H p vs → RDs K mu S.length H vs ds → PostG K C XW mu S.length H (QD K) (q ds S) Q → rL [.ref p] H Q)
    (hT : ∀ (XW : Value → Option Addr → Hp → Prop) (mu : Nat → Addr) (S : Store) (H : Hp) (p : Addr) (vs : List V) (ds : List D) (Q : VK), Rel K C mu S H → SqT K H p vs → RDs K mu S.length H vs ds → PostG K C XW mu S.length H (QD K) (q ds S) Q → rT [.ref p] H Q) :
    SrvL K C (fun xs H Q => rL xs H Q ∨ rT xs H Q) (p1L (pSeq q)) := srvL1 fun XW mu S H x d Q R rd z => by
  unfold pSeq at z
  cases e : seqOf d S with
  | none => rw [e] at z; exact z.elim
  | some ds =>
    rw [e] at z
    obtain ⟨a, vs, rfl, hs, rds⟩ := seqOf_sq R rd e
    rcases hs with hs | hs
    · exact .inr (hT XW mu S H a vs ds Q R hs rds z)
    · exact .inl (hL XW mu S H a vs ds Q R hs rds z)
theorem ss_sum : SrvL K C (fun xs H Q => rSum K xs H Q ∨ rSumT K xs H Q) (p1L (pSeq qSum)) := by
  refine srv_seq ?_ ?_
  all_goals
    intro XW mu S H p vs ds Q R hp rd q
    unfold qSum at q
    cases e : allI ds with
    | none => rw [e] at q; exact q.elim
    | some bs => rw [e] at q; rw [allI_rd rd e] at hp; exact ⟨p, bs, rfl, hp, q.ok R (.int _)⟩
theorem ss_all : SrvL K C (fun xs H Q => rAll K xs H Q ∨ rAllT K xs H Q) (p1L (pSeq qAll)) := by
  refine srv_seq ?_ ?_
  all_goals
    intro XW mu S H p vs ds Q R hp rd q
    unfold qAll at q
    cases e : allB ds with
    | none => rw [e] at q; exact q.elim
    | some bs => rw [e] at q; rw [allB_rd rd e] at hp; exact ⟨p, bs, rfl, hp, q.ok R (.bl _)⟩
theorem ss_any : SrvL K C (fun xs H Q => rAny K xs H Q ∨ rAnyT K xs H Q) (p1L (pSeq qAny)) := by
  refine srv_seq ?_ ?_
  all_goals
    intro XW mu S H p vs ds Q R hp rd q
    unfold qAny at q
    cases e : allB ds with
    | none => rw [e] at q; exact q.elim
    | some bs => rw [e] at q; rw [allB_rd rd e] at hp; exact ⟨p, bs, rfl, hp, q.ok R (.bl _)⟩
theorem ss_max : SrvL K C (fun xs H Q => rMax K xs H Q ∨ rMaxT K xs H Q) (p1L (pSeq qMax)) := by
  refine srv_seq ?_ ?_
  all_goals
    intro XW mu S H p vs ds Q R hp rd q
    unfold qMax at q
    cases e : allI ds with
    | none => rw [e] at q; exact q.elim
    | some bs =>
      rw [e] at q
      simp only at q
      rw [allI_rd rd e] at hp
      cases e2 : greatest bs with
      | none => rw [e2] at q; exact q.elim
      | some k =>
        rw [e2] at q
        refine ⟨p, bs, rfl, hp, ?_, fun m hm hle => ?_⟩
        · cases bs with
          | nil => cases e2
          | cons _ _ => simp
        · rw [greatest_of e2 hm hle]; exact q.ok R (.int _)
theorem ss_min : SrvL K C (fun xs H Q => rMin K xs H Q ∨ rMinT K xs H Q) (p1L (pSeq qMin)) := by
  refine srv_seq ?_ ?_
  all_goals
    intro XW mu S H p vs ds Q R hp rd q
    unfold qMin at q
    cases e : allI ds with
    | none => rw [e] at q; exact q.elim
    | some bs =>
      rw [e] at q
      simp only at q
      rw [allI_rd rd e] at hp
      cases e2 : least bs with
      | none => rw [e2] at q; exact q.elim
      | some k =>
        rw [e2] at q
        refine ⟨p, bs, rfl, hp, ?_, fun m hm hle => ?_⟩
        · cases bs with
          | nil => cases e2
          | cons _ _ => simp
        · rw [least_of e2 hm hle]; exact q.ok R (.int _)
def pNeg : P1 := fun d S => match d with
  | .int i => okR (.int (-i)) S
  | _ => none
theorem sv_neg : Srv1 K C (rU fun i => .int (-i)) pNeg := by
  intro XW mu S H x d Q R r q
  cases r with
  | int i => exact ⟨i, rfl, q.ok R (.int _)⟩
  | _ => exact q.elim
end
section
variable {X : Cx} {C : Cls0} {W : Wx}
def refSeq (d : D) (S : Store) : Option (List D) := match d with
  | .ref l => match S[l]? with
    | some (.lst ds) => some ds
    | _ => none
  | _ => none
theorem refSeq_lst {K : PySem.W.Frag} {mu : Nat → Addr} {S : Store} {H : Hp} {d : D} {v : V} {ds : List D} (R : Rel K C mu S H) (r : RD K mu S.length H v d) (e : refSeq d S = some ds) :
    ∃ a vs, v = .ref a ∧ H a = some (.lst vs) ∧ RDs K mu S.length H vs ds := by
  cases r with
  | @ref l hl =>
    unfold refSeq at e
    simp only at e
    split at e
    · rename_i ds' e1
      cases e
      obtain ⟨vs, e2, rd⟩ := R.obj _ _ e1
      exact ⟨_, vs, rfl, e2, rd⟩
    · cases e
  | _ => cases e
/-- a + b of two lists of the store -/
def fCatE (f g : EF D) : EF (List D) := fun ρ S => bindR (f ρ S) fun d S1 => bindR (g ρ S1) fun e S2 => match refSeq d S2, refSeq e S2 with
  | some xs, some ys => if xs.length + ys.length ≤ 16777216 then okR (xs ++ ys) S2 else none
  | _, _ => none
theorem sl_catE {a b : Expr} {f g : EF D} {pos : Pos} (ha : SE X C W a f) (hb : SE X C W b g) : SL X C W (.BinOp a .Add b pos) (fCatE f g) := by
  refine ⟨PE.imp (pe_op op_cat ha.pe hb.pe) ?_⟩
  rintro σ H Q ⟨mu, S, ρ, R, re, h⟩
  refine ⟨mu, S, ρ, R, re, (PostG.bind (RA := QD X.K) h).mono ?_⟩
  rintro v1 H1 ⟨mu1, S1, d, R1, x1, r1, h1⟩
  refine ⟨mu1, S1, ρ, R1, re.mono R x1, (PostG.bind (RA := QD X.K) h1).mono ?_⟩
  rintro v2 H2 ⟨mu2, S2, e, R2, x2, r2, h2⟩
  split at h2
  · rename_i xs ys e1 e2
    obtain ⟨p, vs, rfl, hp, rd1⟩ := refSeq_lst R2 (r1.mono R1 x2) e1
    obtain ⟨p2, ws, rfl, hp2, rd2⟩ := refSeq_lst R2 r2 e2
    by_cases hz : xs.length + ys.length ≤ 16777216
    · rw [if_pos hz] at h2
      refine ⟨p, p2, vs, ws, rfl, rfl, hp, hp2, by rw [sizeLine_16, RDs.length rd1, RDs.length rd2]; exact hz, fun q hq => ?_⟩
      exact new_fresh R2 .refl hq (rd1.append rd2) h2
    · rw [if_neg hz] at h2; exact h2.elim
  · exact h2.elim
end
end Sh

set_option Elab.async false
set_option linter.all false
set_option maxRecDepth 100000
set_option maxHeartbeats 4000000
set_option autoImplicit false
namespace Sh
open PySem PySem.Spec PyProof.Rows L2
section
variable {P : Program} {w : World} {K : PySem.W.Frag} {mg : Str → Option Value} {base : Heap} {C : Cls0}
/-- the rule for the law's own def -/
theorem fng_mk {x qual : Str} {st : Stmt} {f : Addr} {fd : FuncData} {N ps : List Str} {k : Nat} {m : M} {b : SF} (F : Fun K x qual st f fd) (Sc : FnScope N ps (defScope st))
    (body : ∀ (cdv : Value) (A : Around) (outer : List PySem.Env) (s : Shared) (H : Hp) (E : XK), RoomG k (A.deeper (envOfC qual (defScope st) s.heap.objs.size f cdv)) →
      SB (cxOf (L2.CX P w) P w K mg base N qual (defScope st) f cdv A outer s H E) C (fun c d _ H => E c d H) (defBody st) b) (rf : Refs N.length ps.length m b) :
    FnG P w K mg base (k + 1) f fd ps (spM K C ps.length m) := by
  refine fng_of F Sc (fun vs H Q E h => spM_len h) (fun cdv A outer s H vs Q E hr h => ?_)
  refine ⟨_, (body cdv A outer s H E hr).pss, ?_⟩
  obtain ⟨mu, S, ds, R, rd, hl, hq⟩ := h
  refine ⟨mu, S, startR N.length ds, R, RE.begin rd, ?_⟩
  cases em : m ds S with
  | none => rw [em] at hq; exact hq.elim
  | some q =>
    obtain ⟨r, S1⟩ := q
    rw [em] at hq
    obtain ⟨J, eb, hle, hc, hb⟩ := rf ds S r S1 hl R.closed rd.bels em
    cases e1 : b (startR N.length ds) S with
    | none => rw [e1] at eb; cases eb
    | some z =>
      obtain ⟨fl, S2⟩ := z
      rw [e1] at eb
      have lenJ : S1.length ≤ (S1 ++ J).length := by simp
      cases fl with
      | ret d =>
        cases eb
        intro mu' H' v R' y rd'
        exact hq mu' H' v (R'.forget hc) (y.forget hle lenJ) (rd'.fg hb)
      | nx ρ =>
        cases eb
        intro mu' H' σ' R' y re'
        exact hq mu' H' .non (R'.forget hc) (y.forget hle lenJ) .non
      | exn e ρ =>
        cases eb
        intro mu' H' A' dx vs' σ' R' y c hd rf' re'
        exact hq mu' H' A' dx vs' (R'.forget hc) (y.forget hle lenJ) c hd (rf'.fg hb)
      | bk ρ => cases eb
      | ct ρ => cases eb
end
/-- what an except clause makes of a class -/
theorem exm_of {K : PySem.W.Frag} {A S : Addr} {b : Bool} (h1 : PySem.W.subIn K (.ref S) (.type "BaseException") = some true) (h2 : PySem.W.isClsIn K S = true) (h3 : PySem.W.typeIn K (.ref S) = some (.type "type")) (h4 : PySem.W.subIn K (.ref A) (.ref S) = some b) :
    PySem.W.exmOne K (.ref A) (.ref S) = some b := by
  have e1 : (PySem.W.subIn K (.ref S) (.type "BaseException") == some true) = true := by rw [h1] <;> rfl
  have e2 : ((PySem.W.clsIn K S).isSome && PySem.W.typeIn K (.ref S) == some (.type "type")) = true := by
    have h2' : (PySem.W.clsIn K S).isSome = true := h2
    rw [h2', h3] <;> rfl
  show (if (PySem.W.subIn K (.ref S) (.type "BaseException") == some true) = true then (if ((PySem.W.clsIn K S).isSome && PySem.W.typeIn K (.ref S) == some (.type "type")) = true then PySem.W.subIn K (.ref A) (.ref S) else none) else none) = some b
  rw [if_pos e1, if_pos e2]
  exact h4
/-- a class of errors, from what the heap holds -/
theorem exc1_mk {P : Program} {w : World} {K : PySem.W.Frag} {mg : Str → Option Value} {base : Heap} {x f qual : Str} {st : Stmt} {A fI : Addr} {fd : FuncData} {p1 p2 p3 p4 : Pos}
    {nm q : Str} {N : Addr} {bs bm : List Value} {sn : List Str} {sub : List Value} {ab : Bool} {col : Option Bool} {dd : Option Addr} {m0 m1 m2 m3 m5 : Option Value}
    (gA : mg x = some (.ref A)) (xL : K.lookup A = some (excClassObj nm q A N bs bm true sn sub ab col dd m0 m1 m2 m3 m5 "ValueError.__new__")) (rb : PySem.HandSPX.refsVE bm = true)
    (sa : PySem.W.findIn K (.ref A) "__setattr__" = some (some (.builtin "object.__setattr__"))) (ga : PySem.W.findIn K (.ref A) "__getattribute__" = some (some (.builtin "BaseException.__getattribute__"))) (gg : PySem.W.findIn K (.ref A) "__getattr__" = some none)
    (nb : PySem.W.findIn K (.ref A) f = some none) (iC : PySem.W.findIn K (.ref A) "__init__" = some (some (.ref fI))) (tI : PySem.W.typeIn K (.ref fI) = some (.type "function"))
    (F : Fun K "__init__" qual st fI fd) (Sc : FnScope ["self", f] ["self", f] (defScope st)) (hb : defBody st = [.Assign [.Attribute (.Name "self" p1) f p2] (.Name f p3) p4]) (bI : Binds K fd ["self", f] [])
    (kC : PySem.W.keepIn K (.ref A) = true) (eC : PySem.W.subIn K (.ref A) (.type "BaseException") = some true) (tC : PySem.W.typeIn K (.ref A) = some (.type "type")) (hC : PySem.W.hasDictIn K A = true)
    (hd : (f == ("__debug__" : Str)) = false := by decide) (hcd : (f == ("__classdict__" : Str)) = false := by decide) : Exc1 P w K mg base x f :=
  ⟨A, fI, fd, gA, ⟨⟨nm, q, N, bs, bm, sn, sub, ab, col, dd, m0, m1, m2, m3, m5, xL, rb⟩, sa, eC, tC, kC⟩, ⟨ga, gg, eC, hC⟩, nb, iC, tI, exc_init F Sc hb hd hcd, bI⟩
def clsDef (i j : Nat) (b : List Stmt) : Stmt := match b.getD i (.Pass ⟨0, 0, 0, 0⟩) with
  | .ClassDef _ _ _ body _ _ _ _ _ _ _ => body.getD j (.Pass ⟨0, 0, 0, 0⟩)
  | x => x
/-- a def that is just what its body says -/
noncomputable def mOf (N : List Str) (np : Nat) (b : SF) : M := fun ds S => if ds.length = np then outOf (b (startR N.length ds) S) else none
section
variable {P : Program} {w : World} {K : PySem.W.Frag} {mg : Str → Option Value} {base : Heap} {C : Cls0}
theorem fng_mk0 {x qual : Str} {st : Stmt} {f : Addr} {fd : FuncData} {N ps : List Str} {k : Nat} {b : SF} (F : Fun K x qual st f fd) (Sc : FnScope N ps (defScope st))
    (body : ∀ (cdv : Value) (A : Around) (outer : List PySem.Env) (s : Shared) (H : Hp) (E : XK), RoomG k (A.deeper (envOfC qual (defScope st) s.heap.objs.size f cdv)) →
      SB (cxOf (L2.CX P w) P w K mg base N qual (defScope st) f cdv A outer s H E) C (fun c d _ H => E c d H) (defBody st) b) :
    FnG P w K mg base (k + 1) f fd ps (spM K C ps.length (mOf N ps.length b)) := by
  refine fng_of F Sc (fun vs H Q E h => spM_len h) (fun cdv A outer s H vs Q E hr h => ?_)
  refine ⟨_, (body cdv A outer s H E hr).pss, ?_⟩
  obtain ⟨mu, S, ds, R, rd, hl, hq⟩ := h
  refine ⟨mu, S, startR N.length ds, R, RE.begin rd, ?_⟩
  unfold mOf at hq
  rw [if_pos hl] at hq
  cases e1 : b (startR N.length ds) S with
  | none => rw [e1] at hq; exact hq.elim
  | some z =>
    obtain ⟨fl, S2⟩ := z
    rw [e1] at hq
    cases fl with
    | ret d => exact hq
    | nx ρ => exact fun mu' H' σ' R' y re' => hq mu' H' .non R' y .non
    | exn e ρ => exact fun mu' H' A' dx vs' σ' R' y c hd rf' re' => hq mu' H' A' dx vs' R' y c hd rf'
    | bk ρ => exact hq.elim
    | ct ρ => exact hq.elim
theorem fn_mk0 {x qual : Str} {st : Stmt} {f : Addr} {fd : FuncData} {N ps : List Str} {k : Nat} {b : SF} (F : Fun K x qual st f fd) (Sc : FnScope N ps (defScope st)) (bn : Binds K fd ps []) (gm : mg x = some (.ref f))
    (body : ∀ (cdv : Value) (A : Around) (outer : List PySem.Env) (s : Shared) (H : Hp) (E : XK), RoomG k (A.deeper (envOfC qual (defScope st) s.heap.objs.size f cdv)) →
      SB (cxOf (L2.CX P w) P w K mg base N qual (defScope st) f cdv A outer s H E) C (fun c d _ H => E c d H) (defBody st) b) :
    Fn P w K mg base C x (k + 1) ps.length (mOf N ps.length b) := ⟨f, fd, ps, fng_mk0 F Sc body, gm, F.kp, bn⟩
end
end Sh

set_option Elab.async false
set_option linter.all false
set_option maxRecDepth 100000
set_option maxHeartbeats 4000000
set_option autoImplicit false
namespace Sh
open PySem
/-! ### working out what a denotation says: values that leave the store as it was, but for new things behind it -/
theorem pre_get {S T : Store} (h : S <+: T) {l : Nat} {o : SO} (e : S[l]? = some o) : T[l]? = some o := by
  obtain ⟨J, rfl⟩ := h
  rw [List.getElem?_append_left (List.getElem?_eq_some_iff.mp e).1]
  exact e
theorem pre_self (S : Store) : S <+: S := List.prefix_rfl
theorem pre_new (S : Store) (o : SO) : S <+: S ++ [o] := List.prefix_append _ _
def Ev {α : Type} (f : EF α) (ρ : Rho) (S : Store) (a : α) : Prop := ∀ T, S <+: T → ∃ T', T <+: T' ∧ f ρ T = some (.ok a, T')
section
variable {α β : Type} {ρ : Rho} {S S' T : Store}
theorem Ev.up {f : EF α} {a : α} (h : Ev f ρ S a) (p : S <+: S') : Ev f ρ S' a := fun T q => h T (p.trans q)
theorem Ev.here {f : EF α} {a : α} (h : Ev f ρ S a) : ∃ T, S <+: T ∧ f ρ S = some (.ok a, T) := h S (pre_self S)
/-- the next step behind a value -/
theorem ev_bind {f : EF α} {a : α} {k : α → Store → Rs β} {b : β} (h : Ev f ρ S a) (hk : ∀ T, S <+: T → ∃ T', T <+: T' ∧ k a T = some (.ok b, T')) : Ev (fun ρ S => bindR (f ρ S) k) ρ S b := fun T p => by
  obtain ⟨T1, p1, e1⟩ := h T p
  obtain ⟨T2, p2, e2⟩ := hk T1 (p.trans p1)
  exact ⟨T2, p1.trans p2, by simp only [e1, bindR_ok, e2]⟩
theorem ev_var {i : Nat} {d : D} (h : ρ[i]? = some (some d)) : Ev (fVar i) ρ S d := fun T p => ⟨T, pre_self T, by simp [fVar, h]⟩
theorem ev_C {d : D} : Ev (fC d) ρ S d := fun T p => ⟨T, pre_self T, rfl⟩
theorem ev_nil : Ev fNil ρ S [] := fun T p => ⟨T, pre_self T, rfl⟩
theorem ev_cons {f : EF D} {g : EF (List D)} {d : D} {ds : List D} (a : Ev f ρ S d) (b : Ev g ρ S ds) : Ev (fCons f g) ρ S (d :: ds) :=
  ev_bind a fun T p => (b.up p) T (pre_self T) |>.elim fun T' ⟨q, e⟩ => ⟨T', q, by simp only [e, bindR_ok]⟩
theorem ev_un {p : P1} {f : EF D} {d e : D} (a : Ev f ρ S d) (h : ∀ T, S <+: T → p d T = okR e T) : Ev (fUn p f) ρ S e := ev_bind a fun T q => ⟨T, pre_self T, h T q⟩
theorem ev_bin {p : P2} {f g : EF D} {d e z : D} (a : Ev f ρ S d) (b : Ev g ρ S e) (h : ∀ T, S <+: T → p d e T = okR z T) : Ev (fBin p f g) ρ S z :=
  ev_bind a fun T q => (b.up q) T (pre_self T) |>.elim fun T' ⟨q', e⟩ => ⟨T', q', by simp only [e, bindR_ok]; exact h T' (q.trans q')⟩
theorem ev_call {p : PL} {g : EF (List D)} {ds : List D} {z : D} (a : Ev g ρ S ds) (h : ∀ T, S <+: T → p ds T = okR z T) : Ev (fCall p g) ρ S z := ev_bind a fun T q => ⟨T, pre_self T, h T q⟩
/-- a function of data -/
def Pu (m : M) (ds : List D) (S : Store) (z : D) : Prop := ∀ T, S <+: T → ∃ T', T <+: T' ∧ m ds T = some (.ok z, T')
theorem Pu.up {m : M} {ds : List D} {z : D} (h : Pu m ds S z) (p : S <+: S') : Pu m ds S' z := fun T q => h T (p.trans q)
theorem ev_app {n : Nat} {m : M} {g : EF (List D)} {ds : List D} {z : D} (a : Ev g ρ S ds) (hn : ds.length = n) (h : Pu m ds S z) : Ev (fApp n m g) ρ S z :=
  ev_bind a fun T q => by
    obtain ⟨T', q', e⟩ := h T q
    exact ⟨T', q', by rw [if_pos hn]; exact e⟩
theorem ev_tup {g : EF (List D)} {ds : List D} (a : Ev g ρ S ds) (hl : ds.length ≤ 16777216) : Ev (fTup g) ρ S (.tup ds) := ev_bind a fun T q => ⟨T, pre_self T, by rw [if_pos hl]⟩
theorem ev_lst {g : EF (List D)} {ds : List D} (a : Ev g ρ S ds) (hl : ds.length ≤ 16777216) : Ev (fLst g) ρ S ds := ev_bind a fun T q => ⟨T, pre_self T, by rw [if_pos hl]⟩
theorem ev_star {f : EF D} {g : EF (List D)} {d : D} {xs ds : List D} (a : Ev f ρ S d) (b : Ev g ρ S ds) (h : ∀ T, S <+: T → seqOf d T = some xs) : Ev (fStar f g) ρ S (xs ++ ds) :=
  ev_bind a fun T q => (b.up q) T (pre_self T) |>.elim fun T' ⟨q', e⟩ => ⟨T', q', by rw [h T q]; simp only [e, bindR_ok]⟩
theorem ev_T {f : EF D} {b : Bool} (a : Ev f ρ S (.bl b)) : Ev (fT f) ρ S b := fun T q => by
  obtain ⟨T', q', e⟩ := a T q
  exact ⟨T', q', by unfold fT; unfold asB; simp [e]⟩
theorem ev_Tru {f : EF D} {d : D} {b : Bool} (a : Ev f ρ S d) (h : ∀ T, S <+: T → truO d T = some b) : Ev (fTru f) ρ S b := ev_bind a fun T q => ⟨T, pre_self T, by rw [h T q]⟩
theorem ev_not {f : EF Bool} {b : Bool} (a : Ev f ρ S b) : Ev (tNotF f) ρ S (!b) := ev_bind a fun T q => ⟨T, pre_self T, rfl⟩
theorem ev_and {f g : EF Bool} {b c : Bool} (a : Ev f ρ S b) (h : b = true → Ev g ρ S c) : Ev (tAndF f g) ρ S (b && c) := ev_bind a fun T q => by
  cases b with
  | false => exact ⟨T, pre_self T, rfl⟩
  | true => exact ((h rfl).up q) T (pre_self T)
theorem ev_or {f g : EF Bool} {b c : Bool} (a : Ev f ρ S b) (h : b = false → Ev g ρ S c) : Ev (tOrF f g) ρ S (b || c) := ev_bind a fun T q => by
  cases b with
  | true => exact ⟨T, pre_self T, rfl⟩
  | false => exact ((h rfl).up q) T (pre_self T)
theorem ev_if {c : EF Bool} {f g : EF D} {b : Bool} {z : D} (a : Ev c ρ S b) (h1 : b = true → Ev f ρ S z) (h2 : b = false → Ev g ρ S z) : Ev (fIf c f g) ρ S z := ev_bind a fun T q => by
  cases b with
  | true => exact ((h1 rfl).up q) T (pre_self T)
  | false => exact ((h2 rfl).up q) T (pre_self T)
theorem ev_new {q : List D → Store → Rs D} {f : EF (List D)} {ds : List D} {z : D} (a : Ev f ρ S ds) (h : ∀ T, S <+: T → q ds T = okR z T) : Ev (fNew q f) ρ S z := ev_bind a fun T p => ⟨T, pre_self T, h T p⟩
theorem ev_list {f : EF D} {d : D} {ds : List D} (a : Ev f ρ S d) (h : ∀ T, S <+: T → seqOf d T = some ds) : Ev (fList f) ρ S ds := ev_bind a fun T q => ⟨T, pre_self T, by rw [h T q]⟩
theorem ev_cat {f g : EF (List D)} {xs ys : List D} (a : Ev f ρ S xs) (b : Ev g ρ S ys) (hl : xs.length + ys.length ≤ 16777216) : Ev (fCat f g) ρ S (xs ++ ys) :=
  ev_bind a fun T q => (b.up q) T (pre_self T) |>.elim fun T' ⟨q', e⟩ => ⟨T', q', by simp only [e, bindR_ok]; rw [if_pos hl]⟩
theorem ev_catE {f g : EF D} {d e : D} {xs ys : List D} (a : Ev f ρ S d) (b : Ev g ρ S e) (h1 : refSeq d S = some xs) (h2 : refSeq e S = some ys) (hl : xs.length + ys.length ≤ 16777216) : Ev (fCatE f g) ρ S (xs ++ ys) := by
  have mono : ∀ {d : D} {xs : List D} {T : Store}, S <+: T → refSeq d S = some xs → refSeq d T = some xs := fun {d xs T} p h => by
    cases d with
    | ref l =>
      simp only [refSeq] at h ⊢
      cases e : S[l]? with
      | none => rw [e] at h; cases h
      | some o => rw [e] at h; rw [pre_get p e]; exact h
    | _ => cases h
  exact ev_bind a fun T q => (b.up q) T (pre_self T) |>.elim fun T' ⟨q', e⟩ => ⟨T', q', by simp only [e, bindR_ok, mono (q.trans q') h1, mono (q.trans q') h2]; rw [if_pos hl]⟩
theorem ev_chain {p q : P2} {f g h : EF D} {d e k : D} {b : Bool} {z : D} (a : Ev f ρ S d) (c : Ev g ρ S e) (hp : ∀ T, S <+: T → p d e T = okR (.bl b) T) (h1 : b = true → Ev h ρ S k ∧ ∀ T, S <+: T → q e k T = okR z T) (h2 : b = false → z = .bl false) : Ev (fChain p q f g h) ρ S z :=
  ev_bind a fun T r => by
    obtain ⟨T1, r1, e1⟩ := (c.up r) T (pre_self T)
    cases b with
    | false =>
      cases h2 rfl
      exact ⟨T1, r1, by simp only [e1, bindR_ok, hp T1 (r.trans r1)]⟩
    | true =>
      obtain ⟨x, y⟩ := h1 rfl
      obtain ⟨T2, r2, e2⟩ := (x.up (r.trans r1)) T1 (pre_self T1)
      exact ⟨T2, r1.trans r2, by simp only [e1, bindR_ok, hp T1 (r.trans r1), e2]; exact y T2 ((r.trans r1).trans r2)⟩
theorem ev_fAnd {f g : EF D} {d z : D} {b : Bool} (a : Ev f ρ S d) (hd : d = .bl b) (h1 : b = true → Ev g ρ S z) (h2 : b = false → z = .bl false) : Ev (fAnd f g) ρ S z := by
  subst hd
  intro T q
  obtain ⟨T1, q1, e1⟩ := a T q
  cases b with
  | false =>
    cases h2 rfl
    exact ⟨T1, q1, by simp [fAnd, e1, asB]⟩
  | true =>
    obtain ⟨T2, q2, e2⟩ := ((h1 rfl).up (q.trans q1)) T1 (pre_self T1)
    exact ⟨T2, q1.trans q2, by simp [fAnd, e1, asB, e2]⟩
/-- a new list among the operands -/
theorem ev_bin_al {p : P2} {f : EF D} {g : EF (List D)} {d z : D} {ds : List D} (a : Ev f ρ S d) (b : Ev g ρ S ds) (h : ∀ T l, S <+: T → T[l]? = some (.lst ds) → p d (.ref l) T = okR z T) : Ev (fBin p f (fAl g)) ρ S z :=
  ev_bind a fun T q => by
    obtain ⟨T1, q1, e1⟩ := (b.up q) T (pre_self T)
    exact ⟨T1 ++ [.lst ds], q1.trans (pre_new _ _), by simp only [fAl, e1, bindR_ok]; exact h _ _ ((q.trans q1).trans (pre_new _ _)) (by simp)⟩
theorem ev_al_bin {p : P2} {f : EF (List D)} {g : EF D} {e z : D} {ds : List D} (a : Ev f ρ S ds) (b : Ev g ρ S e) (h : ∀ T l, S <+: T → T[l]? = some (.lst ds) → p (.ref l) e T = okR z T) : Ev (fBin p (fAl f) g) ρ S z := fun T q => by
  obtain ⟨T1, q1, e1⟩ := a T q
  obtain ⟨T2, q2, e2⟩ := (b.up ((q.trans q1).trans (pre_new _ (.lst ds)))) _ (pre_self _)
  exact ⟨T2, (q1.trans (pre_new _ _)).trans q2, by simp only [fBin, fAl, e1, bindR_ok, e2]; exact h _ _ (((q.trans q1).trans (pre_new _ _)).trans q2) (pre_get q2 (by simp))⟩

/-! ### comprehensions -/
open Classical in
theorem chk_all {p : List D × Chk} (h : ∀ q ∈ p.2, S[q.1]? = some (.lst q.2)) : chkOk p S = true := by
  unfold chkOk
  exact decide_eq_true h
theorem chk_up {p : List D × Chk} (h : ∀ q ∈ p.2, S[q.1]? = some (.lst q.2)) (r : S <+: T) : chkOk p T = true := chk_all fun q hq => pre_get r (h q hq)
theorem compGo_ev {g : GF} {t : EF Bool} {f : EF D} {p : List D × Chk} (hc : ∀ q ∈ p.2, S[q.1]? = some (.lst q.2)) (b : D → Bool) (z : D → D) :
    ∀ (ds acc : List D) (T : Store), S <+: T → acc.length + ds.length ≤ 16777216 → (∀ d ∈ ds, ∃ ρd, (∀ T, S <+: T → g d ρ T = some (ρd, T)) ∧ Ev t ρd S (b d) ∧ (b d = true → Ev f ρd S (z d))) →
      ∃ T', T <+: T' ∧ compGo g t f ρ p ds acc T = some (.ok (acc ++ (ds.filter b).map z), T')
  | [], acc, T, r, _, _ => ⟨T, pre_self T, by simp [compGo, chk_up hc r]⟩
  | d :: ds, acc, T, r, hl, h => by
    obtain ⟨ρd, h1, h2, h3⟩ := h d (List.mem_cons_self ..)
    obtain ⟨T1, r1, e1⟩ := (h2.up r) T (pre_self T)
    have hrest := fun x hx => h x (List.mem_cons_of_mem _ hx)
    simp only [List.length_cons] at hl
    cases hb : b d with
    | false =>
      rw [hb] at e1
      obtain ⟨T2, r2, e2⟩ := compGo_ev hc b z ds acc T1 (r.trans r1) (by omega) hrest
      refine ⟨T2, r1.trans r2, ?_⟩
      simp only [compGo, chk_up hc r, if_true, h1 T r, e1, noX_ok, bindR_ok, Bool.false_eq_true, if_false, e2, List.filter_cons, hb]
    | true =>
      rw [hb] at e1
      obtain ⟨T2, r2, e2⟩ := ((h3 hb).up (r.trans r1)) T1 (pre_self T1)
      obtain ⟨T3, r3, e3⟩ := compGo_ev hc b z ds (acc ++ [z d]) T2 ((r.trans r1).trans r2) (by simp; omega) hrest
      refine ⟨T3, (r1.trans r2).trans r3, ?_⟩
      have hz : acc.length < 16777216 := by omega
      simp only [compGo, chk_up hc r, if_true, h1 T r, e1, noX_ok, bindR_ok, e2, hz, e3, List.filter_cons, hb, List.map_cons, List.append_assoc, List.singleton_append]
theorem ev_comp {it : IF} {vs : List Nat} {g : GF} {t : EF Bool} {f : EF D} {p : List D × Chk} (a : Ev it ρ S p) (hc : ∀ q ∈ p.2, S[q.1]? = some (.lst q.2)) (b : D → Bool) (z : D → D) (hl : p.1.length ≤ 16777216)
    (h : ∀ d ∈ p.1, ∃ ρd, (∀ T, S <+: T → g d (wipeR ρ vs) T = some (ρd, T)) ∧ Ev t ρd S (b d) ∧ (b d = true → Ev f ρd S (z d))) : Ev (fComp it vs g t f) ρ S ((p.1.filter b).map z) :=
  ev_bind a fun T r => by
    obtain ⟨T', r', e⟩ := compGo_ev hc b z p.1 [] T r (by simpa using hl) h
    exact ⟨T', r', by simpa using e⟩
/-- without a test -/
theorem ev_map {it : IF} {vs : List Nat} {g : GF} {f : EF D} {p : List D × Chk} (a : Ev it ρ S p) (hc : ∀ q ∈ p.2, S[q.1]? = some (.lst q.2)) (z : D → D) (hl : p.1.length ≤ 16777216)
    (h : ∀ d ∈ p.1, ∃ ρd, (∀ T, S <+: T → g d (wipeR ρ vs) T = some (ρd, T)) ∧ Ev f ρd S (z d)) : Ev (fComp it vs g tTrue f) ρ S (p.1.map z) := by
  have := ev_comp (f := f) a hc (fun _ => true) z hl fun d hd => by
    obtain ⟨ρd, h1, h2⟩ := h d hd
    exact ⟨ρd, h1, fun T _ => ⟨T, pre_self T, rfl⟩, fun _ => h2⟩
  have e : p.1.filter (fun _ => true) = p.1 := by simp
  rw [e] at this
  exact this
theorem ev_iE {f : EF D} {d : D} {p : List D × Chk} (a : Ev f ρ S d) (h : ∀ T, S <+: T → walkOf d T = some p) : Ev (iE f) ρ S p := ev_bind a fun T q => ⟨T, pre_self T, by rw [h T q]⟩
theorem ev_iL {f : EF (List D)} {ds : List D} (a : Ev f ρ S ds) : Ev (iL f) ρ S (ds, []) := ev_bind a fun T q => ⟨T, pre_self T, rfl⟩
theorem ev_iR1 {g : EF (List D)} {j : Int} (a : Ev g ρ S [.int j]) (hj : j < 2 ^ 62 ∧ -(2 ^ 62) ≤ j) : Ev (iR1 g) ρ S (dInts 0 j.toNat, []) := ev_bind a fun T q => ⟨T, pre_self T, by simp only [if_pos hj]⟩

/-! ### statements -/
def Wp (b : SF) (ρ : Rho) (S : Store) (Q : Fl → Store → Prop) : Prop := ∃ fl T, b ρ S = some (fl, T) ∧ Q fl T
theorem Wp.mono {b : SF} {Q Q' : Fl → Store → Prop} (h : Wp b ρ S Q) (k : ∀ fl T, Q fl T → Q' fl T) : Wp b ρ S Q' := let ⟨fl, T, e, q⟩ := h; ⟨fl, T, e, k fl T q⟩
theorem wp_seq {a b : SF} {Q : Fl → Store → Prop} (h : Wp a ρ S fun fl T => match fl with | .nx ρ' => Wp b ρ' T Q | x => Q x T) : Wp (sSeq a b) ρ S Q := by
  obtain ⟨fl, T, e, q⟩ := h
  cases fl with
  | nx ρ' => obtain ⟨fl2, T2, e2, q2⟩ := q; exact ⟨fl2, T2, by simp only [sSeq, e, e2], q2⟩
  | _ => exact ⟨_, T, by simp only [sSeq, e], q⟩
theorem wp_nil {Q : Fl → Store → Prop} (h : Q (.nx ρ) S) : Wp sNil ρ S Q := ⟨_, _, rfl, h⟩
theorem wp_set {f : EF D} {d : D} {i : Nat} {Q : Fl → Store → Prop} (a : Ev f ρ S d) (h : ∀ T, S <+: T → Q (.nx (ρ.set i (some d))) T) : Wp (sAsg f (gN i)) ρ S Q := by
  obtain ⟨T, p, e⟩ := a.here
  exact ⟨_, T, by simp only [sAsg, e, toS_ok, gN], h T p⟩
theorem wp_setL {f : EF (List D)} {ds : List D} {i : Nat} {Q : Fl → Store → Prop} (a : Ev f ρ S ds) (h : ∀ T l, S <+: T → S.length ≤ l → T[l]? = some (.lst ds) → Q (.nx (ρ.set i (some (.ref l)))) T) : Wp (sAsg (fAl f) (gN i)) ρ S Q := by
  obtain ⟨T, p, e⟩ := a.here
  refine ⟨_, T ++ [.lst ds], by simp only [sAsg, fAl, e, bindR_ok, toS_ok, gN], h _ _ (p.trans (pre_new _ _)) p.length_le (by simp)⟩
theorem wp_ret {f : EF D} {d : D} {Q : Fl → Store → Prop} (a : Ev f ρ S d) (h : ∀ T, S <+: T → Q (.ret d) T) : Wp (sRet f) ρ S Q := by
  obtain ⟨T, p, e⟩ := a.here
  exact ⟨_, T, by simp only [sRet, e, toS_ok], h T p⟩
theorem wp_retL {f : EF (List D)} {ds : List D} {Q : Fl → Store → Prop} (a : Ev f ρ S ds) (h : ∀ T l, S <+: T → S.length ≤ l → T[l]? = some (.lst ds) → Q (.ret (.ref l)) T) : Wp (sRet (fAl f)) ρ S Q := by
  obtain ⟨T, p, e⟩ := a.here
  exact ⟨_, T ++ [.lst ds], by simp only [sRet, fAl, e, bindR_ok, toS_ok], h _ _ (p.trans (pre_new _ _)) p.length_le (by simp)⟩
theorem wp_if {c : EF Bool} {f g : SF} {b : Bool} {Q : Fl → Store → Prop} (a : Ev c ρ S b) (h1 : b = true → ∀ T, S <+: T → Wp f ρ T Q) (h2 : b = false → ∀ T, S <+: T → Wp g ρ T Q) : Wp (sIf c f g) ρ S Q := by
  obtain ⟨T, p, e⟩ := a.here
  cases b with
  | true => obtain ⟨fl, T', e', q⟩ := h1 rfl T p; exact ⟨fl, T', by simp only [sIf, e, toS_ok, if_true, e'], q⟩
  | false => obtain ⟨fl, T', e', q⟩ := h2 rfl T p; exact ⟨fl, T', by simp only [sIf, e, toS_ok, Bool.false_eq_true, if_false, e'], q⟩
theorem wp_expr {f : EF D} {d : D} {Q : Fl → Store → Prop} (a : Ev f ρ S d) (h : ∀ T, S <+: T → Q (.nx ρ) T) : Wp (sExpr f) ρ S Q := by
  obtain ⟨T, p, e⟩ := a.here
  exact ⟨_, T, by simp only [sExpr, e, toS_ok], h T p⟩
/-- a loop over what stands, by an invariant of the items done -/
theorem forGo_wp {g : GF} {b : SF} {p : List D × Chk} {Q : Fl → Store → Prop} (I : List D → Rho → Store → Prop) (hk : ∀ n ρ T, I n ρ T → ∀ q ∈ p.2, T[q.1]? = some (.lst q.2)) :
    ∀ (done rest : List D) (ρ : Rho) (S : Store), done ++ rest = p.1 → I done ρ S →
      (∀ done d rest ρ T, done ++ d :: rest = p.1 → I done ρ T → ∃ ρ1 T1, g d ρ T = some (ρ1, T1) ∧ Wp b ρ1 T1 fun fl T2 => match fl with | .nx ρ2 => I (done ++ [d]) ρ2 T2 | .ct ρ2 => I (done ++ [d]) ρ2 T2 | .bk ρ2 => Q (.nx ρ2) T2 | x => Q x T2) →
      (∀ ρ T, I p.1 ρ T → Q (.nx ρ) T) → ∃ fl T, forGo g b p rest ρ S = some (fl, T) ∧ Q fl T
  | done, [], ρ, S, e, hI, _, hE => by
    rw [List.append_nil] at e
    subst e
    have : chkOk p S = true := chk_all (hk _ _ _ hI)
    exact ⟨.nx ρ, S, by simp [forGo, this], hE ρ S hI⟩
  | done, d :: rest, ρ, S, e, hI, hS, hE => by
    have ck : chkOk p S = true := chk_all (hk _ _ _ hI)
    obtain ⟨ρ1, T1, e1, fl, T2, e2, q⟩ := hS done d rest ρ S e hI
    have e' : done ++ [d] ++ rest = p.1 := by rw [List.append_assoc]; exact e
    cases fl with
    | nx ρ2 =>
      obtain ⟨fl3, T3, e3, q3⟩ := forGo_wp I hk (done ++ [d]) rest ρ2 T2 e' q hS hE
      exact ⟨fl3, T3, by simp only [forGo, ck, if_true, e1, e2, e3], q3⟩
    | ct ρ2 =>
      obtain ⟨fl3, T3, e3, q3⟩ := forGo_wp I hk (done ++ [d]) rest ρ2 T2 e' q hS hE
      exact ⟨fl3, T3, by simp only [forGo, ck, if_true, e1, e2, e3], q3⟩
    | bk ρ2 => exact ⟨_, T2, by simp only [forGo, ck, if_true, e1, e2], q⟩
    | ret d' => exact ⟨_, T2, by simp only [forGo, ck, if_true, e1, e2], q⟩
    | exn x ρ2 => exact ⟨_, T2, by simp only [forGo, ck, if_true, e1, e2], q⟩
theorem wp_for {it : IF} {g : GF} {b : SF} {p : List D × Chk} {Q : Fl → Store → Prop} (a : Ev it ρ S p) (I : List D → Rho → Store → Prop) (hk : ∀ n ρ T, I n ρ T → ∀ q ∈ p.2, T[q.1]? = some (.lst q.2)) (h0 : ∀ T, S <+: T → I [] ρ T)
    (hS : ∀ done d rest ρ T, done ++ d :: rest = p.1 → I done ρ T → ∃ ρ1 T1, g d ρ T = some (ρ1, T1) ∧ Wp b ρ1 T1 fun fl T2 => match fl with | .nx ρ2 => I (done ++ [d]) ρ2 T2 | .ct ρ2 => I (done ++ [d]) ρ2 T2 | .bk ρ2 => Q (.nx ρ2) T2 | x => Q x T2)
    (hE : ∀ ρ T, I p.1 ρ T → Q (.nx ρ) T) : Wp (sFor it g b) ρ S Q := by
  obtain ⟨T, r, e⟩ := a.here
  obtain ⟨fl, T2, e2, q⟩ := forGo_wp I hk [] p.1 ρ T rfl (h0 T r) hS hE
  exact ⟨fl, T2, by simp only [sFor, e, toS_ok, e2], q⟩
/-- a loop by a measure -/
theorem wp_while {c : EF Bool} {b : SF} {Q : Fl → Store → Prop} (I : Nat → Rho → Store → Prop)
    (h : ∀ n ρ S, I n ρ S → ∃ x, Ev c ρ S x ∧ (x = false → ∀ T, S <+: T → Q (.nx ρ) T) ∧ (x = true → ∀ T, S <+: T → Wp b ρ T fun fl T2 => match fl with | .nx ρ2 => ∃ k, k < n ∧ I k ρ2 T2 | .ct ρ2 => ∃ k, k < n ∧ I k ρ2 T2 | .bk ρ2 => Q (.nx ρ2) T2 | y => Q y T2)) :
    ∀ (n : Nat) (ρ : Rho) (S : Store), I n ρ S → Wp (sWhile c b) ρ S Q := by
  have main : ∀ (n : Nat) (ρ : Rho) (S : Store), I n ρ S → ∃ fl T, whileN c b (n + 1) ρ S = some (fl, T) ∧ Q fl T := by
    intro n
    induction n using Nat.strongRecOn with
    | _ n ih =>
      intro ρ S hI
      obtain ⟨x, e, h1, h2⟩ := h n ρ S hI
      obtain ⟨T, r, e⟩ := e.here
      cases x with
      | false => exact ⟨_, T, by simp [whileN, e], h1 rfl T r⟩
      | true =>
        obtain ⟨fl, T2, e2, q⟩ := h2 rfl T r
        cases fl with
        | nx ρ2 =>
          obtain ⟨k, hk, hI2⟩ := q
          obtain ⟨fl3, T3, e3, q3⟩ := ih k hk ρ2 T2 hI2
          have e4 := whileN_le e3 (show k + 1 ≤ n by omega)
          exact ⟨fl3, T3, by simp only [whileN, e, toS_ok, if_true, e2, e4], q3⟩
        | ct ρ2 =>
          obtain ⟨k, hk, hI2⟩ := q
          obtain ⟨fl3, T3, e3, q3⟩ := ih k hk ρ2 T2 hI2
          have e4 := whileN_le e3 (show k + 1 ≤ n by omega)
          exact ⟨fl3, T3, by simp only [whileN, e, toS_ok, if_true, e2, e4], q3⟩
        | bk ρ2 => exact ⟨_, T2, by simp only [whileN, e, toS_ok, if_true, e2], q⟩
        | ret d' => exact ⟨_, T2, by simp only [whileN, e, toS_ok, if_true, e2], q⟩
        | exn x ρ2 => exact ⟨_, T2, by simp only [whileN, e, toS_ok, if_true, e2], q⟩
  intro n ρ S hI
  obtain ⟨fl, T, e, q⟩ := main n ρ S hI
  exact ⟨fl, T, sWhile_of e, q⟩
/-- from a body to a def -/
theorem mOf_wp {N : List Str} {np : Nat} {b : SF} {ds : List D} {Q : Except Ex D → Store → Prop} (hl : ds.length = np)
    (h : Wp b (startR N.length ds) S fun fl T => match fl with | .ret d => Q (.ok d) T | .nx _ => Q (.ok .non) T | .exn e _ => Q (.error e) T | _ => False) : ∃ r T, mOf N np b ds S = some (r, T) ∧ Q r T := by
  obtain ⟨fl, T, e, q⟩ := h
  unfold mOf
  rw [if_pos hl, e]
  cases fl with
  | ret d => exact ⟨_, T, rfl, q⟩
  | nx ρ => exact ⟨_, T, rfl, q⟩
  | exn e ρ => exact ⟨_, T, rfl, q⟩
  | bk ρ => exact q.elim
  | ct ρ => exact q.elim
theorem pu_of {N : List Str} {np : Nat} {b : SF} {ds : List D} {z : D} (hl : ds.length = np)
    (h : ∀ S', S <+: S' → Wp b (startR N.length ds) S' fun fl T => match fl with | .ret d => d = z ∧ S' <+: T | .nx _ => z = .non ∧ S' <+: T | _ => False) : Pu (mOf N np b) ds S z := fun T p => by
  obtain ⟨r, T', e, q⟩ := mOf_wp (S := T) (ds := ds) (Q := fun r T' => r = .ok z ∧ T <+: T') hl ((h T p).mono fun fl T' q => by
    cases fl with
    | ret d => exact ⟨by rw [q.1], q.2⟩
    | nx ρ => exact ⟨by rw [q.1], q.2⟩
    | _ => exact q.elim)
  obtain ⟨rfl, q⟩ := q
  exact ⟨T', q, e⟩
end
end Sh

set_option Elab.async false
set_option linter.all false
set_option maxRecDepth 100000
set_option maxHeartbeats 4000000
set_option autoImplicit false
namespace Sh
open PySem L2
/-! ### working out what a denotation says: values that change the store -/
def We {α : Type} (f : EF α) (ρ : Rho) (S : Store) (Q : α → Store → Prop) : Prop := ∃ a T, f ρ S = some (.ok a, T) ∧ Q a T
section
variable {α β : Type} {ρ : Rho} {S : Store}
theorem We.mono {f : EF α} {Q Q' : α → Store → Prop} (h : We f ρ S Q) (k : ∀ a T, Q a T → Q' a T) : We f ρ S Q' := let ⟨a, T, e, q⟩ := h; ⟨a, T, e, k a T q⟩
theorem we_ev {f : EF α} {a : α} {Q : α → Store → Prop} (h : Ev f ρ S a) (k : ∀ T, S <+: T → Q a T) : We f ρ S Q := let ⟨T, p, e⟩ := h.here; ⟨a, T, e, k T p⟩
theorem we_bind {f : EF α} {k : α → Store → Rs β} {Q : β → Store → Prop} (h : We f ρ S fun a T => ∃ b T', k a T = some (.ok b, T') ∧ Q b T') : We (fun ρ S => bindR (f ρ S) k) ρ S Q := by
  obtain ⟨a, T, e, b, T', e', q⟩ := h
  exact ⟨b, T', by simp only [e, bindR_ok, e'], q⟩
theorem we_var {i : Nat} {d : D} {Q : D → Store → Prop} (h : ρ[i]? = some (some d)) (q : Q d S) : We (fVar i) ρ S Q := ⟨d, S, by simp [fVar, h], q⟩
theorem we_C {d : D} {Q : D → Store → Prop} (q : Q d S) : We (fC d) ρ S Q := ⟨d, S, rfl, q⟩
theorem we_nil {Q : List D → Store → Prop} (q : Q [] S) : We fNil ρ S Q := ⟨[], S, rfl, q⟩
theorem we_cons {f : EF D} {g : EF (List D)} {Q : List D → Store → Prop} (h : We f ρ S fun d T => We g ρ T fun ds T' => Q (d :: ds) T') : We (fCons f g) ρ S Q :=
  we_bind (h.mono fun d T ⟨ds, T', e, q⟩ => ⟨d :: ds, T', by simp only [e, bindR_ok], q⟩)
theorem we_un {p : P1} {f : EF D} {Q : D → Store → Prop} (h : We f ρ S fun d T => ∃ z, p d T = okR z T ∧ Q z T) : We (fUn p f) ρ S Q := we_bind (h.mono fun d T ⟨z, e, q⟩ => ⟨z, T, e, q⟩)
theorem we_bin {p : P2} {f g : EF D} {Q : D → Store → Prop} (h : We f ρ S fun d T => We g ρ T fun e T' => ∃ z, p d e T' = okR z T' ∧ Q z T') : We (fBin p f g) ρ S Q :=
  we_bind (h.mono fun d T ⟨e, T', e1, z, e2, q⟩ => ⟨z, T', by simp only [e1, bindR_ok, e2], q⟩)
theorem we_call {p : PL} {g : EF (List D)} {Q : D → Store → Prop} (h : We g ρ S fun ds T => ∃ z, p ds T = okR z T ∧ Q z T) : We (fCall p g) ρ S Q := we_bind (h.mono fun d T ⟨z, e, q⟩ => ⟨z, T, e, q⟩)
theorem we_app {n : Nat} {m : M} {g : EF (List D)} {Q : D → Store → Prop} (h : We g ρ S fun ds T => ds.length = n ∧ ∃ z T', m ds T = some (.ok z, T') ∧ Q z T') : We (fApp n m g) ρ S Q :=
  we_bind (h.mono fun ds T ⟨hl, z, T', e, q⟩ => ⟨z, T', by rw [if_pos hl, e], q⟩)
theorem we_tup {g : EF (List D)} {Q : D → Store → Prop} (h : We g ρ S fun ds T => ds.length ≤ 16777216 ∧ Q (.tup ds) T) : We (fTup g) ρ S Q := we_bind (h.mono fun ds T ⟨hl, q⟩ => ⟨_, T, by rw [if_pos hl], q⟩)
theorem we_lst {g : EF (List D)} {Q : List D → Store → Prop} (h : We g ρ S fun ds T => ds.length ≤ 16777216 ∧ Q ds T) : We (fLst g) ρ S Q := we_bind (h.mono fun ds T ⟨hl, q⟩ => ⟨_, T, by rw [if_pos hl], q⟩)
theorem we_new {p : List D → Store → Rs D} {f : EF (List D)} {Q : D → Store → Prop} (h : We f ρ S fun ds T => ∃ z, p ds T = okR z T ∧ Q z T) : We (fNew p f) ρ S Q := we_bind (h.mono fun d T ⟨z, e, q⟩ => ⟨z, T, e, q⟩)
theorem we_al {f : EF (List D)} {Q : D → Store → Prop} (h : We f ρ S fun ds T => Q (.ref T.length) (T ++ [.lst ds])) : We (fAl f) ρ S Q := we_bind (h.mono fun ds T q => ⟨_, _, rfl, q⟩)
theorem we_list {f : EF D} {Q : List D → Store → Prop} (h : We f ρ S fun d T => ∃ ds, seqOf d T = some ds ∧ Q ds T) : We (fList f) ρ S Q := we_bind (h.mono fun d T ⟨ds, e, q⟩ => ⟨ds, T, by rw [e], q⟩)
theorem we_cat {f g : EF (List D)} {Q : List D → Store → Prop} (h : We f ρ S fun xs T => We g ρ T fun ys T' => xs.length + ys.length ≤ 16777216 ∧ Q (xs ++ ys) T') : We (fCat f g) ρ S Q :=
  we_bind (h.mono fun xs T ⟨ys, T', e, hl, q⟩ => ⟨_, T', by simp only [e, bindR_ok]; rw [if_pos hl], q⟩)
theorem we_T {f : EF D} {Q : Bool → Store → Prop} (h : We f ρ S fun d T => ∃ b, d = .bl b ∧ Q b T) : We (fT f) ρ S Q := by
  obtain ⟨d, T, e, b, rfl, q⟩ := h
  exact ⟨b, T, by unfold fT asB; simp [e], q⟩
theorem we_Tru {f : EF D} {Q : Bool → Store → Prop} (h : We f ρ S fun d T => ∃ b, truO d T = some b ∧ Q b T) : We (fTru f) ρ S Q := we_bind (h.mono fun d T ⟨b, e, q⟩ => ⟨b, T, by rw [e], q⟩)
theorem we_not {f : EF Bool} {Q : Bool → Store → Prop} (h : We f ρ S fun b T => Q (!b) T) : We (tNotF f) ρ S Q := we_bind (h.mono fun b T q => ⟨_, T, rfl, q⟩)
theorem we_or {f g : EF Bool} {Q : Bool → Store → Prop} (h : We f ρ S fun b T => (b = true → Q true T) ∧ (b = false → We g ρ T Q)) : We (tOrF f g) ρ S Q := we_bind (h.mono fun b T ⟨q1, q2⟩ => by
  cases b with
  | true => exact ⟨true, T, rfl, q1 rfl⟩
  | false => exact q2 rfl)
theorem we_and {f g : EF Bool} {Q : Bool → Store → Prop} (h : We f ρ S fun b T => (b = false → Q false T) ∧ (b = true → We g ρ T Q)) : We (tAndF f g) ρ S Q := we_bind (h.mono fun b T ⟨q1, q2⟩ => by
  cases b with
  | false => exact ⟨false, T, rfl, q1 rfl⟩
  | true => exact q2 rfl)
theorem we_if {c : EF Bool} {f g : EF D} {Q : D → Store → Prop} (h : We c ρ S fun b T => (b = true → We f ρ T Q) ∧ (b = false → We g ρ T Q)) : We (fIf c f g) ρ S Q := we_bind (h.mono fun b T ⟨q1, q2⟩ => by
  cases b with
  | true => exact q1 rfl
  | false => exact q2 rfl)
theorem we_iE {f : EF D} {Q : List D × Chk → Store → Prop} (h : We f ρ S fun d T => ∃ p, walkOf d T = some p ∧ Q p T) : We (iE f) ρ S Q := we_bind (h.mono fun d T ⟨p, e, q⟩ => ⟨p, T, by rw [e], q⟩)
theorem we_iL {f : EF (List D)} {Q : List D × Chk → Store → Prop} (h : We f ρ S fun ds T => Q (ds, []) T) : We (iL f) ρ S Q := we_bind (h.mono fun ds T q => ⟨_, T, rfl, q⟩)
theorem we_iR1 {g : EF (List D)} {Q : List D × Chk → Store → Prop} (h : We g ρ S fun ds T => ∃ j : Int, ds = [.int j] ∧ (j < 2 ^ 62 ∧ -(2 ^ 62) ≤ j) ∧ Q (dInts 0 j.toNat, []) T) : We (iR1 g) ρ S Q :=
  we_bind (h.mono fun ds T ⟨j, e, hj, q⟩ => ⟨_, T, by subst e; simp only [if_pos hj], q⟩)
theorem we_apd {f g : EF D} {l : Nat} {Q : D → Store → Prop} (h : We f ρ S fun d T => d = .ref l ∧ (∃ ds, T[l]? = some (.lst ds)) ∧ We g ρ T fun e T2 => ∃ ds, T2[l]? = some (.lst ds) ∧ ds.length < 16777216 ∧ Q .non (T2.set l (.lst (ds ++ [e])))) : We (fApd f g) ρ S Q := by
  obtain ⟨d, T, e1, rfl, ⟨ds0, e2⟩, e, T2, e3, ds, e4, hl, q⟩ := h
  exact ⟨.non, _, by simp only [fApd, e1, e2, e3, bindR_ok, e4, if_pos hl], q⟩
theorem compGo_we {g : GF} {t : EF Bool} {f : EF D} {p : List D × Chk} (I : List D → List D → Store → Prop) (hk : ∀ n a T, I n a T → ∀ q ∈ p.2, T[q.1]? = some (.lst q.2))
    (hS : ∀ done d rest acc T, done ++ d :: rest = p.1 → I done acc T → ∃ ρ2 T2, g d ρ T = some (ρ2, T2) ∧ We t ρ2 T2 fun b T3 => (b = true → We f ρ2 T3 fun y T4 => acc.length < 16777216 ∧ I (done ++ [d]) (acc ++ [y]) T4) ∧ (b = false → I (done ++ [d]) acc T3)) :
    ∀ (done rest acc : List D) (S : Store), done ++ rest = p.1 → I done acc S → ∃ acc' T, compGo g t f ρ p rest acc S = some (.ok acc', T) ∧ I p.1 acc' T
  | done, [], acc, S, e, hI => by
    rw [List.append_nil] at e
    subst e
    exact ⟨acc, S, by simp [compGo, chk_all (hk _ _ _ hI)], hI⟩
  | done, d :: rest, acc, S, e, hI => by
    obtain ⟨ρ2, T2, e1, b, T3, e2, q1, q2⟩ := hS done d rest acc S e hI
    have e' : done ++ [d] ++ rest = p.1 := by rw [List.append_assoc]; exact e
    cases b with
    | true =>
      obtain ⟨y, T4, e3, hz, hI2⟩ := q1 rfl
      obtain ⟨acc', T5, e4, hI3⟩ := compGo_we I hk hS (done ++ [d]) rest (acc ++ [y]) T4 e' hI2
      exact ⟨acc', T5, by simp only [compGo, chk_all (hk _ _ _ hI), if_true, e1, e2, noX_ok, bindR_ok, e3, hz, e4], hI3⟩
    | false =>
      obtain ⟨acc', T5, e4, hI3⟩ := compGo_we I hk hS (done ++ [d]) rest acc T3 e' (q2 rfl)
      exact ⟨acc', T5, by simp only [compGo, chk_all (hk _ _ _ hI), if_true, e1, e2, noX_ok, bindR_ok, Bool.false_eq_true, if_false, e4], hI3⟩
theorem we_comp {it : IF} {vs : List Nat} {g : GF} {t : EF Bool} {f : EF D} {Q : List D → Store → Prop}
    (h : We it ρ S fun p T => ∃ I : List D → List D → Store → Prop, (∀ n a T, I n a T → ∀ q ∈ p.2, T[q.1]? = some (.lst q.2)) ∧ I [] [] T ∧
      (∀ done d rest acc T, done ++ d :: rest = p.1 → I done acc T → ∃ ρ2 T2, g d (wipeR ρ vs) T = some (ρ2, T2) ∧ We t ρ2 T2 fun b T3 => (b = true → We f ρ2 T3 fun y T4 => acc.length < 16777216 ∧ I (done ++ [d]) (acc ++ [y]) T4) ∧ (b = false → I (done ++ [d]) acc T3)) ∧
      ∀ acc T, I p.1 acc T → Q acc T) : We (fComp it vs g t f) ρ S Q :=
  we_bind (h.mono fun p T ⟨I, hk, h0, hS, hE⟩ => by
    obtain ⟨acc, T', e, hI⟩ := compGo_we I hk hS [] p.1 [] T rfl h0
    exact ⟨acc, T', e, hE _ _ hI⟩)
/-- without a test, over what does not stand in the store: each item's value has V, the store keeps I -/
theorem we_mapI {it : IF} {vs : List Nat} {i : Nat} {f : EF D} {Q : List D → Store → Prop} (I : Store → Prop) (V : D → Prop)
    (h : We it ρ S fun p T => p.2 = [] ∧ p.1.length ≤ 16777216 ∧ I T ∧ (∀ d T, d ∈ p.1 → I T → We f ((wipeR ρ vs).set i (some d)) T fun y T' => V y ∧ I T') ∧ ∀ ys T', ys.length = p.1.length → (∀ y ∈ ys, V y) → I T' → Q ys T') : We (fComp it vs (gN i) tTrue f) ρ S Q :=
  we_comp (h.mono fun p T ⟨hp, hl, h0, hS, hE⟩ => ⟨fun done acc T => acc.length = done.length ∧ (∀ y ∈ acc, V y) ∧ I T, (by rw [hp]; intro _ _ _ _ q hq; cases hq), ⟨rfl, (fun y hy => by cases hy), h0⟩,
    fun done d rest acc T e ⟨h1, h2, h3⟩ => ⟨_, T, rfl, true, T, rfl, fun _ => (hS d T (by rw [← e]; exact List.mem_append_right _ (List.mem_cons_self ..)) h3).mono fun y T4 ⟨v, hI⟩ => ⟨by rw [h1]; have := congrArg List.length e; simp at this; omega, by simp [h1], fun z hz => by
      rcases List.mem_append.mp hz with hz | hz
      · exact h2 z hz
      · cases List.mem_singleton.mp hz; exact v, hI⟩, fun q => by cases q⟩, fun acc T' ⟨h1, h2, h3⟩ => hE acc T' h1 h2 h3⟩)
/-! ### statements -/
theorem wpe_set {f : EF D} {i : Nat} {Q : Fl → Store → Prop} (a : We f ρ S fun d T => Q (.nx (ρ.set i (some d))) T) : Wp (sAsg f (gN i)) ρ S Q := by
  obtain ⟨d, T, e, q⟩ := a
  exact ⟨_, T, by simp only [sAsg, e, toS_ok, gN], q⟩
theorem wpe_setIx {f fo fi : EF D} {Q : Fl → Store → Prop} (a : We f ρ S fun d T => We fo ρ T fun o T1 => We fi ρ T1 fun i T2 => ∃ l k ds j, o = .ref l ∧ i = .int k ∧ T2[l]? = some (.lst ds) ∧ ixN ds.length k = some j ∧ Q (.nx ρ) (T2.set l (.lst (ds.set j d)))) : Wp (sAsg f (gIx fo fi)) ρ S Q := by
  obtain ⟨d, T, e, o, T1, e1, i, T2, e2, l, k, ds, j, rfl, rfl, e3, e4, q⟩ := a
  exact ⟨_, _, by simp only [sAsg, e, toS_ok, gIx, e1, e2, e3, e4], q⟩
theorem wpe_ret {f : EF D} {Q : Fl → Store → Prop} (a : We f ρ S fun d T => Q (.ret d) T) : Wp (sRet f) ρ S Q := by
  obtain ⟨d, T, e, q⟩ := a
  exact ⟨_, T, by simp only [sRet, e, toS_ok], q⟩
theorem wpe_if {c : EF Bool} {f g : SF} {Q : Fl → Store → Prop} (a : We c ρ S fun b T => (b = true → Wp f ρ T Q) ∧ (b = false → Wp g ρ T Q)) : Wp (sIf c f g) ρ S Q := by
  obtain ⟨b, T, e, q1, q2⟩ := a
  cases b with
  | true => obtain ⟨fl, T', e', q⟩ := q1 rfl; exact ⟨fl, T', by simp only [sIf, e, toS_ok, if_true, e'], q⟩
  | false => obtain ⟨fl, T', e', q⟩ := q2 rfl; exact ⟨fl, T', by simp only [sIf, e, toS_ok, Bool.false_eq_true, if_false, e'], q⟩
theorem wpe_expr {f : EF D} {Q : Fl → Store → Prop} (a : We f ρ S fun _ T => Q (.nx ρ) T) : Wp (sExpr f) ρ S Q := by
  obtain ⟨d, T, e, q⟩ := a
  exact ⟨_, T, by simp only [sExpr, e, toS_ok], q⟩
theorem wpe_for {it : IF} {g : GF} {b : SF} {Q : Fl → Store → Prop} (a : We it ρ S fun p T => ∃ I : List D → Rho → Store → Prop, (∀ n ρ T, I n ρ T → ∀ q ∈ p.2, T[q.1]? = some (.lst q.2)) ∧ I [] ρ T ∧
    (∀ done d rest ρ T, done ++ d :: rest = p.1 → I done ρ T → ∃ ρ1 T1, g d ρ T = some (ρ1, T1) ∧ Wp b ρ1 T1 fun fl T2 => match fl with | .nx ρ2 => I (done ++ [d]) ρ2 T2 | .ct ρ2 => I (done ++ [d]) ρ2 T2 | .bk ρ2 => Q (.nx ρ2) T2 | x => Q x T2) ∧
    (∀ ρ T, I p.1 ρ T → Q (.nx ρ) T)) : Wp (sFor it g b) ρ S Q := by
  obtain ⟨p, T, e, I, hk, h0, hS, hE⟩ := a
  obtain ⟨fl, T2, e2, q⟩ := forGo_wp I hk [] p.1 ρ T rfl h0 hS hE
  exact ⟨fl, T2, by simp only [sFor, e, toS_ok, e2], q⟩
end
end Sh

set_option Elab.async false
set_option linter.all false
set_option maxRecDepth 100000
set_option maxHeartbeats 4000000
set_option autoImplicit false
namespace Sh
open PySem L2
/-! ### values -/
section
variable {S T : Store} {i j : Int}
theorem mulR (h : -(2 ^ 64) < j ∧ j < 2 ^ 64) : pI2 gMul (.int i) (.int j) S = okR (.int (i * j)) S := by simp only [pI2, gMul]; rw [if_pos (.inr h)]
theorem mulL (h : -(2 ^ 64) < i ∧ i < 2 ^ 64) : pI2 gMul (.int i) (.int j) S = okR (.int (i * j)) S := by simp only [pI2, gMul]; rw [if_pos (.inl h)]
theorem modI (h : j ≠ 0) : pI2 gMod (.int i) (.int j) S = okR (.int (i.fmod j)) S := by simp only [pI2, gMod]; rw [if_pos h]
theorem divI (h : j ≠ 0 ∧ j.natAbs < 1073741824) : pI2 gDiv (.int i) (.int j) S = okR (.int (i.fdiv j)) S := by simp only [pI2, gDiv]; rw [if_pos h]
theorem lenR {l : Nat} {ds : List D} (h : S[l]? = some (.lst ds)) : p1L pLen [.ref l] S = okR (.int ds.length) S := by simp only [p1L, pLen, h]
theorem ixR {l : Nat} {ds : List D} {d : D} (h : S[l]? = some (.lst ds)) (e : atI ds i = some d) : pIx (.ref l) (.int i) S = okR d S := by simp only [pIx, h, e]
theorem ixT {ds : List D} {d : D} (e : atI ds i = some d) : pIx (.tup ds) (.int i) S = okR d S := by simp only [pIx, e]
theorem ixN_nat {n k : Nat} (h : k < n) : ixN n (k : Int) = some k := by
  unfold ixN
  rw [if_pos (by omega), if_pos (by omega)]
  simp
theorem atI_of {α : Type} {xs : List α} {k : Nat} (h : k < xs.length) : atI xs (k : Int) = some xs[k] := by
  unfold atI
  rw [ixN_nat h]
  simp [h]
/-- an index within the bounds -/
theorem atI_in {α : Type} {xs : List α} (h0 : 0 ≤ i) (h1 : i < xs.length) : ∃ x, atI xs i = some x ∧ x ∈ xs ∧ xs[i.toNat]? = some x := by
  obtain ⟨k, rfl⟩ := Int.eq_ofNat_of_zero_le h0
  have hk : k < xs.length := by omega
  exact ⟨xs[k], atI_of hk, List.getElem_mem hk, by simp [hk]⟩
theorem pre_set {l : Nat} {o : SO} (h : S <+: T) (hl : S.length ≤ l) : S <+: T.set l o := by
  obtain ⟨J, rfl⟩ := h
  rw [List.set_append_right _ _ hl]
  exact List.prefix_append _ _
theorem eqv_int {a b : Int} : PyData.eqv (.int a) (.int b) = (a == b) := by
  simp [PyData.eqv]
theorem eqI : pEq (.int i) (.int j) S = okR (.bl (i == j)) S := by simp [pEq, eqO, pyD, eqv_int]
theorem neI : pNe (.int i) (.int j) S = okR (.bl (!(i == j))) S := by simp [pNe, eqO, pyD, eqv_int]
theorem mem_dInts {lo : Int} {n : Nat} {d : D} (h : d ∈ dInts lo n) : ∃ k : Nat, k < n ∧ d = .int (lo + (k : Nat)) := by
  unfold dInts at h
  obtain ⟨k, hk, rfl⟩ := List.mem_map.mp h
  exact ⟨k, List.mem_range.mp hk, rfl⟩
theorem mem_split {α : Type} {done rest ds : List α} {d : α} (e : done ++ d :: rest = ds) : d ∈ ds := by
  rw [← e]; exact List.mem_append_right _ (List.mem_cons_self ..)
end
end Sh

set_option Elab.async false
set_option linter.all false
set_option maxRecDepth 100000
set_option maxHeartbeats 4000000
set_option autoImplicit false
namespace Lk36
open PySem PySem.Spec PyProof.Rows L2 Sh
def topS (i : Nat) : Stmt := PySem.Challenge.pw_hangstogether_k36_whole_floats.main.body.getD i (.Pass ⟨0, 0, 0, 0⟩)
theorem boot_sum0 : bootBuiltins "sum" = some (.builtin "sum") := by decide +kernel
theorem boot_max0 : bootBuiltins "max" = some (.builtin "max") := by decide +kernel
theorem boot_min0 : bootBuiltins "min" = some (.builtin "min") := by decide +kernel
theorem boot_all0 : bootBuiltins "all" = some (.builtin "all") := by decide +kernel
theorem boot_any0 : bootBuiltins "any" = some (.builtin "any") := by decide +kernel
abbrev s_is_integer : Stmt := topS 5
abbrev N_is_integer : List Str := ["value"]
theorem sc_is_integer : FnScope N_is_integer ["value"] (defScope s_is_integer) := ⟨rfl, rfl, rfl, by decide +kernel, rfl, by decide +kernel, by decide +kernel⟩
abbrev s_is_number : Stmt := topS 6
abbrev N_is_number : List Str := ["value", "least", "most"]
theorem sc_is_number : FnScope N_is_number ["value", "least", "most"] (defScope s_is_number) := ⟨rfl, rfl, rfl, by decide +kernel, rfl, by decide +kernel, by decide +kernel⟩
abbrev s_check_cloth : Stmt := topS 10
abbrev N_check_cloth : List Str := ["cloth", "reason"]
theorem sc_check_cloth : FnScope N_check_cloth ["cloth"] (defScope s_check_cloth) := ⟨rfl, rfl, rfl, by decide +kernel, rfl, by decide +kernel, by decide +kernel⟩
abbrev s__fault_of_cloth : Stmt := topS 11
abbrev N__fault_of_cloth : List Str := ["cloth", "ends", "row", "part"]
theorem sc__fault_of_cloth : FnScope N__fault_of_cloth ["cloth"] (defScope s__fault_of_cloth) := ⟨rfl, rfl, rfl, by decide +kernel, rfl, by decide +kernel, by decide +kernel⟩
abbrev s_threads_of : Stmt := topS 13
abbrev N_threads_of : List Str := ["cloth", "ends", "picks", "number"]
theorem sc_threads_of : FnScope N_threads_of ["cloth"] (defScope s_threads_of) := ⟨rfl, rfl, rfl, by decide +kernel, rfl, by decide +kernel, by decide +kernel⟩
abbrev s_floats : Stmt := topS 15
abbrev N_floats : List Str := ["cloth", "thread", "told"]
theorem sc_floats : FnScope N_floats ["cloth"] (defScope s_floats) := ⟨rfl, rfl, rfl, by decide +kernel, rfl, by decide +kernel, by decide +kernel⟩
abbrev s__sides_of : Stmt := topS 16
abbrev N__sides_of : List Str := ["cloth", "thread", "kind", "number", "part", "row"]
theorem sc__sides_of : FnScope N__sides_of ["cloth", "thread"] (defScope s__sides_of) := ⟨rfl, rfl, rfl, by decide +kernel, rfl, by decide +kernel, by decide +kernel⟩
abbrev s__floats_of : Stmt := topS 17
abbrev N__floats_of : List Str := ["cloth", "thread", "sides", "places", "nexts", "place", "after"]
theorem sc__floats_of : FnScope N__floats_of ["cloth", "thread"] (defScope s__floats_of) := ⟨rfl, rfl, rfl, by decide +kernel, rfl, by decide +kernel, by decide +kernel⟩
abbrev s__name_of : Stmt := topS 18
abbrev N__name_of : List Str := ["above"]
theorem sc__name_of : FnScope N__name_of ["above"] (defScope s__name_of) := ⟨rfl, rfl, rfl, by decide +kernel, rfl, by decide +kernel, by decide +kernel⟩
abbrev s_longest : Stmt := topS 19
abbrev N_longest : List Str := ["cloth", "found", "lengths", "greatest", "_", "length"]
theorem sc_longest : FnScope N_longest ["cloth"] (defScope s_longest) := ⟨rfl, rfl, rfl, by decide +kernel, rfl, by decide +kernel, by decide +kernel⟩
abbrev s_too_long : Stmt := topS 20
abbrev N_too_long : List Str := ["cloth", "most", "told"]
theorem sc_too_long : FnScope N_too_long ["cloth", "most"] (defScope s_too_long) := ⟨rfl, rfl, rfl, by decide +kernel, rfl, by decide +kernel, by decide +kernel⟩
abbrev s_face_of : Stmt := topS 21
abbrev N_face_of : List Str := ["cloth", "ends", "row"]
theorem sc_face_of : FnScope N_face_of ["cloth"] (defScope s_face_of) := ⟨rfl, rfl, rfl, by decide +kernel, rfl, by decide +kernel, by decide +kernel⟩
abbrev s_interlacings : Stmt := topS 22
abbrev N_interlacings : List Str := ["cloth", "found", "thread", "told"]
theorem sc_interlacings : FnScope N_interlacings ["cloth"] (defScope s_interlacings) := ⟨rfl, rfl, rfl, by decide +kernel, rfl, by decide +kernel, by decide +kernel⟩
abbrev s__law_draws : Stmt := topS 24
abbrev N__law_draws : List Str := ["script", "draws", "cell", "rest", "k", "mixed"]
theorem sc__law_draws : FnScope N__law_draws ["script"] (defScope s__law_draws) := ⟨rfl, rfl, rfl, by decide +kernel, rfl, by decide +kernel, by decide +kernel⟩
abbrev s__law_more : Stmt := topS 25
abbrev N__law_more : List Str := ["draws", "place", "mixed", "k"]
theorem sc__law_more : FnScope N__law_more ["draws", "place"] (defScope s__law_more) := ⟨rfl, rfl, rfl, by decide +kernel, rfl, by decide +kernel, by decide +kernel⟩
abbrev s__law_take : Stmt := topS 26
abbrev N__law_take : List Str := ["draws", "at", "many", "place"]
theorem sc__law_take : FnScope N__law_take ["draws", "at", "many"] (defScope s__law_take) := ⟨rfl, rfl, rfl, by decide +kernel, rfl, by decide +kernel, by decide +kernel⟩
abbrev s__law_one : Stmt := topS 27
abbrev N__law_one : List Str := ["rows", "draws", "at"]
theorem sc__law_one : FnScope N__law_one ["rows", "draws", "at"] (defScope s__law_one) := ⟨rfl, rfl, rfl, by decide +kernel, rfl, by decide +kernel, by decide +kernel⟩
abbrev s__law_row : Stmt := topS 28
abbrev N__law_row : List Str := ["many", "draws", "at", "k"]
theorem sc__law_row : FnScope N__law_row ["many", "draws", "at"] (defScope s__law_row) := ⟨rfl, rfl, rfl, by decide +kernel, rfl, by decide +kernel, by decide +kernel⟩
abbrev s__law_planted : Stmt := topS 29
abbrev N__law_planted : List Str := ["picks", "ends", "draws", "at", "above", "under", "cloth", "pick", "row", "end", "k"]
theorem sc__law_planted : FnScope N__law_planted ["picks", "ends", "draws", "at"] (defScope s__law_planted) := ⟨rfl, rfl, rfl, by decide +kernel, rfl, by decide +kernel, by decide +kernel⟩
abbrev s__law_sized : Stmt := topS 30
abbrev N__law_sized : List Str := ["picks", "ends", "draws", "at", "choice", "row", "step", "rows", "rare", "k", "pick", "end"]
theorem sc__law_sized : FnScope N__law_sized ["picks", "ends", "draws", "at"] (defScope s__law_sized) := ⟨rfl, rfl, rfl, by decide +kernel, rfl, by decide +kernel, by decide +kernel⟩
abbrev s__law_cloth : Stmt := topS 31
abbrev N__law_cloth : List Str := ["most", "draws", "at"]
theorem sc__law_cloth : FnScope N__law_cloth ["most", "draws", "at"] (defScope s__law_cloth) := ⟨rfl, rfl, rfl, by decide +kernel, rfl, by decide +kernel, by decide +kernel⟩
abbrev s__law_line : Stmt := topS 32
abbrev N__law_line : List Str := ["cloth", "thread", "part", "row"]
theorem sc__law_line : FnScope N__law_line ["cloth", "thread"] (defScope s__law_line) := ⟨rfl, rfl, rfl, by decide +kernel, rfl, by decide +kernel, by decide +kernel⟩
abbrev s__law_floats : Stmt := topS 33
abbrev N__law_floats : List Str := ["cloth", "threads", "found", "thread", "line", "place", "end", "pick", "length"]
theorem sc__law_floats : FnScope N__law_floats ["cloth"] (defScope s__law_floats) := ⟨rfl, rfl, rfl, by decide +kernel, rfl, by decide +kernel, by decide +kernel⟩
abbrev s__law_longest : Stmt := topS 34
abbrev N__law_longest : List Str := ["rows", "endless", "most", "row"]
theorem sc__law_longest : FnScope N__law_longest ["rows"] (defScope s__law_longest) := ⟨rfl, rfl, rfl, by decide +kernel, rfl, by decide +kernel, by decide +kernel⟩
abbrev s__law_told : Stmt := topS 35
abbrev N__law_told : List Str := ["cloth", "most", "e"]
theorem sc__law_told : FnScope N__law_told ["cloth", "most"] (defScope s__law_told) := ⟨rfl, rfl, rfl, by decide +kernel, rfl, by decide +kernel, by decide +kernel⟩
abbrev s_law : Stmt := topS 36
abbrev N_law : List Str := ["script", "draws", "at", "turn", "cloth", "due", "told", "most", "ones", "threads", "many", "thread", "size", "lengths", "row", "end", "pick"]
theorem sc_law : FnScope N_law ["script"] (defScope s_law) := ⟨rfl, rfl, rfl, by decide +kernel, rfl, by decide +kernel, by decide +kernel⟩
def xs_reason : List Str := ["ClothError", "ArgumentError"]
def mt_ClothError : List (Str × Bool) := [("ClothError", true), ("ArgumentError", false)]
def mt_ArgumentError : List (Str × Bool) := [("ClothError", false), ("ArgumentError", true)]
/-- what the top of the program has written -/
structure Top (P : Program) (w : World) (K : PySem.W.Frag) (mg : Str → Option Value) (base : Heap) : Prop where
  c_MAX_ENDS : ∃ t, mg "MAX_ENDS" = some (.int 24 t)
  c_MAX_PICKS : ∃ t, mg "MAX_PICKS" = some (.int 24 t)
  z_abs : mg "abs" = none
  z_all : mg "all" = none
  z_int : mg "int" = none
  z_isinstance : mg "isinstance" = none
  z_len : mg "len" = none
  z_list : mg "list" = none
  z_max : mg "max" = none
  z_range : mg "range" = none
  z_repr : mg "repr" = none
  z_sum : mg "sum" = none
  z_tuple : mg "tuple" = none
  z_type : mg "type" = none
  z_zip : mg "zip" = none
  f_is_integer : ∃ (f : Addr) (fd : FuncData), Fun K "is_integer" "is_integer" s_is_integer f fd ∧ Binds K fd ["value"] [] ∧ mg "is_integer" = some (.ref f)
  f_is_number : ∃ (f : Addr) (fd : FuncData), Fun K "is_number" "is_number" s_is_number f fd ∧ Binds K fd ["value", "least", "most"] [] ∧ mg "is_number" = some (.ref f)
  f_check_cloth : ∃ (f : Addr) (fd : FuncData), Fun K "check_cloth" "check_cloth" s_check_cloth f fd ∧ Binds K fd ["cloth"] [] ∧ mg "check_cloth" = some (.ref f)
  f__fault_of_cloth : ∃ (f : Addr) (fd : FuncData), Fun K "_fault_of_cloth" "_fault_of_cloth" s__fault_of_cloth f fd ∧ Binds K fd ["cloth"] [] ∧ mg "_fault_of_cloth" = some (.ref f)
  f_threads_of : ∃ (f : Addr) (fd : FuncData), Fun K "threads_of" "threads_of" s_threads_of f fd ∧ Binds K fd ["cloth"] [] ∧ mg "threads_of" = some (.ref f)
  f_floats : ∃ (f : Addr) (fd : FuncData), Fun K "floats" "floats" s_floats f fd ∧ Binds K fd ["cloth"] [] ∧ mg "floats" = some (.ref f)
  f__sides_of : ∃ (f : Addr) (fd : FuncData), Fun K "_sides_of" "_sides_of" s__sides_of f fd ∧ Binds K fd ["cloth", "thread"] [] ∧ mg "_sides_of" = some (.ref f)
  f__floats_of : ∃ (f : Addr) (fd : FuncData), Fun K "_floats_of" "_floats_of" s__floats_of f fd ∧ Binds K fd ["cloth", "thread"] [] ∧ mg "_floats_of" = some (.ref f)
  f__name_of : ∃ (f : Addr) (fd : FuncData), Fun K "_name_of" "_name_of" s__name_of f fd ∧ Binds K fd ["above"] [] ∧ mg "_name_of" = some (.ref f)
  f_longest : ∃ (f : Addr) (fd : FuncData), Fun K "longest" "longest" s_longest f fd ∧ Binds K fd ["cloth"] [] ∧ mg "longest" = some (.ref f)
  f_too_long : ∃ (f : Addr) (fd : FuncData), Fun K "too_long" "too_long" s_too_long f fd ∧ Binds K fd ["cloth", "most"] [] ∧ mg "too_long" = some (.ref f)
  f_face_of : ∃ (f : Addr) (fd : FuncData), Fun K "face_of" "face_of" s_face_of f fd ∧ Binds K fd ["cloth"] [] ∧ mg "face_of" = some (.ref f)
  f_interlacings : ∃ (f : Addr) (fd : FuncData), Fun K "interlacings" "interlacings" s_interlacings f fd ∧ Binds K fd ["cloth"] [] ∧ mg "interlacings" = some (.ref f)
  f__law_draws : ∃ (f : Addr) (fd : FuncData), Fun K "_law_draws" "_law_draws" s__law_draws f fd ∧ Binds K fd ["script"] [] ∧ mg "_law_draws" = some (.ref f)
  f__law_more : ∃ (f : Addr) (fd : FuncData), Fun K "_law_more" "_law_more" s__law_more f fd ∧ Binds K fd ["draws", "place"] [] ∧ mg "_law_more" = some (.ref f)
  f__law_take : ∃ (f : Addr) (fd : FuncData), Fun K "_law_take" "_law_take" s__law_take f fd ∧ Binds K fd ["draws", "at", "many"] [] ∧ mg "_law_take" = some (.ref f)
  f__law_one : ∃ (f : Addr) (fd : FuncData), Fun K "_law_one" "_law_one" s__law_one f fd ∧ Binds K fd ["rows", "draws", "at"] [] ∧ mg "_law_one" = some (.ref f)
  f__law_row : ∃ (f : Addr) (fd : FuncData), Fun K "_law_row" "_law_row" s__law_row f fd ∧ Binds K fd ["many", "draws", "at"] [] ∧ mg "_law_row" = some (.ref f)
  f__law_planted : ∃ (f : Addr) (fd : FuncData), Fun K "_law_planted" "_law_planted" s__law_planted f fd ∧ Binds K fd ["picks", "ends", "draws", "at"] [] ∧ mg "_law_planted" = some (.ref f)
  f__law_sized : ∃ (f : Addr) (fd : FuncData), Fun K "_law_sized" "_law_sized" s__law_sized f fd ∧ Binds K fd ["picks", "ends", "draws", "at"] [] ∧ mg "_law_sized" = some (.ref f)
  f__law_cloth : ∃ (f : Addr) (fd : FuncData), Fun K "_law_cloth" "_law_cloth" s__law_cloth f fd ∧ Binds K fd ["most", "draws", "at"] [] ∧ mg "_law_cloth" = some (.ref f)
  f__law_line : ∃ (f : Addr) (fd : FuncData), Fun K "_law_line" "_law_line" s__law_line f fd ∧ Binds K fd ["cloth", "thread"] [] ∧ mg "_law_line" = some (.ref f)
  f__law_floats : ∃ (f : Addr) (fd : FuncData), Fun K "_law_floats" "_law_floats" s__law_floats f fd ∧ Binds K fd ["cloth"] [] ∧ mg "_law_floats" = some (.ref f)
  f__law_longest : ∃ (f : Addr) (fd : FuncData), Fun K "_law_longest" "_law_longest" s__law_longest f fd ∧ Binds K fd ["rows"] [] ∧ mg "_law_longest" = some (.ref f)
  f__law_told : ∃ (f : Addr) (fd : FuncData), Fun K "_law_told" "_law_told" s__law_told f fd ∧ Binds K fd ["cloth", "most"] [] ∧ mg "_law_told" = some (.ref f)
  f_law : ∃ (f : Addr) (fd : FuncData), Fun K "law" "law" s_law f fd ∧ Binds K fd ["script"] [] ∧ mg "law" = some (.ref f)
  x_ClothError : Exc1 P w K mg base "ClothError" "reason"
  x_ArgumentError : Exc1 P w K mg base "ArgumentError" "reason"
  h_ArgumentError : ∃ c : Addr, mg "ArgumentError" = some (.ref c) ∧ ∀ y v, mt_ArgumentError.lookup y = some v → ∀ A, CM mg y A → PySem.W.exmOne K (.ref A) (.ref c) = some v
  fx_reason : ∀ x ∈ xs_reason, ∀ A, CM mg x A → XfC K A ∧ PySem.W.findIn K (.ref A) "reason" = some none
section
variable {P : Program} {w : World} {K : PySem.W.Frag} {mg : Str → Option Value} {base : Heap} {cdv : Value} {A : Around} {outer : List PySem.Env} {s : Shared} {H : Hp} {E : XK} {f : Addr}
noncomputable def d_is_integer  : SF :=
  (sRet (fUn (pTyIs "int") (fVar 0)))
theorem b_is_integer (T : Top P w K mg base)  (hr : RoomG 0 (A.deeper (envOfC "is_integer" (defScope s_is_integer) s.heap.objs.size f cdv))) : SB (cxOf (L2.CX P w) P w K mg base N_is_integer "is_integer" (defScope s_is_integer) f cdv A outer s H E) (CM mg) (fun c d _ H => E c d H) (defBody s_is_integer) (d_is_integer ) :=
  (sb_one (ss_ret (se_tyIs T.z_type T.z_int PyProof.Rows.boot_int (se_var 0))))
noncomputable def d_is_number (m_is_integer : M) : SF :=
  (sRet (fAnd (fApp 1 m_is_integer (fCons (fVar 0) fNil)) (fChain (pI2 gLe) (pI2 gLe) (fVar 1) (fVar 0) (fVar 2))))
theorem b_is_number (T : Top P w K mg base) {m_is_integer : M} (G_is_integer : Fn P w K mg base (CM mg) "is_integer" 1 1 m_is_integer) (hr : RoomG 1 (A.deeper (envOfC "is_number" (defScope s_is_number) s.heap.objs.size f cdv))) : SB (cxOf (L2.CX P w) P w K mg base N_is_number "is_number" (defScope s_is_number) f cdv A outer s H E) (CM mg) (fun c d _ H => E c d H) (defBody s_is_number) (d_is_number m_is_integer) :=
  (sb_one (ss_ret (se_and (se_call (G_is_integer.mono (by decide)) hr (takes_of rfl rfl rfl rfl) (sa_cons (se_var 0) sa_nil)) (se_one (se_chain op_le op_le sv_le sv_le (se_var 1) (se_var 0) (se_var 2))))))
noncomputable def d_check_cloth (m__fault_of_cloth : M) : SF :=
  (sSeq (sAsg (fApp 1 m__fault_of_cloth (fCons (fVar 0) fNil)) (gN 1))
    (sIf (fT (fBin pNotN (fVar 1) (fC .non))) (sRaise "ClothError" "reason" (fVar 1)) sNil))
theorem b_check_cloth (T : Top P w K mg base) {m__fault_of_cloth : M} (G__fault_of_cloth : Fn P w K mg base (CM mg) "_fault_of_cloth" 3 1 m__fault_of_cloth) (hr : RoomG 3 (A.deeper (envOfC "check_cloth" (defScope s_check_cloth) s.heap.objs.size f cdv))) : SB (cxOf (L2.CX P w) P w K mg base N_check_cloth "check_cloth" (defScope s_check_cloth) f cdv A outer s H E) (CM mg) (fun c d _ H => E c d H) (defBody s_check_cloth) (d_check_cloth m__fault_of_cloth) :=
  (sb_cons (ss_set 1 sc_check_cloth.nd (se_call (G__fault_of_cloth.mono (by decide)) hr (takes_of rfl rfl rfl rfl) (sa_cons (se_var 0) sa_nil)))
    (sb_one (ss_if (st_cmp op_notN sv_notN (se_var 1) se_non) (sb_one (ss_raise (k := 0) rfl (T.x_ClothError) (hr.mono (by decide)) (takes_of rfl rfl rfl rfl) (se_var 1))) sb_nil)))
noncomputable def d__fault_of_cloth (m_is_number : M) : SF :=
  (sSeq (sIf (tOrF (tNotF (fTru (fUn (pIsi "tuple") (fVar 0)))) (tNotF (fTru (fNew qAll (fComp (iE (fVar 0)) [2] (gN 2) tTrue (fUn (pIsi "tuple") (fVar 2))))))) (sRet (fC (.str "form"))) sNil)
    (sSeq (sIf (tNotF (fT (fChain (pI2 gLe) (pI2 gLe) (fC (.int 1)) (fCall (p1L pLen) (fCons (fVar 0) fNil)) (fC (.int 24))))) (sRet (fC (.str "picks"))) sNil)
    (sSeq (sAsg (fCall (p1L pLen) (fCons (fBin pIx (fVar 0) (fC (.int 0))) fNil)) (gN 1))
    (sSeq (sIf (tOrF (tNotF (fT (fChain (pI2 gLe) (pI2 gLe) (fC (.int 1)) (fVar 1) (fC (.int 24))))) (tNotF (fTru (fNew qAll (fComp (iE (fVar 0)) [2] (gN 2) tTrue (fBin pEq (fCall (p1L pLen) (fCons (fVar 2) fNil)) (fVar 1))))))) (sRet (fC (.str "ends"))) sNil)
    (sSeq (sFor (iE (fVar 0)) (gN 2) (sIf (tNotF (fTru (fNew qAll (fComp (iE (fVar 2)) [3] (gN 3) tTrue (fApp 3 m_is_number (fCons (fVar 3) (fCons (fC (.int 0)) (fCons (fC (.int 1)) fNil)))))))) (sRet (fC (.str "crossing"))) sNil))
    (sRet (fC .non)))))))
theorem b__fault_of_cloth (T : Top P w K mg base) {m_is_number : M} (G_is_number : Fn P w K mg base (CM mg) "is_number" 2 3 m_is_number) (hr : RoomG 2 (A.deeper (envOfC "_fault_of_cloth" (defScope s__fault_of_cloth) s.heap.objs.size f cdv))) : SB (cxOf (L2.CX P w) P w K mg base N__fault_of_cloth "_fault_of_cloth" (defScope s__fault_of_cloth) f cdv A outer s H E) (CM mg) (fun c d _ H => E c d H) (defBody s__fault_of_cloth) (d__fault_of_cloth m_is_number) :=
  (sb_cons (ss_if (st_w (sw_or (st_not (st_tru (se_isi T.z_isinstance T.z_tuple PyProof.Rows.boot_tuple (se_var 0)))) (sw_or1 (st_not (st_tru (se_bltF (cr_all rfl) sf_all T.z_all boot_all0 (sl_comp rfl sc__fault_of_cloth.nd (si_e (se_var 0)) (blkOk_by (own := [("row", 2)]) (by rfl)) (fun _ _ _ _ _ => (sg_name 2 sc__fault_of_cloth.nd)) (fun _ _ _ _ _ => sts_nil) (fun _ _ _ _ _ => (se_isi T.z_isinstance T.z_tuple PyProof.Rows.boot_tuple (se_var 2)))))))))) (sb_one (ss_ret se_str)) sb_nil)
    (sb_cons (ss_if (st_not (st_chain op_le op_le sv_le sv_le se_int (se_blt call_lenA sv_len T.z_len PySem.boot_len (sa_cons (se_var 0) sa_nil)) (se_gint T.c_MAX_PICKS))) (sb_one (ss_ret se_str)) sb_nil)
    (sb_cons (ss_set 1 sc__fault_of_cloth.nd (se_blt call_lenA sv_len T.z_len PySem.boot_len (sa_cons (se_ix (se_var 0) se_int) sa_nil)))
    (sb_cons (ss_if (st_w (sw_or (st_not (st_chain op_le op_le sv_le sv_le se_int (se_var 1) (se_gint T.c_MAX_ENDS))) (sw_or1 (st_not (st_tru (se_bltF (cr_all rfl) sf_all T.z_all boot_all0 (sl_comp rfl sc__fault_of_cloth.nd (si_e (se_var 0)) (blkOk_by (own := [("row", 2)]) (by rfl)) (fun _ _ _ _ _ => (sg_name 2 sc__fault_of_cloth.nd)) (fun _ _ _ _ _ => sts_nil) (fun _ _ _ _ _ => (se_cmp (op_eq.or (op_eqD hr.u64)) sv_eq (se_blt call_lenA sv_len T.z_len PySem.boot_len (sa_cons (se_var 2) sa_nil)) (se_var 1)))))))))) (sb_one (ss_ret se_str)) sb_nil)
    (sb_cons (ss_for (passes_of rfl) rfl (si_e (se_var 0)) (sg_name 2 sc__fault_of_cloth.nd) (sb_one (ss_if (st_not (st_tru (se_bltF (cr_all rfl) sf_all T.z_all boot_all0 (sl_comp rfl sc__fault_of_cloth.nd (si_e (se_var 2)) (blkOk_by (own := [("part", 3)]) (by rfl)) (fun _ _ _ _ _ => (sg_name 3 sc__fault_of_cloth.nd)) (fun _ _ _ _ _ => sts_nil) (fun _ _ _ _ _ => (se_call (G_is_number.mono (by decide)) hr takes0 (sa_cons (se_var 3) (sa_cons se_int (sa_cons se_int sa_nil))))))))) (sb_one (ss_ret se_str)) sb_nil)))
    (sb_one (ss_ret se_non)))))))
noncomputable def d_threads_of  : SF :=
  (sSeq (sAsg (fAl (fComp (iR1 (fCons (fCall (p1L pLen) (fCons (fBin pIx (fVar 0) (fC (.int 0))) fNil)) fNil)) [3] (gN 3) tTrue (fTup (fCons (fC (.str "end")) (fCons (fVar 3) fNil))))) (gN 1))
    (sSeq (sAsg (fAl (fComp (iR1 (fCons (fCall (p1L pLen) (fCons (fVar 0) fNil)) fNil)) [3] (gN 3) tTrue (fTup (fCons (fC (.str "pick")) (fCons (fVar 3) fNil))))) (gN 2))
    (sRet (fNew qTuple (fCatE (fVar 1) (fVar 2))))))
theorem b_threads_of (T : Top P w K mg base)  (hr : RoomG 0 (A.deeper (envOfC "threads_of" (defScope s_threads_of) s.heap.objs.size f cdv))) : SB (cxOf (L2.CX P w) P w K mg base N_threads_of "threads_of" (defScope s_threads_of) f cdv A outer s H E) (CM mg) (fun c d _ H => E c d H) (defBody s_threads_of) (d_threads_of ) :=
  (sb_cons (ss_setc 1 rfl sc_threads_of.nd (si_range1 T.z_range (sa_cons (se_blt call_lenA sv_len T.z_len PySem.boot_len (sa_cons (se_ix (se_var 0) se_int) sa_nil)) sa_nil)) (blkOk_by (own := [("number", 3)]) (by rfl)) (fun _ _ _ _ _ => (sg_name 3 sc_threads_of.nd)) (fun _ _ _ _ _ => sts_nil) (fun _ _ _ _ _ => (se_tup (sa_cons se_str (sa_cons (se_var 3) sa_nil)))) (sw_true rfl rfl rfl (by rfl)))
    (sb_cons (ss_setc 2 rfl sc_threads_of.nd (si_range1 T.z_range (sa_cons (se_blt call_lenA sv_len T.z_len PySem.boot_len (sa_cons (se_var 0) sa_nil)) sa_nil)) (blkOk_by (own := [("number", 3)]) (by rfl)) (fun _ _ _ _ _ => (sg_name 3 sc_threads_of.nd)) (fun _ _ _ _ _ => sts_nil) (fun _ _ _ _ _ => (se_tup (sa_cons se_str (sa_cons (se_var 3) sa_nil)))) (sw_true rfl rfl rfl (by rfl)))
    (sb_one (ss_ret (se_typF (call_tuple_of) sf_tuple T.z_tuple PyProof.Rows.boot_tuple (sl_catE (se_var 1) (se_var 2)))))))
noncomputable def d_floats (m_check_cloth : M) (m_threads_of : M) (m__floats_of : M) : SF :=
  (sSeq (sExpr (fApp 1 m_check_cloth (fCons (fVar 0) fNil)))
    (sRet (fCall (p1L pTuple) (fCons (fComp2 (iE (fApp 1 m_threads_of (fCons (fVar 0) fNil))) [1, 2] (gN 1) tTrue (iE (fApp 2 m__floats_of (fCons (fVar 0) (fCons (fVar 1) fNil)))) [2] (gN 2) tTrue (fVar 2)) fNil))))
theorem b_floats (T : Top P w K mg base) {m_check_cloth : M} (G_check_cloth : Fn P w K mg base (CM mg) "check_cloth" 4 1 m_check_cloth) {m_threads_of : M} (G_threads_of : Fn P w K mg base (CM mg) "threads_of" 1 1 m_threads_of) {m__floats_of : M} (G__floats_of : Fn P w K mg base (CM mg) "_floats_of" 2 2 m__floats_of) (hr : RoomG 4 (A.deeper (envOfC "floats" (defScope s_floats) s.heap.objs.size f cdv))) : SB (cxOf (L2.CX P w) P w K mg base N_floats "floats" (defScope s_floats) f cdv A outer s H E) (CM mg) (fun c d _ H => E c d H) (defBody s_floats) (d_floats m_check_cloth m_threads_of m__floats_of) :=
  (sb_cons (ss_expr (se_call (G_check_cloth.mono (by decide)) hr (takes_of rfl rfl rfl rfl) (sa_cons (se_var 0) sa_nil)))
    (sb_one (ss_ret (se_typ call_tuple_of sv_tuple T.z_tuple PyProof.Rows.boot_tuple (sa_cons (se_comp2 [2] rfl sc_floats.nd (si_e (se_call (G_threads_of.mono (by decide)) hr (takes_of rfl rfl rfl rfl) (sa_cons (se_var 0) sa_nil))) (blkOk_by (own := [("thread", 1), ("told", 2)]) (by rfl)) (fun _ _ _ _ _ => (sg_name 1 sc_floats.nd)) (fun _ _ _ _ _ => sts_nil) (fun _ _ _ _ _ => (si_e (se_call (G__floats_of.mono (by decide)) hr takes0 (sa_cons (se_var 0) (sa_cons (se_var 1) sa_nil))))) (fun _ _ _ _ _ => (sg_name 2 sc_floats.nd)) (fun _ _ _ _ _ => sts_nil) (fun _ _ _ _ _ => (se_var 2))) sa_nil)))))
noncomputable def d__sides_of  : SF :=
  (sSeq (sAsg (fVar 1) (gTp 2 (gCn (gN 2) (gCn (gN 3) gNl))))
    (sSeq (sIf (fT (fBin pEq (fVar 2) (fC (.str "end")))) (sRet (fAl (fComp (iE (fVar 0)) [5] (gN 5) tTrue (fBin pEq (fBin pIx (fVar 5) (fVar 3)) (fC (.int 1)))))) sNil)
    (sRet (fAl (fComp (iE (fBin pIx (fVar 0) (fVar 3))) [4] (gN 4) tTrue (fBin pEq (fVar 4) (fC (.int 0))))))))
theorem b__sides_of (T : Top P w K mg base)  (hr : RoomG 0 (A.deeper (envOfC "_sides_of" (defScope s__sides_of) s.heap.objs.size f cdv))) : SB (cxOf (L2.CX P w) P w K mg base N__sides_of "_sides_of" (defScope s__sides_of) f cdv A outer s H E) (CM mg) (fun c d _ H => E c d H) (defBody s__sides_of) (d__sides_of ) :=
  (sb_cons (ss_asg (se_var 1) (sg_tup rfl (sgs_cons (sg_name 2 sc__sides_of.nd) (sgs_cons (sg_name 3 sc__sides_of.nd) sgs_nil))))
    (sb_cons (ss_if (st_cmp (op_eq.or (op_eqD hr.u64)) sv_eq (se_var 2) se_str) (sb_one (ss_ret (SL.se (sl_comp rfl sc__sides_of.nd (si_e (se_var 0)) (blkOk_by (own := [("row", 5)]) (by rfl)) (fun _ _ _ _ _ => (sg_name 5 sc__sides_of.nd)) (fun _ _ _ _ _ => sts_nil) (fun _ _ _ _ _ => (se_cmp (op_eq.or (op_eqD hr.u64)) sv_eq (se_ix (se_var 5) (se_var 3)) se_int)))))) sb_nil)
    (sb_one (ss_ret (SL.se (sl_comp rfl sc__sides_of.nd (si_e (se_ix (se_var 0) (se_var 3))) (blkOk_by (own := [("part", 4)]) (by rfl)) (fun _ _ _ _ _ => (sg_name 4 sc__sides_of.nd)) (fun _ _ _ _ _ => sts_nil) (fun _ _ _ _ _ => (se_cmp (op_eq.or (op_eqD hr.u64)) sv_eq (se_var 4) se_int))))))))
noncomputable def d__floats_of (m__sides_of : M) (m__name_of : M) : SF :=
  (sSeq (sAsg (fApp 2 m__sides_of (fCons (fVar 0) (fCons (fVar 1) fNil))) (gN 2))
    (sSeq (sAsg (fAl (fComp (iR1 (fCons (fCall (p1L pLen) (fCons (fVar 2) fNil)) fNil)) [5] (gN 5) (fT (fBin pNe (fBin pIx (fVar 2) (fVar 5)) (fBin pIx (fVar 2) (fBin (pI2 gSub) (fVar 5) (fC (.int 1)))))) (fVar 5))) (gN 3))
    (sSeq (sIf (tNotF (fTru (fVar 3))) (sRet (fAl (fLst (fCons (fTup (fCons (fVar 1) (fCons (fC (.int 0)) (fCons (fC .non) (fCons (fApp 1 m__name_of (fCons (fBin pIx (fVar 2) (fC (.int 0))) fNil)) fNil))))) fNil)))) sNil)
    (sSeq (sAsg (fAl (fLst (fStar (fSl (fVar 3) (oSome (fC (.int 1))) oNone) (fCons (fBin pAdd (fBin pIx (fVar 3) (fC (.int 0))) (fCall (p1L pLen) (fCons (fVar 2) fNil))) fNil)))) (gN 4))
    (sRet (fAl (fComp (iZip (fCons (fVar 3) (fCons (fVar 4) fNil))) [5, 6] (gTp 2 (gCn (gN 5) (gCn (gN 6) gNl))) tTrue (fTup (fCons (fVar 1) (fCons (fVar 5) (fCons (fBin (pI2 gSub) (fVar 6) (fVar 5)) (fCons (fApp 1 m__name_of (fCons (fBin pIx (fVar 2) (fVar 5)) fNil)) fNil))))))))))))
theorem b__floats_of (T : Top P w K mg base) {m__sides_of : M} (G__sides_of : Fn P w K mg base (CM mg) "_sides_of" 1 2 m__sides_of) {m__name_of : M} (G__name_of : Fn P w K mg base (CM mg) "_name_of" 1 1 m__name_of) (hr : RoomG 1 (A.deeper (envOfC "_floats_of" (defScope s__floats_of) s.heap.objs.size f cdv))) : SB (cxOf (L2.CX P w) P w K mg base N__floats_of "_floats_of" (defScope s__floats_of) f cdv A outer s H E) (CM mg) (fun c d _ H => E c d H) (defBody s__floats_of) (d__floats_of m__sides_of m__name_of) :=
  (sb_cons (ss_set 2 sc__floats_of.nd (se_call (G__sides_of.mono (by decide)) hr (takes_of rfl rfl rfl rfl) (sa_cons (se_var 0) (sa_cons (se_var 1) sa_nil))))
    (sb_cons (ss_setc 3 rfl sc__floats_of.nd (si_range1 T.z_range (sa_cons (se_blt call_lenA sv_len T.z_len PySem.boot_len (sa_cons (se_var 2) sa_nil)) sa_nil)) (blkOk_by (own := [("place", 5)]) (by rfl)) (fun _ _ _ _ _ => (sg_name 5 sc__floats_of.nd)) (fun _ _ _ _ _ => (sts_one (st_cmp (op_ne.or (op_neD hr.u64)) sv_ne (se_ix (se_var 2) (se_var 5)) (se_ix (se_var 2) (se_op op_sub sv_sub (se_var 5) se_int))))) (fun _ _ _ _ _ => (se_var 5)) (sw_true rfl rfl rfl (by rfl)))
    (sb_cons (ss_if (st_not (st_tru (se_var 3))) (sb_one (ss_ret (SL.se (sl_lst (sa_cons (se_tup (sa_cons (se_var 1) (sa_cons se_int (sa_cons se_non (sa_cons (se_call (G__name_of.mono (by decide)) hr (takes_of rfl rfl rfl rfl) (sa_cons (se_ix (se_var 2) se_int) sa_nil)) sa_nil))))) sa_nil))))) sb_nil)
    (sb_cons (ss_set 4 sc__floats_of.nd (SL.se (sl_lst (sa_star (se_slice (se_var 3) (so_some se_int) so_none) (sa_cons (se_op op_addA sv_add (se_ix (se_var 3) se_int) (se_blt call_lenA sv_len T.z_len PySem.boot_len (sa_cons (se_var 2) sa_nil))) sa_nil)))))
    (sb_one (ss_ret (SL.se (sl_comp rfl sc__floats_of.nd (si_zip T.z_zip (sa_cons (se_var 3) (sa_cons (se_var 4) sa_nil))) (blkOk_by (own := [("place", 5), ("after", 6)]) (by rfl)) (fun _ _ _ _ _ => (sg_tup rfl (sgs_cons (sg_name 5 sc__floats_of.nd) (sgs_cons (sg_name 6 sc__floats_of.nd) sgs_nil)))) (fun _ _ _ _ _ => sts_nil) (fun _ _ _ _ _ => (se_tup (sa_cons (se_var 1) (sa_cons (se_var 5) (sa_cons (se_op op_sub sv_sub (se_var 6) (se_var 5)) (sa_cons (se_call (G__name_of.mono (by decide)) hr takes0 (sa_cons (se_ix (se_var 2) (se_var 5)) sa_nil)) sa_nil))))))))))))))
noncomputable def d__name_of  : SF :=
  (sRet (fIf (fTru (fVar 0)) (fC (.str "face")) (fC (.str "back"))))
theorem b__name_of (T : Top P w K mg base)  (hr : RoomG 0 (A.deeper (envOfC "_name_of" (defScope s__name_of) s.heap.objs.size f cdv))) : SB (cxOf (L2.CX P w) P w K mg base N__name_of "_name_of" (defScope s__name_of) f cdv A outer s H E) (CM mg) (fun c d _ H => E c d H) (defBody s__name_of) (d__name_of ) :=
  (sb_one (ss_ret (se_if (st_tru (se_var 0)) se_str se_str)))
noncomputable def d_longest (m_floats : M) : SF :=
  (sSeq (sAsg (fApp 1 m_floats (fCons (fVar 0) fNil)) (gN 1))
    (sSeq (sAsg (fAl (fComp (iE (fVar 1)) [4, 5] (gTp 4 (gCn (gN 4) (gCn (gN 4) (gCn (gN 5) (gCn (gN 4) gNl))))) tTrue (fVar 5))) (gN 2))
    (sSeq (sAsg (fIf (fT (fBin pInL (fC .non) (fVar 2))) (fC .non) (fCall (p1L (pSeq qMax)) (fCons (fVar 2) fNil))) (gN 3))
    (sRet (fTup (fCons (fVar 3) (fCons (fBin pIx (fVar 1) (fIdx (fVar 2) (fVar 3))) fNil)))))))
theorem b_longest (T : Top P w K mg base) {m_floats : M} (G_floats : Fn P w K mg base (CM mg) "floats" 5 1 m_floats) (hr : RoomG 5 (A.deeper (envOfC "longest" (defScope s_longest) s.heap.objs.size f cdv))) : SB (cxOf (L2.CX P w) P w K mg base N_longest "longest" (defScope s_longest) f cdv A outer s H E) (CM mg) (fun c d _ H => E c d H) (defBody s_longest) (d_longest m_floats) :=
  (sb_cons (ss_set 1 sc_longest.nd (se_call (G_floats.mono (by decide)) hr (takes_of rfl rfl rfl rfl) (sa_cons (se_var 0) sa_nil)))
    (sb_cons (ss_setc 2 rfl sc_longest.nd (si_e (se_var 1)) (blkOk_by (own := [("_", 4), ("length", 5)]) (by rfl)) (fun _ _ _ _ _ => (sg_tup rfl (sgs_cons (sg_name 4 sc_longest.nd) (sgs_cons (sg_name 4 sc_longest.nd) (sgs_cons (sg_name 5 sc_longest.nd) (sgs_cons (sg_name 4 sc_longest.nd) sgs_nil)))))) (fun _ _ _ _ _ => sts_nil) (fun _ _ _ _ _ => (se_var 5)) (sw_true rfl rfl rfl (by rfl)))
    (sb_cons (ss_set 3 sc_longest.nd (se_if (st_cmp (op_inD hr.u65) sv_inL se_non (se_var 2)) se_non (se_blt ((cr_max rfl).or (cr_maxT rfl)) ss_max T.z_max boot_max0 (sa_cons (se_var 2) sa_nil))))
    (sb_one (ss_ret (se_tup (sa_cons (se_var 3) (sa_cons (se_ix (se_var 1) (se_index hr.u65 (se_var 2) (se_var 3))) sa_nil))))))))
noncomputable def d_too_long (m_check_cloth : M) (m_is_number : M) (m_floats : M) : SF :=
  (sSeq (sExpr (fApp 1 m_check_cloth (fCons (fVar 0) fNil)))
    (sSeq (sIf (tNotF (fTru (fApp 3 m_is_number (fCons (fVar 1) (fCons (fC (.int 1)) (fCons (fC (.int 24)) fNil)))))) (sRaise "ArgumentError" "reason" (fC (.str "most"))) sNil)
    (sRet (fNew qTuple (fComp (iE (fApp 1 m_floats (fCons (fVar 0) fNil))) [2] (gN 2) (tOrF (fT (fBin pIsN (fBin pIx (fVar 2) (fC (.int 2))) (fC .non))) (fT (fBin (pI2 gGt) (fBin pIx (fVar 2) (fC (.int 2))) (fVar 1)))) (fVar 2))))))
theorem b_too_long (T : Top P w K mg base) {m_check_cloth : M} (G_check_cloth : Fn P w K mg base (CM mg) "check_cloth" 4 1 m_check_cloth) {m_is_number : M} (G_is_number : Fn P w K mg base (CM mg) "is_number" 2 3 m_is_number) {m_floats : M} (G_floats : Fn P w K mg base (CM mg) "floats" 5 1 m_floats) (hr : RoomG 5 (A.deeper (envOfC "too_long" (defScope s_too_long) s.heap.objs.size f cdv))) : SB (cxOf (L2.CX P w) P w K mg base N_too_long "too_long" (defScope s_too_long) f cdv A outer s H E) (CM mg) (fun c d _ H => E c d H) (defBody s_too_long) (d_too_long m_check_cloth m_is_number m_floats) :=
  (sb_cons (ss_expr (se_call (G_check_cloth.mono (by decide)) hr (takes_of rfl rfl rfl rfl) (sa_cons (se_var 0) sa_nil)))
    (sb_cons (ss_if (st_not (st_tru (se_call (G_is_number.mono (by decide)) hr (takes_of rfl rfl rfl rfl) (sa_cons (se_var 1) (sa_cons se_int (sa_cons (se_gint T.c_MAX_ENDS) sa_nil)))))) (sb_one (ss_raise (k := 0) rfl (T.x_ArgumentError) (hr.mono (by decide)) (takes_of rfl rfl rfl rfl) se_str)) sb_nil)
    (sb_one (ss_ret (se_typF (call_tuple_of) sf_tuple T.z_tuple PyProof.Rows.boot_tuple (sl_comp rfl sc_too_long.nd (si_e (se_call (G_floats.mono (by decide)) hr (takes_of rfl rfl rfl rfl) (sa_cons (se_var 0) sa_nil))) (blkOk_by (own := [("told", 2)]) (by rfl)) (fun _ _ _ _ _ => (sg_name 2 sc_too_long.nd)) (fun _ _ _ _ _ => (sts_one (st_w (sw_or (st_cmp op_isN sv_isN (se_ix (se_var 2) se_int) se_non) (sw_or1 (st_cmp op_gt sv_gt (se_ix (se_var 2) se_int) (se_var 1))))))) (fun _ _ _ _ _ => (se_var 2))))))))
noncomputable def d_face_of (m_check_cloth : M) : SF :=
  (sSeq (sExpr (fApp 1 m_check_cloth (fCons (fVar 0) fNil)))
    (sSeq (sAsg (fNew qSum (fComp (iE (fVar 0)) [2] (gN 2) tTrue (fCall (p1L (pSeq qSum)) (fCons (fVar 2) fNil)))) (gN 1))
    (sRet (fTup (fCons (fVar 1) (fCons (fBin (pI2 gSub) (fBin (pI2 gMul) (fCall (p1L pLen) (fCons (fVar 0) fNil)) (fCall (p1L pLen) (fCons (fBin pIx (fVar 0) (fC (.int 0))) fNil))) (fVar 1)) fNil))))))
theorem b_face_of (T : Top P w K mg base) {m_check_cloth : M} (G_check_cloth : Fn P w K mg base (CM mg) "check_cloth" 4 1 m_check_cloth) (hr : RoomG 4 (A.deeper (envOfC "face_of" (defScope s_face_of) s.heap.objs.size f cdv))) : SB (cxOf (L2.CX P w) P w K mg base N_face_of "face_of" (defScope s_face_of) f cdv A outer s H E) (CM mg) (fun c d _ H => E c d H) (defBody s_face_of) (d_face_of m_check_cloth) :=
  (sb_cons (ss_expr (se_call (G_check_cloth.mono (by decide)) hr (takes_of rfl rfl rfl rfl) (sa_cons (se_var 0) sa_nil)))
    (sb_cons (ss_set 1 sc_face_of.nd (se_bltF (cr_sum rfl) sf_sum T.z_sum boot_sum0 (sl_comp rfl sc_face_of.nd (si_e (se_var 0)) (blkOk_by (own := [("row", 2)]) (by rfl)) (fun _ _ _ _ _ => (sg_name 2 sc_face_of.nd)) (fun _ _ _ _ _ => sts_nil) (fun _ _ _ _ _ => (se_blt ((cr_sum rfl).or (cr_sumT rfl)) ss_sum T.z_sum boot_sum0 (sa_cons (se_var 2) sa_nil))))))
    (sb_one (ss_ret (se_tup (sa_cons (se_var 1) (sa_cons (se_op op_sub sv_sub (se_op op_mul sv_mul (se_blt call_lenA sv_len T.z_len PySem.boot_len (sa_cons (se_var 0) sa_nil)) (se_blt call_lenA sv_len T.z_len PySem.boot_len (sa_cons (se_ix (se_var 0) se_int) sa_nil))) (se_var 1)) sa_nil)))))))
noncomputable def d_interlacings (m_check_cloth : M) (m_threads_of : M) (m__floats_of : M) : SF :=
  (sSeq (sExpr (fApp 1 m_check_cloth (fCons (fVar 0) fNil)))
    (sSeq (sAsg (fAl (fComp (iE (fApp 1 m_threads_of (fCons (fVar 0) fNil))) [2] (gN 2) tTrue (fApp 2 m__floats_of (fCons (fVar 0) (fCons (fVar 2) fNil))))) (gN 1))
    (sRet (fNew qTuple (fComp (iE (fVar 1)) [3] (gN 3) tTrue (fIf (fT (fBin pIsN (fBin pIx (fBin pIx (fVar 3) (fC (.int 0))) (fC (.int 2))) (fC .non))) (fC (.int 0)) (fCall (p1L pLen) (fCons (fVar 3) fNil))))))))
theorem b_interlacings (T : Top P w K mg base) {m_check_cloth : M} (G_check_cloth : Fn P w K mg base (CM mg) "check_cloth" 4 1 m_check_cloth) {m_threads_of : M} (G_threads_of : Fn P w K mg base (CM mg) "threads_of" 1 1 m_threads_of) {m__floats_of : M} (G__floats_of : Fn P w K mg base (CM mg) "_floats_of" 2 2 m__floats_of) (hr : RoomG 4 (A.deeper (envOfC "interlacings" (defScope s_interlacings) s.heap.objs.size f cdv))) : SB (cxOf (L2.CX P w) P w K mg base N_interlacings "interlacings" (defScope s_interlacings) f cdv A outer s H E) (CM mg) (fun c d _ H => E c d H) (defBody s_interlacings) (d_interlacings m_check_cloth m_threads_of m__floats_of) :=
  (sb_cons (ss_expr (se_call (G_check_cloth.mono (by decide)) hr (takes_of rfl rfl rfl rfl) (sa_cons (se_var 0) sa_nil)))
    (sb_cons (ss_setc 1 rfl sc_interlacings.nd (si_e (se_call (G_threads_of.mono (by decide)) hr (takes_of rfl rfl rfl rfl) (sa_cons (se_var 0) sa_nil))) (blkOk_by (own := [("thread", 2)]) (by rfl)) (fun _ _ _ _ _ => (sg_name 2 sc_interlacings.nd)) (fun _ _ _ _ _ => sts_nil) (fun _ _ _ _ _ => (se_call (G__floats_of.mono (by decide)) hr takes0 (sa_cons (se_var 0) (sa_cons (se_var 2) sa_nil)))) (sw_true rfl rfl rfl (by rfl)))
    (sb_one (ss_ret (se_typF (call_tuple_of) sf_tuple T.z_tuple PyProof.Rows.boot_tuple (sl_comp rfl sc_interlacings.nd (si_e (se_var 1)) (blkOk_by (own := [("told", 3)]) (by rfl)) (fun _ _ _ _ _ => (sg_name 3 sc_interlacings.nd)) (fun _ _ _ _ _ => sts_nil) (fun _ _ _ _ _ => (se_if (st_cmp op_isN sv_isN (se_ix (se_ix (se_var 3) se_int) se_int) se_non) se_int (se_blt call_lenA sv_len T.z_len PySem.boot_len (sa_cons (se_var 3) sa_nil))))))))))
noncomputable def d__law_draws  : SF :=
  (sSeq (sAsg (fAl (fLst fNil)) (gN 1))
    (sSeq (sFor (iE (fSl (fVar 0) oNone (oSome (fC (.int 63))))) (gN 2) (sSeq (sAsg (fCall (p1L pAbs) (fCons (fVar 2) fNil)) (gN 3))
    (sIf (fT (fBin (pI2 gGe) (fVar 3) (fBin (pI2 gPow) (fC (.int 10)) (fC (.int 18))))) (sFor (iR1 (fCons (fC (.int 60)) fNil)) (gN 4) (sIf (fT (fBin (pI2 gGt) (fVar 3) (fC (.int 0)))) (sSeq (sExpr (fApd (fVar 1) (fBin (pI2 gMod) (fCall (p1L pInt) (fCons (fVar 3) fNil)) (fC (.int 1009)))))
    (sAsg (fBin (pI2 gDiv) (fVar 3) (fC (.int 1009))) (gN 3))) sNil)) (sSeq (sAsg (fBin (pI2 gMod) (fCall (p1L pInt) (fCons (fBin pAdd (fBin (pI2 gMul) (fVar 3) (fC (.int 48271))) (fC (.int 11))) fNil)) (fC (.int 2147483647))) (gN 5))
    (sFor (iR1 (fCons (fC (.int 12)) fNil)) (gN 4) (sSeq (sAsg (fBin (pI2 gMod) (fCall (p1L pInt) (fCons (fBin pAdd (fBin pAdd (fBin (pI2 gMul) (fVar 5) (fC (.int 16807))) (fBin (pI2 gMul) (fC (.int 69621)) (fVar 4))) (fC (.int 5))) fNil)) (fC (.int 2147483629))) (gN 5))
    (sExpr (fApd (fVar 1) (fBin (pI2 gDiv) (fVar 5) (fC (.int 1009)))))))))))
    (sRet (fVar 1))))
theorem b__law_draws (T : Top P w K mg base)  (hr : RoomG 0 (A.deeper (envOfC "_law_draws" (defScope s__law_draws) s.heap.objs.size f cdv))) : SB (cxOf (L2.CX P w) P w K mg base N__law_draws "_law_draws" (defScope s__law_draws) f cdv A outer s H E) (CM mg) (fun c d _ H => E c d H) (defBody s__law_draws) (d__law_draws ) :=
  (sb_cons (ss_set 1 sc__law_draws.nd (SL.se (sl_lst sa_nil)))
    (sb_cons (ss_for (passes_of rfl) rfl (si_e (se_slice (se_var 0) so_none (so_some se_int))) (sg_name 2 sc__law_draws.nd) (sb_cons (ss_set 3 sc__law_draws.nd (se_blt call_abs sv_abs T.z_abs PyProof.Rows.boot_abs (sa_cons (se_var 2) sa_nil)))
    (sb_one (ss_if (st_cmp op_ge sv_ge (se_var 3) (se_op op_pow sv_pow se_int se_int)) (sb_one (ss_for (passes_of rfl) rfl (si_range1 T.z_range (sa_cons se_int sa_nil)) (sg_name 4 sc__law_draws.nd) (sb_one (ss_if (st_cmp op_gt sv_gt (se_var 3) se_int) (sb_cons (ss_expr (se_append (se_var 1) (se_op op_modN sv_mod (se_typ call_int1 sv_int T.z_int PyProof.Rows.boot_int (sa_cons (se_var 3) sa_nil)) se_int)))
    (sb_one (ss_set 3 sc__law_draws.nd (se_op op_fdivN sv_div (se_var 3) se_int)))) sb_nil)))) (sb_cons (ss_set 5 sc__law_draws.nd (se_op op_modN sv_mod (se_typ call_int1 sv_int T.z_int PyProof.Rows.boot_int (sa_cons (se_op op_addA sv_add (se_op op_mul sv_mul (se_var 3) se_int) se_int) sa_nil)) se_int))
    (sb_one (ss_for (passes_of rfl) rfl (si_range1 T.z_range (sa_cons se_int sa_nil)) (sg_name 4 sc__law_draws.nd) (sb_cons (ss_set 5 sc__law_draws.nd (se_op op_modN sv_mod (se_typ call_int1 sv_int T.z_int PyProof.Rows.boot_int (sa_cons (se_op op_addA sv_add (se_op op_addA sv_add (se_op op_mul sv_mul (se_var 5) se_int) (se_op op_mul sv_mul se_int (se_var 4))) se_int) sa_nil)) se_int))
    (sb_one (ss_expr (se_append (se_var 1) (se_op op_fdivN sv_div (se_var 5) se_int))))))))))))
    (sb_one (ss_ret (se_var 1)))))
noncomputable def d__law_more  : SF :=
  (sSeq (sAsg (fBin (pI2 gMod) (fCall (p1L pInt) (fCons (fBin pAdd (fBin pAdd (fBin (pI2 gMul) (fVar 1) (fC (.int 48271))) (fCall (p1L pLen) (fCons (fVar 0) fNil))) (fC (.int 11))) fNil)) (fC (.int 2147483629))) (gN 2))
    (sSeq (sFor (iR1 (fCons (fC (.int 3)) fNil)) (gN 3) (sSeq (sIf (fTru (fVar 0)) (sAsg (fBin pAdd (fVar 2) (fBin pIx (fVar 0) (fBin (pI2 gMod) (fCall (p1L pInt) (fCons (fBin pAdd (fBin (pI2 gMul) (fVar 1) (fBin pAdd (fVar 3) (fC (.int 5)))) (fVar 3)) fNil)) (fCall (p1L pLen) (fCons (fVar 0) fNil))))) (gN 2)) sNil)
    (sAsg (fBin (pI2 gMod) (fCall (p1L pInt) (fCons (fBin pAdd (fBin pAdd (fBin (pI2 gMul) (fVar 2) (fC (.int 16807))) (fBin (pI2 gMul) (fC (.int 69621)) (fVar 3))) (fC (.int 5))) fNil)) (fC (.int 2147483629))) (gN 2))))
    (sRet (fBin (pI2 gDiv) (fVar 2) (fC (.int 1009))))))
theorem b__law_more (T : Top P w K mg base)  (hr : RoomG 0 (A.deeper (envOfC "_law_more" (defScope s__law_more) s.heap.objs.size f cdv))) : SB (cxOf (L2.CX P w) P w K mg base N__law_more "_law_more" (defScope s__law_more) f cdv A outer s H E) (CM mg) (fun c d _ H => E c d H) (defBody s__law_more) (d__law_more ) :=
  (sb_cons (ss_set 2 sc__law_more.nd (se_op op_modN sv_mod (se_typ call_int1 sv_int T.z_int PyProof.Rows.boot_int (sa_cons (se_op op_addA sv_add (se_op op_addA sv_add (se_op op_mul sv_mul (se_var 1) se_int) (se_blt call_lenA sv_len T.z_len PySem.boot_len (sa_cons (se_var 0) sa_nil))) se_int) sa_nil)) se_int))
    (sb_cons (ss_for (passes_of rfl) rfl (si_range1 T.z_range (sa_cons se_int sa_nil)) (sg_name 3 sc__law_more.nd) (sb_cons (ss_if (st_tru (se_var 0)) (sb_one (ss_set 2 sc__law_more.nd (se_op op_addA sv_add (se_var 2) (se_ix (se_var 0) (se_op op_modN sv_mod (se_typ call_int1 sv_int T.z_int PyProof.Rows.boot_int (sa_cons (se_op op_addA sv_add (se_op op_mul sv_mul (se_var 1) (se_op op_addA sv_add (se_var 3) se_int)) (se_var 3)) sa_nil)) (se_blt call_lenA sv_len T.z_len PySem.boot_len (sa_cons (se_var 0) sa_nil))))))) sb_nil)
    (sb_one (ss_set 2 sc__law_more.nd (se_op op_modN sv_mod (se_typ call_int1 sv_int T.z_int PyProof.Rows.boot_int (sa_cons (se_op op_addA sv_add (se_op op_addA sv_add (se_op op_mul sv_mul (se_var 2) se_int) (se_op op_mul sv_mul se_int (se_var 3))) se_int) sa_nil)) se_int)))))
    (sb_one (ss_ret (se_op op_fdivN sv_div (se_var 2) se_int)))))
noncomputable def d__law_take (m__law_more : M) : SF :=
  (sSeq (sAsg (fBin pIx (fVar 1) (fC (.int 0))) (gN 3))
    (sSeq (sAsg (fBin pAdd (fVar 3) (fC (.int 1))) (gIx (fVar 1) (fC (.int 0))))
    (sRet (fBin (pI2 gMod) (fCall (p1L pInt) (fCons (fIf (fT (fBin (pI2 gLt) (fVar 3) (fCall (p1L pLen) (fCons (fVar 0) fNil)))) (fBin pIx (fVar 0) (fVar 3)) (fApp 2 m__law_more (fCons (fVar 0) (fCons (fVar 3) fNil)))) fNil)) (fVar 2)))))
theorem b__law_take (T : Top P w K mg base) {m__law_more : M} (G__law_more : Fn P w K mg base (CM mg) "_law_more" 1 2 m__law_more) (hr : RoomG 1 (A.deeper (envOfC "_law_take" (defScope s__law_take) s.heap.objs.size f cdv))) : SB (cxOf (L2.CX P w) P w K mg base N__law_take "_law_take" (defScope s__law_take) f cdv A outer s H E) (CM mg) (fun c d _ H => E c d H) (defBody s__law_take) (d__law_take m__law_more) :=
  (sb_cons (ss_set 3 sc__law_take.nd (se_ix (se_var 1) se_int))
    (sb_cons (ss_asg (se_op op_addA sv_add (se_var 3) se_int) (sg_ix (W := W0) (se_var 1) se_int))
    (sb_one (ss_ret (se_op op_modN sv_mod (se_typ call_int1 sv_int T.z_int PyProof.Rows.boot_int (sa_cons (se_if (st_cmp op_lt sv_lt (se_var 3) (se_blt call_lenA sv_len T.z_len PySem.boot_len (sa_cons (se_var 0) sa_nil))) (se_ix (se_var 0) (se_var 3)) (se_call (G__law_more.mono (by decide)) hr (takes_of rfl rfl rfl rfl) (sa_cons (se_var 0) (sa_cons (se_var 3) sa_nil)))) sa_nil)) (se_var 2))))))
noncomputable def d__law_one (m__law_take : M) : SF :=
  (sRet (fBin pIx (fVar 0) (fApp 3 m__law_take (fCons (fVar 1) (fCons (fVar 2) (fCons (fCall (p1L pLen) (fCons (fVar 0) fNil)) fNil))))))
theorem b__law_one (T : Top P w K mg base) {m__law_take : M} (G__law_take : Fn P w K mg base (CM mg) "_law_take" 2 3 m__law_take) (hr : RoomG 2 (A.deeper (envOfC "_law_one" (defScope s__law_one) s.heap.objs.size f cdv))) : SB (cxOf (L2.CX P w) P w K mg base N__law_one "_law_one" (defScope s__law_one) f cdv A outer s H E) (CM mg) (fun c d _ H => E c d H) (defBody s__law_one) (d__law_one m__law_take) :=
  (sb_one (ss_ret (se_ix (se_var 0) (se_call (G__law_take.mono (by decide)) hr (takes_of rfl rfl rfl rfl) (sa_cons (se_var 1) (sa_cons (se_var 2) (sa_cons (se_blt call_lenA sv_len T.z_len PySem.boot_len (sa_cons (se_var 0) sa_nil)) sa_nil)))))))
noncomputable def d__law_row (m__law_take : M) : SF :=
  (sRet (fNew qTuple (fComp (iR1 (fCons (fVar 0) fNil)) [3] (gN 3) tTrue (fApp 3 m__law_take (fCons (fVar 1) (fCons (fVar 2) (fCons (fC (.int 2)) fNil)))))))
theorem b__law_row (T : Top P w K mg base) {m__law_take : M} (G__law_take : Fn P w K mg base (CM mg) "_law_take" 2 3 m__law_take) (hr : RoomG 2 (A.deeper (envOfC "_law_row" (defScope s__law_row) s.heap.objs.size f cdv))) : SB (cxOf (L2.CX P w) P w K mg base N__law_row "_law_row" (defScope s__law_row) f cdv A outer s H E) (CM mg) (fun c d _ H => E c d H) (defBody s__law_row) (d__law_row m__law_take) :=
  (sb_one (ss_ret (se_typF (call_tuple_of) sf_tuple T.z_tuple PyProof.Rows.boot_tuple (sl_comp rfl sc__law_row.nd (si_range1 T.z_range (sa_cons (se_var 0) sa_nil)) (blkOk_by (own := [("k", 3)]) (by rfl)) (fun _ _ _ _ _ => (sg_name 3 sc__law_row.nd)) (fun _ _ _ _ _ => sts_nil) (fun _ _ _ _ _ => (se_call (G__law_take.mono (by decide)) hr takes0 (sa_cons (se_var 1) (sa_cons (se_var 2) (sa_cons se_int sa_nil)))))))))
noncomputable def d__law_planted (m__law_take : M) (m__law_row : M) : SF :=
  (sSeq (sAsg (fAl (fComp (iR1 (fCons (fVar 1) fNil)) [10] (gN 10) tTrue (fApp 3 m__law_take (fCons (fVar 2) (fCons (fVar 3) (fCons (fC (.int 2)) fNil)))))) (gN 4))
    (sSeq (sAsg (fAl (fComp (iR1 (fCons (fVar 0) fNil)) [10] (gN 10) tTrue (fApp 3 m__law_take (fCons (fVar 2) (fCons (fVar 3) (fCons (fC (.int 2)) fNil)))))) (gN 5))
    (sSeq (sAsg (fAl (fLst fNil)) (gN 6))
    (sSeq (sFor (iR1 (fCons (fVar 0) fNil)) (gN 7) (sSeq (sAsg (fAl (fList (fApp 3 m__law_row (fCons (fVar 1) (fCons (fVar 2) (fCons (fVar 3) fNil)))))) (gN 8))
    (sSeq (sFor (iR1 (fCons (fVar 1) fNil)) (gN 9) (sIf (fT (fBin pNe (fBin pIx (fVar 4) (fVar 9)) (fBin pIx (fVar 5) (fVar 7)))) (sAsg (fBin pIx (fVar 4) (fVar 9)) (gIx (fVar 8) (fVar 9))) sNil))
    (sExpr (fApd (fVar 6) (fCall (p1L pTuple) (fCons (fVar 8) fNil)))))))
    (sRet (fCall (p1L pTuple) (fCons (fVar 6) fNil)))))))
theorem b__law_planted (T : Top P w K mg base) {m__law_take : M} (G__law_take : Fn P w K mg base (CM mg) "_law_take" 2 3 m__law_take) {m__law_row : M} (G__law_row : Fn P w K mg base (CM mg) "_law_row" 3 3 m__law_row) (hr : RoomG 3 (A.deeper (envOfC "_law_planted" (defScope s__law_planted) s.heap.objs.size f cdv))) : SB (cxOf (L2.CX P w) P w K mg base N__law_planted "_law_planted" (defScope s__law_planted) f cdv A outer s H E) (CM mg) (fun c d _ H => E c d H) (defBody s__law_planted) (d__law_planted m__law_take m__law_row) :=
  (sb_cons (ss_setc 4 rfl sc__law_planted.nd (si_range1 T.z_range (sa_cons (se_var 1) sa_nil)) (blkOk_by (own := [("k", 10)]) (by rfl)) (fun _ _ _ _ _ => (sg_name 10 sc__law_planted.nd)) (fun _ _ _ _ _ => sts_nil) (fun _ _ _ _ _ => (se_call (G__law_take.mono (by decide)) hr takes0 (sa_cons (se_var 2) (sa_cons (se_var 3) (sa_cons se_int sa_nil))))) (sw_true rfl rfl rfl (by rfl)))
    (sb_cons (ss_setc 5 rfl sc__law_planted.nd (si_range1 T.z_range (sa_cons (se_var 0) sa_nil)) (blkOk_by (own := [("k", 10)]) (by rfl)) (fun _ _ _ _ _ => (sg_name 10 sc__law_planted.nd)) (fun _ _ _ _ _ => sts_nil) (fun _ _ _ _ _ => (se_call (G__law_take.mono (by decide)) hr takes0 (sa_cons (se_var 2) (sa_cons (se_var 3) (sa_cons se_int sa_nil))))) (sw_true rfl rfl rfl (by rfl)))
    (sb_cons (ss_set 6 sc__law_planted.nd (SL.se (sl_lst sa_nil)))
    (sb_cons (ss_for (passes_of rfl) rfl (si_range1 T.z_range (sa_cons (se_var 0) sa_nil)) (sg_name 7 sc__law_planted.nd) (sb_cons (ss_set 8 sc__law_planted.nd (SL.se (sl_list_of T.z_list (se_call (G__law_row.mono (by decide)) hr (takes_of rfl rfl rfl rfl) (sa_cons (se_var 1) (sa_cons (se_var 2) (sa_cons (se_var 3) sa_nil)))))))
    (sb_cons (ss_for (passes_of rfl) rfl (si_range1 T.z_range (sa_cons (se_var 1) sa_nil)) (sg_name 9 sc__law_planted.nd) (sb_one (ss_if (st_cmp (op_ne.or (op_neD hr.u64)) sv_ne (se_ix (se_var 4) (se_var 9)) (se_ix (se_var 5) (se_var 7))) (sb_one (ss_asg (se_ix (se_var 4) (se_var 9)) (sg_ix (W := W0) (se_var 8) (se_var 9)))) sb_nil)))
    (sb_one (ss_expr (se_append (se_var 6) (se_typ call_tuple_of sv_tuple T.z_tuple PyProof.Rows.boot_tuple (sa_cons (se_var 8) sa_nil))))))))
    (sb_one (ss_ret (se_typ call_tuple_of sv_tuple T.z_tuple PyProof.Rows.boot_tuple (sa_cons (se_var 6) sa_nil))))))))
noncomputable def d__law_sized (m__law_take : M) (m__law_row : M) (m__law_one : M) (m__law_planted : M) : SF :=
  (sSeq (sAsg (fApp 3 m__law_take (fCons (fVar 2) (fCons (fVar 3) (fCons (fC (.int 6)) fNil)))) (gN 4))
    (sSeq (sIf (fT (fBin pEq (fVar 4) (fC (.int 1)))) (sSeq (sAsg (fApp 3 m__law_row (fCons (fVar 1) (fCons (fVar 2) (fCons (fVar 3) fNil)))) (gN 5))
    (sSeq (sAsg (fApp 3 m__law_take (fCons (fVar 2) (fCons (fVar 3) (fCons (fVar 1) fNil)))) (gN 6))
    (sRet (fNew qTuple (fComp (iR1 (fCons (fVar 0) fNil)) [10] (gN 10) tTrue (fNew qTuple (fComp (iR1 (fCons (fVar 1) fNil)) [11] (gN 11) tTrue (fBin pIx (fVar 5) (fBin (pI2 gMod) (fCall (p1L pInt) (fCons (fBin pAdd (fVar 11) (fBin (pI2 gMul) (fVar 6) (fVar 10))) fNil)) (fVar 1)))))))))) sNil)
    (sSeq (sIf (fT (fBin pEq (fVar 4) (fC (.int 2)))) (sSeq (sAsg (fAl (fComp (iR1 (fCons (fBin pAdd (fC (.int 1)) (fApp 3 m__law_take (fCons (fVar 2) (fCons (fVar 3) (fCons (fC (.int 3)) fNil))))) fNil)) [9] (gN 9) tTrue (fApp 3 m__law_row (fCons (fVar 1) (fCons (fVar 2) (fCons (fVar 3) fNil)))))) (gN 7))
    (sRet (fNew qTuple (fComp (iR1 (fCons (fVar 0) fNil)) [10] (gN 10) tTrue (fApp 3 m__law_one (fCons (fVar 7) (fCons (fVar 2) (fCons (fVar 3) fNil)))))))) sNil)
    (sSeq (sIf (fT (fBin pEq (fVar 4) (fC (.int 3)))) (sRet (fApp 4 m__law_planted (fCons (fVar 0) (fCons (fVar 1) (fCons (fVar 2) (fCons (fVar 3) fNil)))))) sNil)
    (sSeq (sIf (fT (fBin pEq (fVar 4) (fC (.int 4)))) (sSeq (sAsg (fApp 3 m__law_take (fCons (fVar 2) (fCons (fVar 3) (fCons (fC (.int 2)) fNil)))) (gN 8))
    (sSeq (sAsg (fAl (fComp (iR1 (fCons (fVar 0) fNil)) [10] (gN 10) tTrue (fAl (fComp (iR1 (fCons (fVar 1) fNil)) [11] (gN 11) tTrue (fIf (fT (fBin pEq (fApp 3 m__law_take (fCons (fVar 2) (fCons (fVar 3) (fCons (fC (.int 7)) fNil)))) (fC (.int 0)))) (fVar 8) (fBin (pI2 gSub) (fC (.int 1)) (fVar 8))))))) (gN 7))
    (sRet (fNew qTuple (fComp (iE (fVar 7)) [5] (gN 5) tTrue (fCall (p1L pTuple) (fCons (fVar 5) fNil))))))) sNil)
    (sRet (fNew qTuple (fComp (iR1 (fCons (fVar 0) fNil)) [10] (gN 10) tTrue (fApp 3 m__law_row (fCons (fVar 1) (fCons (fVar 2) (fCons (fVar 3) fNil))))))))))))
theorem b__law_sized (T : Top P w K mg base) {m__law_take : M} (G__law_take : Fn P w K mg base (CM mg) "_law_take" 2 3 m__law_take) {m__law_row : M} (G__law_row : Fn P w K mg base (CM mg) "_law_row" 3 3 m__law_row) {m__law_one : M} (G__law_one : Fn P w K mg base (CM mg) "_law_one" 3 3 m__law_one) {m__law_planted : M} (G__law_planted : Fn P w K mg base (CM mg) "_law_planted" 4 4 m__law_planted) (hr : RoomG 4 (A.deeper (envOfC "_law_sized" (defScope s__law_sized) s.heap.objs.size f cdv))) : SB (cxOf (L2.CX P w) P w K mg base N__law_sized "_law_sized" (defScope s__law_sized) f cdv A outer s H E) (CM mg) (fun c d _ H => E c d H) (defBody s__law_sized) (d__law_sized m__law_take m__law_row m__law_one m__law_planted) :=
  (sb_cons (ss_set 4 sc__law_sized.nd (se_call (G__law_take.mono (by decide)) hr (takes_of rfl rfl rfl rfl) (sa_cons (se_var 2) (sa_cons (se_var 3) (sa_cons se_int sa_nil)))))
    (sb_cons (ss_if (st_cmp (op_eq.or (op_eqD hr.u64)) sv_eq (se_var 4) se_int) (sb_cons (ss_set 5 sc__law_sized.nd (se_call (G__law_row.mono (by decide)) hr (takes_of rfl rfl rfl rfl) (sa_cons (se_var 1) (sa_cons (se_var 2) (sa_cons (se_var 3) sa_nil)))))
    (sb_cons (ss_set 6 sc__law_sized.nd (se_call (G__law_take.mono (by decide)) hr (takes_of rfl rfl rfl rfl) (sa_cons (se_var 2) (sa_cons (se_var 3) (sa_cons (se_var 1) sa_nil)))))
    (sb_one (ss_ret (se_typF (call_tuple_of) sf_tuple T.z_tuple PyProof.Rows.boot_tuple (sl_comp rfl sc__law_sized.nd (si_range1 T.z_range (sa_cons (se_var 0) sa_nil)) (blkOk_by (own := [("pick", 10)]) (by rfl)) (fun _ _ _ _ _ => (sg_name 10 sc__law_sized.nd)) (fun _ _ _ _ _ => sts_nil) (fun _ _ _ _ _ => (se_typF (call_tuple_of) sf_tuple T.z_tuple PyProof.Rows.boot_tuple (sl_comp rfl sc__law_sized.nd (si_range1 T.z_range (sa_cons (se_var 1) sa_nil)) (blkOk_by (own := [("end", 11)]) (by rfl)) (fun _ _ _ _ _ => (sg_name 11 sc__law_sized.nd)) (fun _ _ _ _ _ => sts_nil) (fun _ _ _ _ _ => (se_ix (se_var 5) (se_op op_modN sv_mod (se_typ call_int1 sv_int T.z_int PyProof.Rows.boot_int (sa_cons (se_op op_addA sv_add (se_var 11) (se_op op_mul sv_mul (se_var 6) (se_var 10))) sa_nil)) (se_var 1))))))))))))) sb_nil)
    (sb_cons (ss_if (st_cmp (op_eq.or (op_eqD hr.u64)) sv_eq (se_var 4) se_int) (sb_cons (ss_set 7 sc__law_sized.nd (SL.se (sl_comp rfl sc__law_sized.nd (si_range1 T.z_range (sa_cons (se_op op_addA sv_add se_int (se_call (G__law_take.mono (by decide)) hr (takes_of rfl rfl rfl rfl) (sa_cons (se_var 2) (sa_cons (se_var 3) (sa_cons se_int sa_nil))))) sa_nil)) (blkOk_by (own := [("k", 9)]) (by rfl)) (fun _ _ _ _ _ => (sg_name 9 sc__law_sized.nd)) (fun _ _ _ _ _ => sts_nil) (fun _ _ _ _ _ => (se_call (G__law_row.mono (by decide)) hr takes0 (sa_cons (se_var 1) (sa_cons (se_var 2) (sa_cons (se_var 3) sa_nil))))))))
    (sb_one (ss_ret (se_typF (call_tuple_of) sf_tuple T.z_tuple PyProof.Rows.boot_tuple (sl_comp rfl sc__law_sized.nd (si_range1 T.z_range (sa_cons (se_var 0) sa_nil)) (blkOk_by (own := [("pick", 10)]) (by rfl)) (fun _ _ _ _ _ => (sg_name 10 sc__law_sized.nd)) (fun _ _ _ _ _ => sts_nil) (fun _ _ _ _ _ => (se_call (G__law_one.mono (by decide)) hr takes0 (sa_cons (se_var 7) (sa_cons (se_var 2) (sa_cons (se_var 3) sa_nil)))))))))) sb_nil)
    (sb_cons (ss_if (st_cmp (op_eq.or (op_eqD hr.u64)) sv_eq (se_var 4) se_int) (sb_one (ss_ret (se_call (G__law_planted.mono (by decide)) hr (takes_of rfl rfl rfl rfl) (sa_cons (se_var 0) (sa_cons (se_var 1) (sa_cons (se_var 2) (sa_cons (se_var 3) sa_nil))))))) sb_nil)
    (sb_cons (ss_if (st_cmp (op_eq.or (op_eqD hr.u64)) sv_eq (se_var 4) se_int) (sb_cons (ss_set 8 sc__law_sized.nd (se_call (G__law_take.mono (by decide)) hr (takes_of rfl rfl rfl rfl) (sa_cons (se_var 2) (sa_cons (se_var 3) (sa_cons se_int sa_nil)))))
    (sb_cons (ss_set 7 sc__law_sized.nd (SL.se (sl_comp rfl sc__law_sized.nd (si_range1 T.z_range (sa_cons (se_var 0) sa_nil)) (blkOk_by (own := [("pick", 10)]) (by rfl)) (fun _ _ _ _ _ => (sg_name 10 sc__law_sized.nd)) (fun _ _ _ _ _ => sts_nil) (fun _ _ _ _ _ => (SL.se (sl_comp rfl sc__law_sized.nd (si_range1 T.z_range (sa_cons (se_var 1) sa_nil)) (blkOk_by (own := [("end", 11)]) (by rfl)) (fun _ _ _ _ _ => (sg_name 11 sc__law_sized.nd)) (fun _ _ _ _ _ => sts_nil) (fun _ _ _ _ _ => (se_if (st_cmp (op_eq.or (op_eqD hr.u64)) sv_eq (se_call (G__law_take.mono (by decide)) hr takes0 (sa_cons (se_var 2) (sa_cons (se_var 3) (sa_cons se_int sa_nil)))) se_int) (se_var 8) (se_op op_sub sv_sub se_int (se_var 8))))))))))
    (sb_one (ss_ret (se_typF (call_tuple_of) sf_tuple T.z_tuple PyProof.Rows.boot_tuple (sl_comp rfl sc__law_sized.nd (si_e (se_var 7)) (blkOk_by (own := [("row", 5)]) (by rfl)) (fun _ _ _ _ _ => (sg_name 5 sc__law_sized.nd)) (fun _ _ _ _ _ => sts_nil) (fun _ _ _ _ _ => (se_typ call_tuple_of sv_tuple T.z_tuple PyProof.Rows.boot_tuple (sa_cons (se_var 5) sa_nil))))))))) sb_nil)
    (sb_one (ss_ret (se_typF (call_tuple_of) sf_tuple T.z_tuple PyProof.Rows.boot_tuple (sl_comp rfl sc__law_sized.nd (si_range1 T.z_range (sa_cons (se_var 0) sa_nil)) (blkOk_by (own := [("pick", 10)]) (by rfl)) (fun _ _ _ _ _ => (sg_name 10 sc__law_sized.nd)) (fun _ _ _ _ _ => sts_nil) (fun _ _ _ _ _ => (se_call (G__law_row.mono (by decide)) hr takes0 (sa_cons (se_var 1) (sa_cons (se_var 2) (sa_cons (se_var 3) sa_nil))))))))))))))
noncomputable def d__law_cloth (m__law_sized : M) (m__law_take : M) : SF :=
  (sRet (fApp 4 m__law_sized (fCons (fBin pAdd (fC (.int 1)) (fApp 3 m__law_take (fCons (fVar 1) (fCons (fVar 2) (fCons (fVar 0) fNil))))) (fCons (fBin pAdd (fC (.int 1)) (fApp 3 m__law_take (fCons (fVar 1) (fCons (fVar 2) (fCons (fVar 0) fNil))))) (fCons (fVar 1) (fCons (fVar 2) fNil))))))
theorem b__law_cloth (T : Top P w K mg base) {m__law_sized : M} (G__law_sized : Fn P w K mg base (CM mg) "_law_sized" 5 4 m__law_sized) {m__law_take : M} (G__law_take : Fn P w K mg base (CM mg) "_law_take" 2 3 m__law_take) (hr : RoomG 5 (A.deeper (envOfC "_law_cloth" (defScope s__law_cloth) s.heap.objs.size f cdv))) : SB (cxOf (L2.CX P w) P w K mg base N__law_cloth "_law_cloth" (defScope s__law_cloth) f cdv A outer s H E) (CM mg) (fun c d _ H => E c d H) (defBody s__law_cloth) (d__law_cloth m__law_sized m__law_take) :=
  (sb_one (ss_ret (se_call (G__law_sized.mono (by decide)) hr (takes_of rfl rfl rfl rfl) (sa_cons (se_op op_addA sv_add se_int (se_call (G__law_take.mono (by decide)) hr (takes_of rfl rfl rfl rfl) (sa_cons (se_var 1) (sa_cons (se_var 2) (sa_cons (se_var 0) sa_nil))))) (sa_cons (se_op op_addA sv_add se_int (se_call (G__law_take.mono (by decide)) hr (takes_of rfl rfl rfl rfl) (sa_cons (se_var 1) (sa_cons (se_var 2) (sa_cons (se_var 0) sa_nil))))) (sa_cons (se_var 1) (sa_cons (se_var 2) sa_nil)))))))
noncomputable def d__law_line  : SF :=
  (sSeq (sIf (fT (fBin pEq (fBin pIx (fVar 1) (fC (.int 0))) (fC (.str "end")))) (sRet (fAl (fComp (iE (fVar 0)) [3] (gN 3) tTrue (fBin pEq (fBin pIx (fVar 3) (fBin pIx (fVar 1) (fC (.int 1)))) (fC (.int 1)))))) sNil)
    (sRet (fAl (fComp (iE (fBin pIx (fVar 0) (fBin pIx (fVar 1) (fC (.int 1))))) [2] (gN 2) tTrue (fBin pEq (fVar 2) (fC (.int 0)))))))
theorem b__law_line (T : Top P w K mg base)  (hr : RoomG 0 (A.deeper (envOfC "_law_line" (defScope s__law_line) s.heap.objs.size f cdv))) : SB (cxOf (L2.CX P w) P w K mg base N__law_line "_law_line" (defScope s__law_line) f cdv A outer s H E) (CM mg) (fun c d _ H => E c d H) (defBody s__law_line) (d__law_line ) :=
  (sb_cons (ss_if (st_cmp (op_eq.or (op_eqD hr.u64)) sv_eq (se_ix (se_var 1) se_int) se_str) (sb_one (ss_ret (SL.se (sl_comp rfl sc__law_line.nd (si_e (se_var 0)) (blkOk_by (own := [("row", 3)]) (by rfl)) (fun _ _ _ _ _ => (sg_name 3 sc__law_line.nd)) (fun _ _ _ _ _ => sts_nil) (fun _ _ _ _ _ => (se_cmp (op_eq.or (op_eqD hr.u64)) sv_eq (se_ix (se_var 3) (se_ix (se_var 1) se_int)) se_int)))))) sb_nil)
    (sb_one (ss_ret (SL.se (sl_comp rfl sc__law_line.nd (si_e (se_ix (se_var 0) (se_ix (se_var 1) se_int))) (blkOk_by (own := [("part", 2)]) (by rfl)) (fun _ _ _ _ _ => (sg_name 2 sc__law_line.nd)) (fun _ _ _ _ _ => sts_nil) (fun _ _ _ _ _ => (se_cmp (op_eq.or (op_eqD hr.u64)) sv_eq (se_var 2) se_int)))))))
noncomputable def d__law_floats (m__law_line : M) : SF :=
  (sSeq (sAsg (fAl (fCat (fComp (iR1 (fCons (fCall (p1L pLen) (fCons (fBin pIx (fVar 0) (fC (.int 0))) fNil)) fNil)) [6] (gN 6) tTrue (fTup (fCons (fC (.str "end")) (fCons (fVar 6) fNil)))) (fComp (iR1 (fCons (fCall (p1L pLen) (fCons (fVar 0) fNil)) fNil)) [7] (gN 7) tTrue (fTup (fCons (fC (.str "pick")) (fCons (fVar 7) fNil)))))) (gN 1))
    (sSeq (sAsg (fAl (fLst fNil)) (gN 2))
    (sSeq (sFor (iE (fVar 1)) (gN 3) (sSeq (sAsg (fApp 2 m__law_line (fCons (fVar 0) (fCons (fVar 3) fNil))) (gN 4))
    (sIf (fT (fBin pEq (fVar 4) (fAl (fRep (fLst (fCons (fBin pIx (fVar 4) (fC (.int 0))) fNil)) (fCall (p1L pLen) (fCons (fVar 4) fNil)))))) (sExpr (fApd (fVar 2) (fTup (fCons (fVar 3) (fCons (fC (.int 0)) (fCons (fC .non) (fCons (fIf (fTru (fBin pIx (fVar 4) (fC (.int 0)))) (fC (.str "face")) (fC (.str "back"))) fNil))))))) (sFor (iR1 (fCons (fCall (p1L pLen) (fCons (fVar 4) fNil)) fNil)) (gN 5) (sIf (fT (fBin pNe (fBin pIx (fVar 4) (fVar 5)) (fBin pIx (fVar 4) (fBin (pI2 gSub) (fVar 5) (fC (.int 1)))))) (sSeq (sAsg (fC (.int 1)) (gN 8))
    (sSeq (sWhile (fT (fBin pEq (fBin pIx (fVar 4) (fBin (pI2 gMod) (fCall (p1L pInt) (fCons (fBin pAdd (fVar 5) (fVar 8)) fNil)) (fCall (p1L pLen) (fCons (fVar 4) fNil)))) (fBin pIx (fVar 4) (fVar 5)))) (sAsg (fBin pAdd (fVar 8) (fC (.int 1))) (gN 8)))
    (sExpr (fApd (fVar 2) (fTup (fCons (fVar 3) (fCons (fVar 5) (fCons (fVar 8) (fCons (fIf (fTru (fBin pIx (fVar 4) (fVar 5))) (fC (.str "face")) (fC (.str "back"))) fNil))))))))) sNil)))))
    (sRet (fVar 2)))))
theorem b__law_floats (T : Top P w K mg base) {m__law_line : M} (G__law_line : Fn P w K mg base (CM mg) "_law_line" 1 2 m__law_line) (hr : RoomG 1 (A.deeper (envOfC "_law_floats" (defScope s__law_floats) s.heap.objs.size f cdv))) : SB (cxOf (L2.CX P w) P w K mg base N__law_floats "_law_floats" (defScope s__law_floats) f cdv A outer s H E) (CM mg) (fun c d _ H => E c d H) (defBody s__law_floats) (d__law_floats m__law_line) :=
  (sb_cons (ss_set 1 sc__law_floats.nd (SL.se (sl_cat (sl_comp rfl sc__law_floats.nd (si_range1 T.z_range (sa_cons (se_blt call_lenA sv_len T.z_len PySem.boot_len (sa_cons (se_ix (se_var 0) se_int) sa_nil)) sa_nil)) (blkOk_by (own := [("end", 6)]) (by rfl)) (fun _ _ _ _ _ => (sg_name 6 sc__law_floats.nd)) (fun _ _ _ _ _ => sts_nil) (fun _ _ _ _ _ => (se_tup (sa_cons se_str (sa_cons (se_var 6) sa_nil))))) (sl_comp rfl sc__law_floats.nd (si_range1 T.z_range (sa_cons (se_blt call_lenA sv_len T.z_len PySem.boot_len (sa_cons (se_var 0) sa_nil)) sa_nil)) (blkOk_by (own := [("pick", 7)]) (by rfl)) (fun _ _ _ _ _ => (sg_name 7 sc__law_floats.nd)) (fun _ _ _ _ _ => sts_nil) (fun _ _ _ _ _ => (se_tup (sa_cons se_str (sa_cons (se_var 7) sa_nil))))))))
    (sb_cons (ss_set 2 sc__law_floats.nd (SL.se (sl_lst sa_nil)))
    (sb_cons (ss_for (passes_of rfl) rfl (si_e (se_var 1)) (sg_name 3 sc__law_floats.nd) (sb_cons (ss_set 4 sc__law_floats.nd (se_call (G__law_line.mono (by decide)) hr (takes_of rfl rfl rfl rfl) (sa_cons (se_var 0) (sa_cons (se_var 3) sa_nil))))
    (sb_one (ss_if (st_cmp (op_eq.or (op_eqD hr.u64)) sv_eq (se_var 4) (SL.se (sl_rep (sl_lst (sa_cons (se_ix (se_var 4) se_int) sa_nil)) (se_blt call_lenA sv_len T.z_len PySem.boot_len (sa_cons (se_var 4) sa_nil))))) (sb_one (ss_expr (se_append (se_var 2) (se_tup (sa_cons (se_var 3) (sa_cons se_int (sa_cons se_non (sa_cons (se_if (st_tru (se_ix (se_var 4) se_int)) se_str se_str) sa_nil)))))))) (sb_one (ss_for (passes_of rfl) rfl (si_range1 T.z_range (sa_cons (se_blt call_lenA sv_len T.z_len PySem.boot_len (sa_cons (se_var 4) sa_nil)) sa_nil)) (sg_name 5 sc__law_floats.nd) (sb_one (ss_if (st_cmp (op_ne.or (op_neD hr.u64)) sv_ne (se_ix (se_var 4) (se_var 5)) (se_ix (se_var 4) (se_op op_sub sv_sub (se_var 5) se_int))) (sb_cons (ss_set 8 sc__law_floats.nd se_int)
    (sb_cons (ss_while (passes_of rfl) (st_cmp (op_eq.or (op_eqD hr.u64)) sv_eq (se_ix (se_var 4) (se_op op_modN sv_mod (se_typ call_int1 sv_int T.z_int PyProof.Rows.boot_int (sa_cons (se_op op_addA sv_add (se_var 5) (se_var 8)) sa_nil)) (se_blt call_lenA sv_len T.z_len PySem.boot_len (sa_cons (se_var 4) sa_nil)))) (se_ix (se_var 4) (se_var 5))) (sb_one (ss_set 8 sc__law_floats.nd (se_op op_addA sv_add (se_var 8) se_int))))
    (sb_one (ss_expr (se_append (se_var 2) (se_tup (sa_cons (se_var 3) (sa_cons (se_var 5) (sa_cons (se_var 8) (sa_cons (se_if (st_tru (se_ix (se_var 4) (se_var 5))) se_str se_str) sa_nil)))))))))) sb_nil))))))))
    (sb_one (ss_ret (se_var 2))))))
noncomputable def d__law_longest  : SF :=
  (sSeq (sAsg (fAl (fComp (iE (fVar 0)) [3] (gN 3) (fT (fBin pIsN (fBin pIx (fVar 3) (fC (.int 2))) (fC .non))) (fVar 3))) (gN 1))
    (sSeq (sIf (fT (fBin pNe (fVar 1) (fAl (fLst fNil)))) (sRet (fTup (fCons (fC .non) (fCons (fBin pIx (fVar 1) (fC (.int 0))) fNil)))) sNil)
    (sSeq (sAsg (fNew qMax (fComp (iE (fVar 0)) [3] (gN 3) tTrue (fBin pIx (fVar 3) (fC (.int 2))))) (gN 2))
    (sRet (fTup (fCons (fVar 2) (fCons (fBin pIx (fAl (fComp (iE (fVar 0)) [3] (gN 3) (fT (fBin pEq (fBin pIx (fVar 3) (fC (.int 2))) (fVar 2))) (fVar 3))) (fC (.int 0))) fNil)))))))
theorem b__law_longest (T : Top P w K mg base)  (hr : RoomG 0 (A.deeper (envOfC "_law_longest" (defScope s__law_longest) s.heap.objs.size f cdv))) : SB (cxOf (L2.CX P w) P w K mg base N__law_longest "_law_longest" (defScope s__law_longest) f cdv A outer s H E) (CM mg) (fun c d _ H => E c d H) (defBody s__law_longest) (d__law_longest ) :=
  (sb_cons (ss_setc 1 rfl sc__law_longest.nd (si_e (se_var 0)) (blkOk_by (own := [("row", 3)]) (by rfl)) (fun _ _ _ _ _ => (sg_name 3 sc__law_longest.nd)) (fun _ _ _ _ _ => (sts_one (st_cmp op_isN sv_isN (se_ix (se_var 3) se_int) se_non))) (fun _ _ _ _ _ => (se_var 3)) (sw_true rfl rfl rfl (by rfl)))
    (sb_cons (ss_if (st_cmp (op_ne.or (op_neD hr.u64)) sv_ne (se_var 1) (SL.se (sl_lst sa_nil))) (sb_one (ss_ret (se_tup (sa_cons se_non (sa_cons (se_ix (se_var 1) se_int) sa_nil))))) sb_nil)
    (sb_cons (ss_set 2 sc__law_longest.nd (se_bltF (cr_max rfl) sf_max T.z_max boot_max0 (sl_comp rfl sc__law_longest.nd (si_e (se_var 0)) (blkOk_by (own := [("row", 3)]) (by rfl)) (fun _ _ _ _ _ => (sg_name 3 sc__law_longest.nd)) (fun _ _ _ _ _ => sts_nil) (fun _ _ _ _ _ => (se_ix (se_var 3) se_int)))))
    (sb_one (ss_ret (se_tup (sa_cons (se_var 2) (sa_cons (se_ix (SL.se (sl_comp rfl sc__law_longest.nd (si_e (se_var 0)) (blkOk_by (own := [("row", 3)]) (by rfl)) (fun _ _ _ _ _ => (sg_name 3 sc__law_longest.nd)) (fun _ _ _ _ _ => (sts_one (st_cmp (op_eq.or (op_eqD hr.u64)) sv_eq (se_ix (se_var 3) se_int) (se_var 2)))) (fun _ _ _ _ _ => (se_var 3)))) se_int) sa_nil))))))))
noncomputable def d__law_told (m_too_long : M) : SF :=
  (sTry (sRet (fApp 2 m_too_long (fCons (fVar 0) (fCons (fVar 1) fNil)))) mt_ArgumentError 2 (fFld xs_reason "reason"))
theorem b__law_told (T : Top P w K mg base) {m_too_long : M} (G_too_long : Fn P w K mg base (CM mg) "too_long" 6 2 m_too_long) (hr : RoomG 6 (A.deeper (envOfC "_law_told" (defScope s__law_told) s.heap.objs.size f cdv))) : SB (cxOf (L2.CX P w) P w K mg base N__law_told "_law_told" (defScope s__law_told) f cdv A outer s H E) (CM mg) (fun c d _ H => E c d H) (defBody s__law_told) (d__law_told m_too_long) :=
  (sb_one (T.h_ArgumentError.elim fun c z => ss_try rfl rfl sc__law_told.nd z.1 (takes_of rfl rfl rfl rfl) z.2 (fun _ _ _ tk po => (sb_one (ss_ret (se_call (G_too_long.mono (by decide)) hr tk (sa_cons (se_var 0) (sa_cons (se_var 1) sa_nil)))))) (sx_fld (T.fx_reason))))
noncomputable def d_law (m__law_draws : M) (m__law_cloth : M) (m__law_take : M) (m__law_floats : M) (m_floats : M) (m_longest : M) (m__law_longest : M) (m__law_one : M) (m__law_told : M) (m_face_of : M) (m_interlacings : M) (m__law_line : M) : SF :=
  (sSeq (sAsg (fApp 1 m__law_draws (fCons (fVar 0) fNil)) (gN 1))
    (sSeq (sAsg (fAl (fLst (fCons (fC (.int 0)) fNil))) (gN 2))
    (sSeq (sFor (iR1 (fCons (fC (.int 4)) fNil)) (gN 3) (sSeq (sAsg (fApp 3 m__law_cloth (fCons (fBin pIx (fAl (fLst (fCons (fC (.int 2)) (fCons (fC (.int 6)) (fCons (fC (.int 24)) fNil))))) (fApp 3 m__law_take (fCons (fVar 1) (fCons (fVar 2) (fCons (fC (.int 3)) fNil))))) (fCons (fVar 1) (fCons (fVar 2) fNil)))) (gN 4))
    (sSeq (sAsg (fApp 1 m__law_floats (fCons (fVar 4) fNil)) (gN 5))
    (sSeq (sAsg (fApp 1 m_floats (fCons (fVar 4) fNil)) (gN 6))
    (sSeq (sIf (tOrF (fT (fBin pNe (fCall (p1L pRepr) (fCons (fVar 6) fNil)) (fCall (p1L pRepr) (fCons (fCall (p1L pTuple) (fCons (fVar 5) fNil)) fNil)))) (fT (fBin pNe (fCall (p1L pRepr) (fCons (fApp 1 m_longest (fCons (fVar 4) fNil)) fNil)) (fCall (p1L pRepr) (fCons (fApp 1 m__law_longest (fCons (fVar 5) fNil)) fNil))))) (sRet (fC (.bl false))) sNil)
    (sSeq (sAsg (fApp 3 m__law_one (fCons (fAl (fLst (fCons (fC (.int 1)) (fCons (fC (.int 2)) (fCons (fC (.int 3)) (fCons (fC (.int 24)) (fCons (fC (.int 5)) fNil))))))) (fCons (fVar 1) (fCons (fVar 2) fNil)))) (gN 7))
    (sSeq (sIf (fT (fBin pNe (fCall (p1L pRepr) (fCons (fApp 2 m__law_told (fCons (fVar 4) (fCons (fVar 7) fNil))) fNil)) (fCall (p1L pRepr) (fCons (fNew qTuple (fComp (iE (fVar 5)) [14] (gN 14) (tOrF (fT (fBin pIsN (fBin pIx (fVar 14) (fC (.int 2))) (fC .non))) (fT (fBin (pI2 gGt) (fBin pIx (fVar 14) (fC (.int 2))) (fVar 7)))) (fVar 14))) fNil)))) (sRet (fC (.bl false))) sNil)
    (sSeq (sAsg (fNew qSum (fComp (iE (fVar 4)) [14] (gN 14) tTrue (fCall (p1L (pSeq qSum)) (fCons (fVar 14) fNil)))) (gN 8))
    (sSeq (sIf (fT (fBin pNe (fCall (p1L pRepr) (fCons (fApp 1 m_face_of (fCons (fVar 4) fNil)) fNil)) (fCall (p1L pRepr) (fCons (fTup (fCons (fVar 8) (fCons (fBin (pI2 gSub) (fBin (pI2 gMul) (fCall (p1L pLen) (fCons (fVar 4) fNil)) (fCall (p1L pLen) (fCons (fBin pIx (fVar 4) (fC (.int 0))) fNil))) (fVar 8)) fNil))) fNil)))) (sRet (fC (.bl false))) sNil)
    (sSeq (sAsg (fAl (fCat (fComp (iR1 (fCons (fCall (p1L pLen) (fCons (fBin pIx (fVar 4) (fC (.int 0))) fNil)) fNil)) [15] (gN 15) tTrue (fTup (fCons (fC (.str "end")) (fCons (fVar 15) fNil)))) (fComp (iR1 (fCons (fCall (p1L pLen) (fCons (fVar 4) fNil)) fNil)) [16] (gN 16) tTrue (fTup (fCons (fC (.str "pick")) (fCons (fVar 16) fNil)))))) (gN 9))
    (sSeq (sAsg (fAl (fComp (iE (fVar 9)) [11] (gN 11) tTrue (fNew qLen (fComp (iE (fVar 5)) [14] (gN 14) (tAndF (fT (fBin pEq (fBin pIx (fVar 14) (fC (.int 0))) (fVar 11))) (fT (fBin pNotN (fBin pIx (fVar 14) (fC (.int 2))) (fC .non)))) (fVar 14))))) (gN 10))
    (sSeq (sIf (fT (fBin pNe (fCall (p1L pRepr) (fCons (fApp 1 m_interlacings (fCons (fVar 4) fNil)) fNil)) (fCall (p1L pRepr) (fCons (fCall (p1L pTuple) (fCons (fVar 10) fNil)) fNil)))) (sRet (fC (.bl false))) sNil)
    (sFor (iE (fVar 9)) (gN 11) (sSeq (sAsg (fCall (p1L pLen) (fCons (fApp 2 m__law_line (fCons (fVar 4) (fCons (fVar 11) fNil))) fNil)) (gN 12))
    (sSeq (sAsg (fAl (fComp (iE (fVar 6)) [14] (gN 14) (fT (fBin pEq (fBin pIx (fVar 14) (fC (.int 0))) (fVar 11))) (fBin pIx (fVar 14) (fC (.int 2))))) (gN 13))
    (sIf (tAndF (fT (fBin pNe (fVar 13) (fAl (fLst (fCons (fC .non) fNil))))) (fT (fBin pNe (fCall (p1L (pSeq qSum)) (fCons (fVar 13) fNil)) (fVar 12)))) (sRet (fC (.bl false))) sNil))))))))))))))))
    (sRet (fBin pEq (fApp 2 m__law_told (fCons (fVar 4) (fCons (fApp 3 m__law_one (fCons (fAl (fLst (fCons (fC .non) (fCons (fC (.int 0)) (fCons (fC (.int 25)) (fCons (fC (.bl true)) (fCons (fC (.str "1")) (fCons (fTup fNil) fNil)))))))) (fCons (fVar 1) (fCons (fVar 2) fNil)))) fNil))) (fC (.str "most")))))))
theorem b_law (T : Top P w K mg base) {m__law_draws : M} (G__law_draws : Fn P w K mg base (CM mg) "_law_draws" 1 1 m__law_draws) {m__law_cloth : M} (G__law_cloth : Fn P w K mg base (CM mg) "_law_cloth" 6 3 m__law_cloth) {m__law_take : M} (G__law_take : Fn P w K mg base (CM mg) "_law_take" 2 3 m__law_take) {m__law_floats : M} (G__law_floats : Fn P w K mg base (CM mg) "_law_floats" 2 1 m__law_floats) {m_floats : M} (G_floats : Fn P w K mg base (CM mg) "floats" 5 1 m_floats) {m_longest : M} (G_longest : Fn P w K mg base (CM mg) "longest" 6 1 m_longest) {m__law_longest : M} (G__law_longest : Fn P w K mg base (CM mg) "_law_longest" 1 1 m__law_longest) {m__law_one : M} (G__law_one : Fn P w K mg base (CM mg) "_law_one" 3 3 m__law_one) {m__law_told : M} (G__law_told : Fn P w K mg base (CM mg) "_law_told" 7 2 m__law_told) {m_face_of : M} (G_face_of : Fn P w K mg base (CM mg) "face_of" 5 1 m_face_of) {m_interlacings : M} (G_interlacings : Fn P w K mg base (CM mg) "interlacings" 5 1 m_interlacings) {m__law_line : M} (G__law_line : Fn P w K mg base (CM mg) "_law_line" 1 2 m__law_line) (hr : RoomG 7 (A.deeper (envOfC "law" (defScope s_law) s.heap.objs.size f cdv))) : SB (cxOf (L2.CX P w) P w K mg base N_law "law" (defScope s_law) f cdv A outer s H E) (CM mg) (fun c d _ H => E c d H) (defBody s_law) (d_law m__law_draws m__law_cloth m__law_take m__law_floats m_floats m_longest m__law_longest m__law_one m__law_told m_face_of m_interlacings m__law_line) :=
  (sb_cons (ss_set 1 sc_law.nd (se_call (G__law_draws.mono (by decide)) hr (takes_of rfl rfl rfl rfl) (sa_cons (se_var 0) sa_nil)))
    (sb_cons (ss_set 2 sc_law.nd (SL.se (sl_lst (sa_cons se_int sa_nil))))
    (sb_cons (ss_for (passes_of rfl) rfl (si_range1 T.z_range (sa_cons se_int sa_nil)) (sg_name 3 sc_law.nd) (sb_cons (ss_set 4 sc_law.nd (se_call (G__law_cloth.mono (by decide)) hr (takes_of rfl rfl rfl rfl) (sa_cons (se_ix (SL.se (sl_lst (sa_cons se_int (sa_cons se_int (sa_cons se_int sa_nil))))) (se_call (G__law_take.mono (by decide)) hr (takes_of rfl rfl rfl rfl) (sa_cons (se_var 1) (sa_cons (se_var 2) (sa_cons se_int sa_nil))))) (sa_cons (se_var 1) (sa_cons (se_var 2) sa_nil)))))
    (sb_cons (ss_set 5 sc_law.nd (se_call (G__law_floats.mono (by decide)) hr (takes_of rfl rfl rfl rfl) (sa_cons (se_var 4) sa_nil)))
    (sb_cons (ss_set 6 sc_law.nd (se_call (G_floats.mono (by decide)) hr (takes_of rfl rfl rfl rfl) (sa_cons (se_var 4) sa_nil)))
    (sb_cons (ss_if (st_w (sw_or (st_cmp (op_ne.or (op_neD hr.u64)) sv_ne (se_blt (call_reprD hr) sv_repr T.z_repr PyProof.Rows.boot_repr (sa_cons (se_var 6) sa_nil)) (se_blt (call_reprD hr) sv_repr T.z_repr PyProof.Rows.boot_repr (sa_cons (se_typ call_tuple_of sv_tuple T.z_tuple PyProof.Rows.boot_tuple (sa_cons (se_var 5) sa_nil)) sa_nil))) (sw_or1 (st_cmp (op_ne.or (op_neD hr.u64)) sv_ne (se_blt (call_reprD hr) sv_repr T.z_repr PyProof.Rows.boot_repr (sa_cons (se_call (G_longest.mono (by decide)) hr (takes_of rfl rfl rfl rfl) (sa_cons (se_var 4) sa_nil)) sa_nil)) (se_blt (call_reprD hr) sv_repr T.z_repr PyProof.Rows.boot_repr (sa_cons (se_call (G__law_longest.mono (by decide)) hr (takes_of rfl rfl rfl rfl) (sa_cons (se_var 5) sa_nil)) sa_nil)))))) (sb_one (ss_ret se_bl)) sb_nil)
    (sb_cons (ss_set 7 sc_law.nd (se_call (G__law_one.mono (by decide)) hr (takes_of rfl rfl rfl rfl) (sa_cons (SL.se (sl_lst (sa_cons se_int (sa_cons se_int (sa_cons se_int (sa_cons se_int (sa_cons se_int sa_nil))))))) (sa_cons (se_var 1) (sa_cons (se_var 2) sa_nil)))))
    (sb_cons (ss_if (st_cmp (op_ne.or (op_neD hr.u64)) sv_ne (se_blt (call_reprD hr) sv_repr T.z_repr PyProof.Rows.boot_repr (sa_cons (se_call (G__law_told.mono (by decide)) hr (takes_of rfl rfl rfl rfl) (sa_cons (se_var 4) (sa_cons (se_var 7) sa_nil))) sa_nil)) (se_blt (call_reprD hr) sv_repr T.z_repr PyProof.Rows.boot_repr (sa_cons (se_typF (call_tuple_of) sf_tuple T.z_tuple PyProof.Rows.boot_tuple (sl_comp rfl sc_law.nd (si_e (se_var 5)) (blkOk_by (own := [("row", 14)]) (by rfl)) (fun _ _ _ _ _ => (sg_name 14 sc_law.nd)) (fun _ _ _ _ _ => (sts_one (st_w (sw_or (st_cmp op_isN sv_isN (se_ix (se_var 14) se_int) se_non) (sw_or1 (st_cmp op_gt sv_gt (se_ix (se_var 14) se_int) (se_var 7))))))) (fun _ _ _ _ _ => (se_var 14)))) sa_nil))) (sb_one (ss_ret se_bl)) sb_nil)
    (sb_cons (ss_set 8 sc_law.nd (se_bltF (cr_sum rfl) sf_sum T.z_sum boot_sum0 (sl_comp rfl sc_law.nd (si_e (se_var 4)) (blkOk_by (own := [("row", 14)]) (by rfl)) (fun _ _ _ _ _ => (sg_name 14 sc_law.nd)) (fun _ _ _ _ _ => sts_nil) (fun _ _ _ _ _ => (se_blt ((cr_sum rfl).or (cr_sumT rfl)) ss_sum T.z_sum boot_sum0 (sa_cons (se_var 14) sa_nil))))))
    (sb_cons (ss_if (st_cmp (op_ne.or (op_neD hr.u64)) sv_ne (se_blt (call_reprD hr) sv_repr T.z_repr PyProof.Rows.boot_repr (sa_cons (se_call (G_face_of.mono (by decide)) hr (takes_of rfl rfl rfl rfl) (sa_cons (se_var 4) sa_nil)) sa_nil)) (se_blt (call_reprD hr) sv_repr T.z_repr PyProof.Rows.boot_repr (sa_cons (se_tup (sa_cons (se_var 8) (sa_cons (se_op op_sub sv_sub (se_op op_mul sv_mul (se_blt call_lenA sv_len T.z_len PySem.boot_len (sa_cons (se_var 4) sa_nil)) (se_blt call_lenA sv_len T.z_len PySem.boot_len (sa_cons (se_ix (se_var 4) se_int) sa_nil))) (se_var 8)) sa_nil))) sa_nil))) (sb_one (ss_ret se_bl)) sb_nil)
    (sb_cons (ss_set 9 sc_law.nd (SL.se (sl_cat (sl_comp rfl sc_law.nd (si_range1 T.z_range (sa_cons (se_blt call_lenA sv_len T.z_len PySem.boot_len (sa_cons (se_ix (se_var 4) se_int) sa_nil)) sa_nil)) (blkOk_by (own := [("end", 15)]) (by rfl)) (fun _ _ _ _ _ => (sg_name 15 sc_law.nd)) (fun _ _ _ _ _ => sts_nil) (fun _ _ _ _ _ => (se_tup (sa_cons se_str (sa_cons (se_var 15) sa_nil))))) (sl_comp rfl sc_law.nd (si_range1 T.z_range (sa_cons (se_blt call_lenA sv_len T.z_len PySem.boot_len (sa_cons (se_var 4) sa_nil)) sa_nil)) (blkOk_by (own := [("pick", 16)]) (by rfl)) (fun _ _ _ _ _ => (sg_name 16 sc_law.nd)) (fun _ _ _ _ _ => sts_nil) (fun _ _ _ _ _ => (se_tup (sa_cons se_str (sa_cons (se_var 16) sa_nil))))))))
    (sb_cons (ss_setc 10 rfl sc_law.nd (si_e (se_var 9)) (blkOk_by (own := [("thread", 11)]) (by rfl)) (fun _ _ _ _ _ => (sg_name 11 sc_law.nd)) (fun _ _ _ _ _ => sts_nil) (fun _ _ _ _ _ => (se_bltF (call_lenA) sf_len T.z_len PySem.boot_len (sl_comp rfl sc_law.nd (si_e (se_var 5)) (blkOk_by (own := [("row", 14)]) (by rfl)) (fun _ _ _ _ _ => (sg_name 14 sc_law.nd)) (fun _ _ _ _ _ => (sts_one (st_w (sw_and (st_cmp (op_eq.or (op_eqD hr.u64)) sv_eq (se_ix (se_var 14) se_int) (se_var 11)) (sw_and1 (st_cmp op_notN sv_notN (se_ix (se_var 14) se_int) se_non)))))) (fun _ _ _ _ _ => (se_var 14))))) (sw_true rfl rfl rfl (by rfl)))
    (sb_cons (ss_if (st_cmp (op_ne.or (op_neD hr.u64)) sv_ne (se_blt (call_reprD hr) sv_repr T.z_repr PyProof.Rows.boot_repr (sa_cons (se_call (G_interlacings.mono (by decide)) hr (takes_of rfl rfl rfl rfl) (sa_cons (se_var 4) sa_nil)) sa_nil)) (se_blt (call_reprD hr) sv_repr T.z_repr PyProof.Rows.boot_repr (sa_cons (se_typ call_tuple_of sv_tuple T.z_tuple PyProof.Rows.boot_tuple (sa_cons (se_var 10) sa_nil)) sa_nil))) (sb_one (ss_ret se_bl)) sb_nil)
    (sb_one (ss_for (passes_of rfl) rfl (si_e (se_var 9)) (sg_name 11 sc_law.nd) (sb_cons (ss_set 12 sc_law.nd (se_blt call_lenA sv_len T.z_len PySem.boot_len (sa_cons (se_call (G__law_line.mono (by decide)) hr (takes_of rfl rfl rfl rfl) (sa_cons (se_var 4) (sa_cons (se_var 11) sa_nil))) sa_nil)))
    (sb_cons (ss_setc 13 rfl sc_law.nd (si_e (se_var 6)) (blkOk_by (own := [("row", 14)]) (by rfl)) (fun _ _ _ _ _ => (sg_name 14 sc_law.nd)) (fun _ _ _ _ _ => (sts_one (st_cmp (op_eq.or (op_eqD hr.u64)) sv_eq (se_ix (se_var 14) se_int) (se_var 11)))) (fun _ _ _ _ _ => (se_ix (se_var 14) se_int)) (sw_true rfl rfl rfl (by rfl)))
    (sb_one (ss_if (st_w (sw_and (st_cmp (op_ne.or (op_neD hr.u64)) sv_ne (se_var 13) (SL.se (sl_lst (sa_cons se_non sa_nil)))) (sw_and1 (st_cmp (op_ne.or (op_neD hr.u64)) sv_ne (se_blt ((cr_sum rfl).or (cr_sumT rfl)) ss_sum T.z_sum boot_sum0 (sa_cons (se_var 13) sa_nil)) (se_var 12))))) (sb_one (ss_ret se_bl)) sb_nil))))))))))))))))))
    (sb_one (ss_ret (se_cmp (op_eq.or (op_eqD hr.u64)) sv_eq (se_call (G__law_told.mono (by decide)) hr (takes_of rfl rfl rfl rfl) (sa_cons (se_var 4) (sa_cons (se_call (G__law_one.mono (by decide)) hr (takes_of rfl rfl rfl rfl) (sa_cons (SL.se (sl_lst (sa_cons se_non (sa_cons se_int (sa_cons se_int (sa_cons se_bl (sa_cons se_str (sa_cons (se_tup sa_nil) sa_nil)))))))) (sa_cons (se_var 1) (sa_cons (se_var 2) sa_nil)))) sa_nil))) se_str))))))
noncomputable def m_is_integer : M := mOf N_is_integer 1 (d_is_integer )
theorem F_is_integer (T : Top P w K mg base) : Fn P w K mg base (CM mg) "is_integer" 1 1 m_is_integer := by
  obtain ⟨f, fd, F, bn, gm⟩ := T.f_is_integer
  exact fn_mk0 F sc_is_integer bn gm (fun cdv A outer s H E hr => b_is_integer T  hr)
noncomputable def m_threads_of : M := mOf N_threads_of 1 (d_threads_of )
theorem F_threads_of (T : Top P w K mg base) : Fn P w K mg base (CM mg) "threads_of" 1 1 m_threads_of := by
  obtain ⟨f, fd, F, bn, gm⟩ := T.f_threads_of
  exact fn_mk0 F sc_threads_of bn gm (fun cdv A outer s H E hr => b_threads_of T  hr)
noncomputable def m__sides_of : M := mOf N__sides_of 2 (d__sides_of )
theorem F__sides_of (T : Top P w K mg base) : Fn P w K mg base (CM mg) "_sides_of" 1 2 m__sides_of := by
  obtain ⟨f, fd, F, bn, gm⟩ := T.f__sides_of
  exact fn_mk0 F sc__sides_of bn gm (fun cdv A outer s H E hr => b__sides_of T  hr)
noncomputable def m__name_of : M := mOf N__name_of 1 (d__name_of )
theorem F__name_of (T : Top P w K mg base) : Fn P w K mg base (CM mg) "_name_of" 1 1 m__name_of := by
  obtain ⟨f, fd, F, bn, gm⟩ := T.f__name_of
  exact fn_mk0 F sc__name_of bn gm (fun cdv A outer s H E hr => b__name_of T  hr)
noncomputable def m__law_draws : M := mOf N__law_draws 1 (d__law_draws )
theorem F__law_draws (T : Top P w K mg base) : Fn P w K mg base (CM mg) "_law_draws" 1 1 m__law_draws := by
  obtain ⟨f, fd, F, bn, gm⟩ := T.f__law_draws
  exact fn_mk0 F sc__law_draws bn gm (fun cdv A outer s H E hr => b__law_draws T  hr)
noncomputable def m__law_more : M := mOf N__law_more 2 (d__law_more )
theorem F__law_more (T : Top P w K mg base) : Fn P w K mg base (CM mg) "_law_more" 1 2 m__law_more := by
  obtain ⟨f, fd, F, bn, gm⟩ := T.f__law_more
  exact fn_mk0 F sc__law_more bn gm (fun cdv A outer s H E hr => b__law_more T  hr)
noncomputable def m__law_line : M := mOf N__law_line 2 (d__law_line )
theorem F__law_line (T : Top P w K mg base) : Fn P w K mg base (CM mg) "_law_line" 1 2 m__law_line := by
  obtain ⟨f, fd, F, bn, gm⟩ := T.f__law_line
  exact fn_mk0 F sc__law_line bn gm (fun cdv A outer s H E hr => b__law_line T  hr)
noncomputable def m__law_longest : M := mOf N__law_longest 1 (d__law_longest )
theorem F__law_longest (T : Top P w K mg base) : Fn P w K mg base (CM mg) "_law_longest" 1 1 m__law_longest := by
  obtain ⟨f, fd, F, bn, gm⟩ := T.f__law_longest
  exact fn_mk0 F sc__law_longest bn gm (fun cdv A outer s H E hr => b__law_longest T  hr)
noncomputable def m_is_number : M := mOf N_is_number 3 (d_is_number m_is_integer)
theorem F_is_number (T : Top P w K mg base) : Fn P w K mg base (CM mg) "is_number" 2 3 m_is_number := by
  obtain ⟨f, fd, F, bn, gm⟩ := T.f_is_number
  exact fn_mk0 F sc_is_number bn gm (fun cdv A outer s H E hr => b_is_number T (F_is_integer T) hr)
noncomputable def m__floats_of : M := mOf N__floats_of 2 (d__floats_of m__sides_of m__name_of)
theorem F__floats_of (T : Top P w K mg base) : Fn P w K mg base (CM mg) "_floats_of" 2 2 m__floats_of := by
  obtain ⟨f, fd, F, bn, gm⟩ := T.f__floats_of
  exact fn_mk0 F sc__floats_of bn gm (fun cdv A outer s H E hr => b__floats_of T (F__sides_of T) (F__name_of T) hr)
noncomputable def m__law_take : M := mOf N__law_take 3 (d__law_take m__law_more)
theorem F__law_take (T : Top P w K mg base) : Fn P w K mg base (CM mg) "_law_take" 2 3 m__law_take := by
  obtain ⟨f, fd, F, bn, gm⟩ := T.f__law_take
  exact fn_mk0 F sc__law_take bn gm (fun cdv A outer s H E hr => b__law_take T (F__law_more T) hr)
noncomputable def m__law_floats : M := mOf N__law_floats 1 (d__law_floats m__law_line)
theorem F__law_floats (T : Top P w K mg base) : Fn P w K mg base (CM mg) "_law_floats" 2 1 m__law_floats := by
  obtain ⟨f, fd, F, bn, gm⟩ := T.f__law_floats
  exact fn_mk0 F sc__law_floats bn gm (fun cdv A outer s H E hr => b__law_floats T (F__law_line T) hr)
noncomputable def m__fault_of_cloth : M := mOf N__fault_of_cloth 1 (d__fault_of_cloth m_is_number)
theorem F__fault_of_cloth (T : Top P w K mg base) : Fn P w K mg base (CM mg) "_fault_of_cloth" 3 1 m__fault_of_cloth := by
  obtain ⟨f, fd, F, bn, gm⟩ := T.f__fault_of_cloth
  exact fn_mk0 F sc__fault_of_cloth bn gm (fun cdv A outer s H E hr => b__fault_of_cloth T (F_is_number T) hr)
noncomputable def m__law_one : M := mOf N__law_one 3 (d__law_one m__law_take)
theorem F__law_one (T : Top P w K mg base) : Fn P w K mg base (CM mg) "_law_one" 3 3 m__law_one := by
  obtain ⟨f, fd, F, bn, gm⟩ := T.f__law_one
  exact fn_mk0 F sc__law_one bn gm (fun cdv A outer s H E hr => b__law_one T (F__law_take T) hr)
noncomputable def m__law_row : M := mOf N__law_row 3 (d__law_row m__law_take)
theorem F__law_row (T : Top P w K mg base) : Fn P w K mg base (CM mg) "_law_row" 3 3 m__law_row := by
  obtain ⟨f, fd, F, bn, gm⟩ := T.f__law_row
  exact fn_mk0 F sc__law_row bn gm (fun cdv A outer s H E hr => b__law_row T (F__law_take T) hr)
noncomputable def m_check_cloth : M := mOf N_check_cloth 1 (d_check_cloth m__fault_of_cloth)
theorem F_check_cloth (T : Top P w K mg base) : Fn P w K mg base (CM mg) "check_cloth" 4 1 m_check_cloth := by
  obtain ⟨f, fd, F, bn, gm⟩ := T.f_check_cloth
  exact fn_mk0 F sc_check_cloth bn gm (fun cdv A outer s H E hr => b_check_cloth T (F__fault_of_cloth T) hr)
noncomputable def m__law_planted : M := mOf N__law_planted 4 (d__law_planted m__law_take m__law_row)
theorem F__law_planted (T : Top P w K mg base) : Fn P w K mg base (CM mg) "_law_planted" 4 4 m__law_planted := by
  obtain ⟨f, fd, F, bn, gm⟩ := T.f__law_planted
  exact fn_mk0 F sc__law_planted bn gm (fun cdv A outer s H E hr => b__law_planted T (F__law_take T) (F__law_row T) hr)
noncomputable def m_floats : M := mOf N_floats 1 (d_floats m_check_cloth m_threads_of m__floats_of)
theorem F_floats (T : Top P w K mg base) : Fn P w K mg base (CM mg) "floats" 5 1 m_floats := by
  obtain ⟨f, fd, F, bn, gm⟩ := T.f_floats
  exact fn_mk0 F sc_floats bn gm (fun cdv A outer s H E hr => b_floats T (F_check_cloth T) (F_threads_of T) (F__floats_of T) hr)
noncomputable def m_face_of : M := mOf N_face_of 1 (d_face_of m_check_cloth)
theorem F_face_of (T : Top P w K mg base) : Fn P w K mg base (CM mg) "face_of" 5 1 m_face_of := by
  obtain ⟨f, fd, F, bn, gm⟩ := T.f_face_of
  exact fn_mk0 F sc_face_of bn gm (fun cdv A outer s H E hr => b_face_of T (F_check_cloth T) hr)
noncomputable def m_interlacings : M := mOf N_interlacings 1 (d_interlacings m_check_cloth m_threads_of m__floats_of)
theorem F_interlacings (T : Top P w K mg base) : Fn P w K mg base (CM mg) "interlacings" 5 1 m_interlacings := by
  obtain ⟨f, fd, F, bn, gm⟩ := T.f_interlacings
  exact fn_mk0 F sc_interlacings bn gm (fun cdv A outer s H E hr => b_interlacings T (F_check_cloth T) (F_threads_of T) (F__floats_of T) hr)
noncomputable def m__law_sized : M := mOf N__law_sized 4 (d__law_sized m__law_take m__law_row m__law_one m__law_planted)
theorem F__law_sized (T : Top P w K mg base) : Fn P w K mg base (CM mg) "_law_sized" 5 4 m__law_sized := by
  obtain ⟨f, fd, F, bn, gm⟩ := T.f__law_sized
  exact fn_mk0 F sc__law_sized bn gm (fun cdv A outer s H E hr => b__law_sized T (F__law_take T) (F__law_row T) (F__law_one T) (F__law_planted T) hr)
noncomputable def m_longest : M := mOf N_longest 1 (d_longest m_floats)
theorem F_longest (T : Top P w K mg base) : Fn P w K mg base (CM mg) "longest" 6 1 m_longest := by
  obtain ⟨f, fd, F, bn, gm⟩ := T.f_longest
  exact fn_mk0 F sc_longest bn gm (fun cdv A outer s H E hr => b_longest T (F_floats T) hr)
noncomputable def m_too_long : M := mOf N_too_long 2 (d_too_long m_check_cloth m_is_number m_floats)
theorem F_too_long (T : Top P w K mg base) : Fn P w K mg base (CM mg) "too_long" 6 2 m_too_long := by
  obtain ⟨f, fd, F, bn, gm⟩ := T.f_too_long
  exact fn_mk0 F sc_too_long bn gm (fun cdv A outer s H E hr => b_too_long T (F_check_cloth T) (F_is_number T) (F_floats T) hr)
noncomputable def m__law_cloth : M := mOf N__law_cloth 3 (d__law_cloth m__law_sized m__law_take)
theorem F__law_cloth (T : Top P w K mg base) : Fn P w K mg base (CM mg) "_law_cloth" 6 3 m__law_cloth := by
  obtain ⟨f, fd, F, bn, gm⟩ := T.f__law_cloth
  exact fn_mk0 F sc__law_cloth bn gm (fun cdv A outer s H E hr => b__law_cloth T (F__law_sized T) (F__law_take T) hr)
noncomputable def m__law_told : M := mOf N__law_told 2 (d__law_told m_too_long)
theorem F__law_told (T : Top P w K mg base) : Fn P w K mg base (CM mg) "_law_told" 7 2 m__law_told := by
  obtain ⟨f, fd, F, bn, gm⟩ := T.f__law_told
  exact fn_mk0 F sc__law_told bn gm (fun cdv A outer s H E hr => b__law_told T (F_too_long T) hr)
noncomputable def m_law : M := mOf N_law 1 (d_law m__law_draws m__law_cloth m__law_take m__law_floats m_floats m_longest m__law_longest m__law_one m__law_told m_face_of m_interlacings m__law_line)
theorem law_g (P : Program) (w : World) (K : PySem.W.Frag) (mg : Str → Option Value) (base : Heap) (f : Addr) (fd : FuncData) (T : Top P w K mg base) (F : Fun K "law" "law" s_law f fd) : FnG P w K mg base 8 f fd ["script"] (spM K (CM mg) 1 m_law) :=
  fng_mk0 F sc_law (fun cdv A outer s H E hr => b_law T (F__law_draws T) (F__law_cloth T) (F__law_take T) (F__law_floats T) (F_floats T) (F_longest T) (F__law_longest T) (F__law_one T) (F__law_told T) (F_face_of T) (F_interlacings T) (F__law_line T) hr)
end
end Lk36

set_option Elab.async false
set_option linter.all false
set_option maxRecDepth 100000
set_option maxHeartbeats 8000000
set_option autoImplicit false
namespace Lk36
open PySem PySem.Spec PyProof.Rows L2 Sh
abbrev si_ClothError : Stmt := clsDef 2 0 PySem.Challenge.pw_hangstogether_k36_whole_floats.main.body
theorem sci_ClothError : FnScope ["self", "reason"] ["self", "reason"] (defScope si_ClothError) := ⟨rfl, rfl, rfl, by decide +kernel, rfl, by decide +kernel, by decide +kernel⟩
abbrev si_ArgumentError : Stmt := clsDef 3 0 PySem.Challenge.pw_hangstogether_k36_whole_floats.main.body
theorem sci_ArgumentError : FnScope ["self", "reason"] ["self", "reason"] (defScope si_ArgumentError) := ⟨rfl, rfl, rfl, by decide +kernel, rfl, by decide +kernel, by decide +kernel⟩
theorem top_mk {P : Program} {w : World} {K : PySem.W.Frag} {mg : Str → Option Value} {h : Heap} (X : K.In h) (G : h.Ns mainGlobals mg)
    {tk_MAX_ENDS : Tok}
    {tk_MAX_PICKS : Tok}
    {f0 : Addr} {od0 an0 : Option Addr} {sl0 : Array (Option Value)} {oc0 kV0 dc0 pm0 cd0 ct0 : Value}
    {f1 : Addr} {od1 an1 : Option Addr} {sl1 : Array (Option Value)} {oc1 kV1 dc1 pm1 cd1 ct1 : Value}
    {f2 : Addr} {od2 an2 : Option Addr} {sl2 : Array (Option Value)} {oc2 kV2 dc2 pm2 cd2 ct2 : Value}
    {f3 : Addr} {od3 an3 : Option Addr} {sl3 : Array (Option Value)} {oc3 kV3 dc3 pm3 cd3 ct3 : Value}
    {f4 : Addr} {od4 an4 : Option Addr} {sl4 : Array (Option Value)} {oc4 kV4 dc4 pm4 cd4 ct4 : Value}
    {f5 : Addr} {od5 an5 : Option Addr} {sl5 : Array (Option Value)} {oc5 kV5 dc5 pm5 cd5 ct5 : Value}
    {f6 : Addr} {od6 an6 : Option Addr} {sl6 : Array (Option Value)} {oc6 kV6 dc6 pm6 cd6 ct6 : Value}
    {f7 : Addr} {od7 an7 : Option Addr} {sl7 : Array (Option Value)} {oc7 kV7 dc7 pm7 cd7 ct7 : Value}
    {f8 : Addr} {od8 an8 : Option Addr} {sl8 : Array (Option Value)} {oc8 kV8 dc8 pm8 cd8 ct8 : Value}
    {f9 : Addr} {od9 an9 : Option Addr} {sl9 : Array (Option Value)} {oc9 kV9 dc9 pm9 cd9 ct9 : Value}
    {f10 : Addr} {od10 an10 : Option Addr} {sl10 : Array (Option Value)} {oc10 kV10 dc10 pm10 cd10 ct10 : Value}
    {f11 : Addr} {od11 an11 : Option Addr} {sl11 : Array (Option Value)} {oc11 kV11 dc11 pm11 cd11 ct11 : Value}
    {f12 : Addr} {od12 an12 : Option Addr} {sl12 : Array (Option Value)} {oc12 kV12 dc12 pm12 cd12 ct12 : Value}
    {f13 : Addr} {od13 an13 : Option Addr} {sl13 : Array (Option Value)} {oc13 kV13 dc13 pm13 cd13 ct13 : Value}
    {f14 : Addr} {od14 an14 : Option Addr} {sl14 : Array (Option Value)} {oc14 kV14 dc14 pm14 cd14 ct14 : Value}
    {f15 : Addr} {od15 an15 : Option Addr} {sl15 : Array (Option Value)} {oc15 kV15 dc15 pm15 cd15 ct15 : Value}
    {f16 : Addr} {od16 an16 : Option Addr} {sl16 : Array (Option Value)} {oc16 kV16 dc16 pm16 cd16 ct16 : Value}
    {f17 : Addr} {od17 an17 : Option Addr} {sl17 : Array (Option Value)} {oc17 kV17 dc17 pm17 cd17 ct17 : Value}
    {f18 : Addr} {od18 an18 : Option Addr} {sl18 : Array (Option Value)} {oc18 kV18 dc18 pm18 cd18 ct18 : Value}
    {f19 : Addr} {od19 an19 : Option Addr} {sl19 : Array (Option Value)} {oc19 kV19 dc19 pm19 cd19 ct19 : Value}
    {f20 : Addr} {od20 an20 : Option Addr} {sl20 : Array (Option Value)} {oc20 kV20 dc20 pm20 cd20 ct20 : Value}
    {f21 : Addr} {od21 an21 : Option Addr} {sl21 : Array (Option Value)} {oc21 kV21 dc21 pm21 cd21 ct21 : Value}
    {f22 : Addr} {od22 an22 : Option Addr} {sl22 : Array (Option Value)} {oc22 kV22 dc22 pm22 cd22 ct22 : Value}
    {f23 : Addr} {od23 an23 : Option Addr} {sl23 : Array (Option Value)} {oc23 kV23 dc23 pm23 cd23 ct23 : Value}
    {f24 : Addr} {od24 an24 : Option Addr} {sl24 : Array (Option Value)} {oc24 kV24 dc24 pm24 cd24 ct24 : Value}
    {f25 : Addr} {od25 an25 : Option Addr} {sl25 : Array (Option Value)} {oc25 kV25 dc25 pm25 cd25 ct25 : Value}
    {A_ClothError I_ClothError N_ClothError : Addr} {nm_ClothError q_ClothError : Str} {bs_ClothError bm_ClothError sub_ClothError : List Value} {sn_ClothError : List Str} {ab_ClothError : Bool} {col_ClothError : Option Bool} {dd_ClothError : Option Addr} {m0_ClothError m1_ClothError m2_ClothError m3_ClothError m5_ClothError : Option Value} {od_ClothError an_ClothError : Option Addr} {sl_ClothError : Array (Option Value)} {oc_ClothError kV_ClothError dc_ClothError pm_ClothError cd_ClothError ct_ClothError : Value}
    {A_ArgumentError I_ArgumentError N_ArgumentError : Addr} {nm_ArgumentError q_ArgumentError : Str} {bs_ArgumentError bm_ArgumentError sub_ArgumentError : List Value} {sn_ArgumentError : List Str} {ab_ArgumentError : Bool} {col_ArgumentError : Option Bool} {dd_ArgumentError : Option Addr} {m0_ArgumentError m1_ArgumentError m2_ArgumentError m3_ArgumentError m5_ArgumentError : Option Value} {od_ArgumentError an_ArgumentError : Option Addr} {sl_ArgumentError : Array (Option Value)} {oc_ArgumentError kV_ArgumentError dc_ArgumentError pm_ArgumentError cd_ArgumentError ct_ArgumentError : Value}
    (c_MAX_ENDS : PySem.W.nsIn K mainGlobals "MAX_ENDS" = some (some (.int 24 tk_MAX_ENDS)))
    (c_MAX_PICKS : PySem.W.nsIn K mainGlobals "MAX_PICKS" = some (some (.int 24 tk_MAX_PICKS)))
    (z_abs : PySem.W.nsIn K mainGlobals "abs" = some none)
    (z_all : PySem.W.nsIn K mainGlobals "all" = some none)
    (z_int : PySem.W.nsIn K mainGlobals "int" = some none)
    (z_isinstance : PySem.W.nsIn K mainGlobals "isinstance" = some none)
    (z_len : PySem.W.nsIn K mainGlobals "len" = some none)
    (z_list : PySem.W.nsIn K mainGlobals "list" = some none)
    (z_max : PySem.W.nsIn K mainGlobals "max" = some none)
    (z_range : PySem.W.nsIn K mainGlobals "range" = some none)
    (z_repr : PySem.W.nsIn K mainGlobals "repr" = some none)
    (z_sum : PySem.W.nsIn K mainGlobals "sum" = some none)
    (z_tuple : PySem.W.nsIn K mainGlobals "tuple" = some none)
    (z_type : PySem.W.nsIn K mainGlobals "type" = some none)
    (z_zip : PySem.W.nsIn K mainGlobals "zip" = some none)
    (a0 : PySem.W.nsIn K mainGlobals "is_integer" = some (some (.ref f0)))
    (l0 : K.lookup f0 = some ⟨oc0, od0, .func (PySem.W.fnOf "is_integer" "is_integer" (defArgs s_is_integer) (defBody s_is_integer) (defScope s_is_integer) .none kV0 dc0 pm0 an0 cd0 ct0), sl0⟩)
    (co0 : PySem.W.codeIn K cd0 "is_integer" = true)
    (ke0 : PySem.W.keepIn K (.ref f0) = true)
    (a1 : PySem.W.nsIn K mainGlobals "is_number" = some (some (.ref f1)))
    (l1 : K.lookup f1 = some ⟨oc1, od1, .func (PySem.W.fnOf "is_number" "is_number" (defArgs s_is_number) (defBody s_is_number) (defScope s_is_number) .none kV1 dc1 pm1 an1 cd1 ct1), sl1⟩)
    (co1 : PySem.W.codeIn K cd1 "is_number" = true)
    (ke1 : PySem.W.keepIn K (.ref f1) = true)
    (a2 : PySem.W.nsIn K mainGlobals "check_cloth" = some (some (.ref f2)))
    (l2 : K.lookup f2 = some ⟨oc2, od2, .func (PySem.W.fnOf "check_cloth" "check_cloth" (defArgs s_check_cloth) (defBody s_check_cloth) (defScope s_check_cloth) .none kV2 dc2 pm2 an2 cd2 ct2), sl2⟩)
    (co2 : PySem.W.codeIn K cd2 "check_cloth" = true)
    (ke2 : PySem.W.keepIn K (.ref f2) = true)
    (a3 : PySem.W.nsIn K mainGlobals "_fault_of_cloth" = some (some (.ref f3)))
    (l3 : K.lookup f3 = some ⟨oc3, od3, .func (PySem.W.fnOf "_fault_of_cloth" "_fault_of_cloth" (defArgs s__fault_of_cloth) (defBody s__fault_of_cloth) (defScope s__fault_of_cloth) .none kV3 dc3 pm3 an3 cd3 ct3), sl3⟩)
    (co3 : PySem.W.codeIn K cd3 "_fault_of_cloth" = true)
    (ke3 : PySem.W.keepIn K (.ref f3) = true)
    (a4 : PySem.W.nsIn K mainGlobals "threads_of" = some (some (.ref f4)))
    (l4 : K.lookup f4 = some ⟨oc4, od4, .func (PySem.W.fnOf "threads_of" "threads_of" (defArgs s_threads_of) (defBody s_threads_of) (defScope s_threads_of) .none kV4 dc4 pm4 an4 cd4 ct4), sl4⟩)
    (co4 : PySem.W.codeIn K cd4 "threads_of" = true)
    (ke4 : PySem.W.keepIn K (.ref f4) = true)
    (a5 : PySem.W.nsIn K mainGlobals "floats" = some (some (.ref f5)))
    (l5 : K.lookup f5 = some ⟨oc5, od5, .func (PySem.W.fnOf "floats" "floats" (defArgs s_floats) (defBody s_floats) (defScope s_floats) .none kV5 dc5 pm5 an5 cd5 ct5), sl5⟩)
    (co5 : PySem.W.codeIn K cd5 "floats" = true)
    (ke5 : PySem.W.keepIn K (.ref f5) = true)
    (a6 : PySem.W.nsIn K mainGlobals "_sides_of" = some (some (.ref f6)))
    (l6 : K.lookup f6 = some ⟨oc6, od6, .func (PySem.W.fnOf "_sides_of" "_sides_of" (defArgs s__sides_of) (defBody s__sides_of) (defScope s__sides_of) .none kV6 dc6 pm6 an6 cd6 ct6), sl6⟩)
    (co6 : PySem.W.codeIn K cd6 "_sides_of" = true)
    (ke6 : PySem.W.keepIn K (.ref f6) = true)
    (a7 : PySem.W.nsIn K mainGlobals "_floats_of" = some (some (.ref f7)))
    (l7 : K.lookup f7 = some ⟨oc7, od7, .func (PySem.W.fnOf "_floats_of" "_floats_of" (defArgs s__floats_of) (defBody s__floats_of) (defScope s__floats_of) .none kV7 dc7 pm7 an7 cd7 ct7), sl7⟩)
    (co7 : PySem.W.codeIn K cd7 "_floats_of" = true)
    (ke7 : PySem.W.keepIn K (.ref f7) = true)
    (a8 : PySem.W.nsIn K mainGlobals "_name_of" = some (some (.ref f8)))
    (l8 : K.lookup f8 = some ⟨oc8, od8, .func (PySem.W.fnOf "_name_of" "_name_of" (defArgs s__name_of) (defBody s__name_of) (defScope s__name_of) .none kV8 dc8 pm8 an8 cd8 ct8), sl8⟩)
    (co8 : PySem.W.codeIn K cd8 "_name_of" = true)
    (ke8 : PySem.W.keepIn K (.ref f8) = true)
    (a9 : PySem.W.nsIn K mainGlobals "longest" = some (some (.ref f9)))
    (l9 : K.lookup f9 = some ⟨oc9, od9, .func (PySem.W.fnOf "longest" "longest" (defArgs s_longest) (defBody s_longest) (defScope s_longest) .none kV9 dc9 pm9 an9 cd9 ct9), sl9⟩)
    (co9 : PySem.W.codeIn K cd9 "longest" = true)
    (ke9 : PySem.W.keepIn K (.ref f9) = true)
    (a10 : PySem.W.nsIn K mainGlobals "too_long" = some (some (.ref f10)))
    (l10 : K.lookup f10 = some ⟨oc10, od10, .func (PySem.W.fnOf "too_long" "too_long" (defArgs s_too_long) (defBody s_too_long) (defScope s_too_long) .none kV10 dc10 pm10 an10 cd10 ct10), sl10⟩)
    (co10 : PySem.W.codeIn K cd10 "too_long" = true)
    (ke10 : PySem.W.keepIn K (.ref f10) = true)
    (a11 : PySem.W.nsIn K mainGlobals "face_of" = some (some (.ref f11)))
    (l11 : K.lookup f11 = some ⟨oc11, od11, .func (PySem.W.fnOf "face_of" "face_of" (defArgs s_face_of) (defBody s_face_of) (defScope s_face_of) .none kV11 dc11 pm11 an11 cd11 ct11), sl11⟩)
    (co11 : PySem.W.codeIn K cd11 "face_of" = true)
    (ke11 : PySem.W.keepIn K (.ref f11) = true)
    (a12 : PySem.W.nsIn K mainGlobals "interlacings" = some (some (.ref f12)))
    (l12 : K.lookup f12 = some ⟨oc12, od12, .func (PySem.W.fnOf "interlacings" "interlacings" (defArgs s_interlacings) (defBody s_interlacings) (defScope s_interlacings) .none kV12 dc12 pm12 an12 cd12 ct12), sl12⟩)
    (co12 : PySem.W.codeIn K cd12 "interlacings" = true)
    (ke12 : PySem.W.keepIn K (.ref f12) = true)
    (a13 : PySem.W.nsIn K mainGlobals "_law_draws" = some (some (.ref f13)))
    (l13 : K.lookup f13 = some ⟨oc13, od13, .func (PySem.W.fnOf "_law_draws" "_law_draws" (defArgs s__law_draws) (defBody s__law_draws) (defScope s__law_draws) .none kV13 dc13 pm13 an13 cd13 ct13), sl13⟩)
    (co13 : PySem.W.codeIn K cd13 "_law_draws" = true)
    (ke13 : PySem.W.keepIn K (.ref f13) = true)
    (a14 : PySem.W.nsIn K mainGlobals "_law_more" = some (some (.ref f14)))
    (l14 : K.lookup f14 = some ⟨oc14, od14, .func (PySem.W.fnOf "_law_more" "_law_more" (defArgs s__law_more) (defBody s__law_more) (defScope s__law_more) .none kV14 dc14 pm14 an14 cd14 ct14), sl14⟩)
    (co14 : PySem.W.codeIn K cd14 "_law_more" = true)
    (ke14 : PySem.W.keepIn K (.ref f14) = true)
    (a15 : PySem.W.nsIn K mainGlobals "_law_take" = some (some (.ref f15)))
    (l15 : K.lookup f15 = some ⟨oc15, od15, .func (PySem.W.fnOf "_law_take" "_law_take" (defArgs s__law_take) (defBody s__law_take) (defScope s__law_take) .none kV15 dc15 pm15 an15 cd15 ct15), sl15⟩)
    (co15 : PySem.W.codeIn K cd15 "_law_take" = true)
    (ke15 : PySem.W.keepIn K (.ref f15) = true)
    (a16 : PySem.W.nsIn K mainGlobals "_law_one" = some (some (.ref f16)))
    (l16 : K.lookup f16 = some ⟨oc16, od16, .func (PySem.W.fnOf "_law_one" "_law_one" (defArgs s__law_one) (defBody s__law_one) (defScope s__law_one) .none kV16 dc16 pm16 an16 cd16 ct16), sl16⟩)
    (co16 : PySem.W.codeIn K cd16 "_law_one" = true)
    (ke16 : PySem.W.keepIn K (.ref f16) = true)
    (a17 : PySem.W.nsIn K mainGlobals "_law_row" = some (some (.ref f17)))
    (l17 : K.lookup f17 = some ⟨oc17, od17, .func (PySem.W.fnOf "_law_row" "_law_row" (defArgs s__law_row) (defBody s__law_row) (defScope s__law_row) .none kV17 dc17 pm17 an17 cd17 ct17), sl17⟩)
    (co17 : PySem.W.codeIn K cd17 "_law_row" = true)
    (ke17 : PySem.W.keepIn K (.ref f17) = true)
    (a18 : PySem.W.nsIn K mainGlobals "_law_planted" = some (some (.ref f18)))
    (l18 : K.lookup f18 = some ⟨oc18, od18, .func (PySem.W.fnOf "_law_planted" "_law_planted" (defArgs s__law_planted) (defBody s__law_planted) (defScope s__law_planted) .none kV18 dc18 pm18 an18 cd18 ct18), sl18⟩)
    (co18 : PySem.W.codeIn K cd18 "_law_planted" = true)
    (ke18 : PySem.W.keepIn K (.ref f18) = true)
    (a19 : PySem.W.nsIn K mainGlobals "_law_sized" = some (some (.ref f19)))
    (l19 : K.lookup f19 = some ⟨oc19, od19, .func (PySem.W.fnOf "_law_sized" "_law_sized" (defArgs s__law_sized) (defBody s__law_sized) (defScope s__law_sized) .none kV19 dc19 pm19 an19 cd19 ct19), sl19⟩)
    (co19 : PySem.W.codeIn K cd19 "_law_sized" = true)
    (ke19 : PySem.W.keepIn K (.ref f19) = true)
    (a20 : PySem.W.nsIn K mainGlobals "_law_cloth" = some (some (.ref f20)))
    (l20 : K.lookup f20 = some ⟨oc20, od20, .func (PySem.W.fnOf "_law_cloth" "_law_cloth" (defArgs s__law_cloth) (defBody s__law_cloth) (defScope s__law_cloth) .none kV20 dc20 pm20 an20 cd20 ct20), sl20⟩)
    (co20 : PySem.W.codeIn K cd20 "_law_cloth" = true)
    (ke20 : PySem.W.keepIn K (.ref f20) = true)
    (a21 : PySem.W.nsIn K mainGlobals "_law_line" = some (some (.ref f21)))
    (l21 : K.lookup f21 = some ⟨oc21, od21, .func (PySem.W.fnOf "_law_line" "_law_line" (defArgs s__law_line) (defBody s__law_line) (defScope s__law_line) .none kV21 dc21 pm21 an21 cd21 ct21), sl21⟩)
    (co21 : PySem.W.codeIn K cd21 "_law_line" = true)
    (ke21 : PySem.W.keepIn K (.ref f21) = true)
    (a22 : PySem.W.nsIn K mainGlobals "_law_floats" = some (some (.ref f22)))
    (l22 : K.lookup f22 = some ⟨oc22, od22, .func (PySem.W.fnOf "_law_floats" "_law_floats" (defArgs s__law_floats) (defBody s__law_floats) (defScope s__law_floats) .none kV22 dc22 pm22 an22 cd22 ct22), sl22⟩)
    (co22 : PySem.W.codeIn K cd22 "_law_floats" = true)
    (ke22 : PySem.W.keepIn K (.ref f22) = true)
    (a23 : PySem.W.nsIn K mainGlobals "_law_longest" = some (some (.ref f23)))
    (l23 : K.lookup f23 = some ⟨oc23, od23, .func (PySem.W.fnOf "_law_longest" "_law_longest" (defArgs s__law_longest) (defBody s__law_longest) (defScope s__law_longest) .none kV23 dc23 pm23 an23 cd23 ct23), sl23⟩)
    (co23 : PySem.W.codeIn K cd23 "_law_longest" = true)
    (ke23 : PySem.W.keepIn K (.ref f23) = true)
    (a24 : PySem.W.nsIn K mainGlobals "_law_told" = some (some (.ref f24)))
    (l24 : K.lookup f24 = some ⟨oc24, od24, .func (PySem.W.fnOf "_law_told" "_law_told" (defArgs s__law_told) (defBody s__law_told) (defScope s__law_told) .none kV24 dc24 pm24 an24 cd24 ct24), sl24⟩)
    (co24 : PySem.W.codeIn K cd24 "_law_told" = true)
    (ke24 : PySem.W.keepIn K (.ref f24) = true)
    (a25 : PySem.W.nsIn K mainGlobals "law" = some (some (.ref f25)))
    (l25 : K.lookup f25 = some ⟨oc25, od25, .func (PySem.W.fnOf "law" "law" (defArgs s_law) (defBody s_law) (defScope s_law) .none kV25 dc25 pm25 an25 cd25 ct25), sl25⟩)
    (co25 : PySem.W.codeIn K cd25 "law" = true)
    (ke25 : PySem.W.keepIn K (.ref f25) = true)
    (xa_ClothError : PySem.W.nsIn K mainGlobals "ClothError" = some (some (.ref A_ClothError)))
    (xl_ClothError : K.lookup A_ClothError = some (excClassObj nm_ClothError q_ClothError A_ClothError N_ClothError bs_ClothError bm_ClothError true sn_ClothError sub_ClothError ab_ClothError col_ClothError dd_ClothError m0_ClothError m1_ClothError m2_ClothError m3_ClothError m5_ClothError "ValueError.__new__"))
    (xr_ClothError : PySem.HandSPX.refsVE bm_ClothError = true)
    (xs_ClothError : PySem.W.findIn K (.ref A_ClothError) "__setattr__" = some (some (.builtin "object.__setattr__")))
    (xg_ClothError : PySem.W.findIn K (.ref A_ClothError) "__getattribute__" = some (some (.builtin "BaseException.__getattribute__")))
    (xh_ClothError : PySem.W.findIn K (.ref A_ClothError) "__getattr__" = some none)
    (xn_ClothError : PySem.W.findIn K (.ref A_ClothError) "reason" = some none)
    (xi_ClothError : PySem.W.findIn K (.ref A_ClothError) "__init__" = some (some (.ref I_ClothError)))
    (xt_ClothError : PySem.W.typeIn K (.ref I_ClothError) = some (.type "function"))
    (yl_ClothError : K.lookup I_ClothError = some ⟨oc_ClothError, od_ClothError, .func (PySem.W.fnOf "__init__" "ClothError.__init__" (defArgs si_ClothError) (defBody si_ClothError) (defScope si_ClothError) .none kV_ClothError dc_ClothError pm_ClothError an_ClothError cd_ClothError ct_ClothError), sl_ClothError⟩)
    (yc_ClothError : PySem.W.codeIn K cd_ClothError "ClothError.__init__" = true)
    (yk_ClothError : PySem.W.keepIn K (.ref I_ClothError) = true)
    (xk_ClothError : PySem.W.keepIn K (.ref A_ClothError) = true)
    (xe_ClothError : PySem.W.subIn K (.ref A_ClothError) (.type "BaseException") = some true)
    (xy_ClothError : PySem.W.typeIn K (.ref A_ClothError) = some (.type "type"))
    (xd_ClothError : PySem.W.hasDictIn K A_ClothError = true)
    (xa_ArgumentError : PySem.W.nsIn K mainGlobals "ArgumentError" = some (some (.ref A_ArgumentError)))
    (xl_ArgumentError : K.lookup A_ArgumentError = some (excClassObj nm_ArgumentError q_ArgumentError A_ArgumentError N_ArgumentError bs_ArgumentError bm_ArgumentError true sn_ArgumentError sub_ArgumentError ab_ArgumentError col_ArgumentError dd_ArgumentError m0_ArgumentError m1_ArgumentError m2_ArgumentError m3_ArgumentError m5_ArgumentError "ValueError.__new__"))
    (xr_ArgumentError : PySem.HandSPX.refsVE bm_ArgumentError = true)
    (xs_ArgumentError : PySem.W.findIn K (.ref A_ArgumentError) "__setattr__" = some (some (.builtin "object.__setattr__")))
    (xg_ArgumentError : PySem.W.findIn K (.ref A_ArgumentError) "__getattribute__" = some (some (.builtin "BaseException.__getattribute__")))
    (xh_ArgumentError : PySem.W.findIn K (.ref A_ArgumentError) "__getattr__" = some none)
    (xn_ArgumentError : PySem.W.findIn K (.ref A_ArgumentError) "reason" = some none)
    (xi_ArgumentError : PySem.W.findIn K (.ref A_ArgumentError) "__init__" = some (some (.ref I_ArgumentError)))
    (xt_ArgumentError : PySem.W.typeIn K (.ref I_ArgumentError) = some (.type "function"))
    (yl_ArgumentError : K.lookup I_ArgumentError = some ⟨oc_ArgumentError, od_ArgumentError, .func (PySem.W.fnOf "__init__" "ArgumentError.__init__" (defArgs si_ArgumentError) (defBody si_ArgumentError) (defScope si_ArgumentError) .none kV_ArgumentError dc_ArgumentError pm_ArgumentError an_ArgumentError cd_ArgumentError ct_ArgumentError), sl_ArgumentError⟩)
    (yc_ArgumentError : PySem.W.codeIn K cd_ArgumentError "ArgumentError.__init__" = true)
    (yk_ArgumentError : PySem.W.keepIn K (.ref I_ArgumentError) = true)
    (xk_ArgumentError : PySem.W.keepIn K (.ref A_ArgumentError) = true)
    (xe_ArgumentError : PySem.W.subIn K (.ref A_ArgumentError) (.type "BaseException") = some true)
    (xy_ArgumentError : PySem.W.typeIn K (.ref A_ArgumentError) = some (.type "type"))
    (xd_ArgumentError : PySem.W.hasDictIn K A_ArgumentError = true)
    (xc_ArgumentError : PySem.W.isClsIn K A_ArgumentError = true)
    (xq_ClothError_ArgumentError : PySem.W.subIn K (.ref A_ClothError) (.ref A_ArgumentError) = some false)
    (xq_ArgumentError_ArgumentError : PySem.W.subIn K (.ref A_ArgumentError) (.ref A_ArgumentError) = some true) : ∀ base : Heap, Top P w K mg base := fun base => {
  c_MAX_ENDS := ⟨_, PySem.W.mg_of X G c_MAX_ENDS⟩
  c_MAX_PICKS := ⟨_, PySem.W.mg_of X G c_MAX_PICKS⟩
  z_abs := PySem.W.mg_none_of X G z_abs
  z_all := PySem.W.mg_none_of X G z_all
  z_int := PySem.W.mg_none_of X G z_int
  z_isinstance := PySem.W.mg_none_of X G z_isinstance
  z_len := PySem.W.mg_none_of X G z_len
  z_list := PySem.W.mg_none_of X G z_list
  z_max := PySem.W.mg_none_of X G z_max
  z_range := PySem.W.mg_none_of X G z_range
  z_repr := PySem.W.mg_none_of X G z_repr
  z_sum := PySem.W.mg_none_of X G z_sum
  z_tuple := PySem.W.mg_none_of X G z_tuple
  z_type := PySem.W.mg_none_of X G z_type
  z_zip := PySem.W.mg_none_of X G z_zip
  f_is_integer := ⟨f0, _, fun_mk (st := s_is_integer) l0 co0 ke0, (fun_mk (st := s_is_integer) l0 co0 ke0).binds (ps := ["value"]) (fun _ _ _ _ _ _ us hl => match us, hl with | [_], _ => rfl), PySem.W.mg_of X G a0⟩
  f_is_number := ⟨f1, _, fun_mk (st := s_is_number) l1 co1 ke1, (fun_mk (st := s_is_number) l1 co1 ke1).binds (ps := ["value", "least", "most"]) (fun _ _ _ _ _ _ us hl => match us, hl with | [_, _, _], _ => rfl), PySem.W.mg_of X G a1⟩
  f_check_cloth := ⟨f2, _, fun_mk (st := s_check_cloth) l2 co2 ke2, (fun_mk (st := s_check_cloth) l2 co2 ke2).binds (ps := ["cloth"]) (fun _ _ _ _ _ _ us hl => match us, hl with | [_], _ => rfl), PySem.W.mg_of X G a2⟩
  f__fault_of_cloth := ⟨f3, _, fun_mk (st := s__fault_of_cloth) l3 co3 ke3, (fun_mk (st := s__fault_of_cloth) l3 co3 ke3).binds (ps := ["cloth"]) (fun _ _ _ _ _ _ us hl => match us, hl with | [_], _ => rfl), PySem.W.mg_of X G a3⟩
  f_threads_of := ⟨f4, _, fun_mk (st := s_threads_of) l4 co4 ke4, (fun_mk (st := s_threads_of) l4 co4 ke4).binds (ps := ["cloth"]) (fun _ _ _ _ _ _ us hl => match us, hl with | [_], _ => rfl), PySem.W.mg_of X G a4⟩
  f_floats := ⟨f5, _, fun_mk (st := s_floats) l5 co5 ke5, (fun_mk (st := s_floats) l5 co5 ke5).binds (ps := ["cloth"]) (fun _ _ _ _ _ _ us hl => match us, hl with | [_], _ => rfl), PySem.W.mg_of X G a5⟩
  f__sides_of := ⟨f6, _, fun_mk (st := s__sides_of) l6 co6 ke6, (fun_mk (st := s__sides_of) l6 co6 ke6).binds (ps := ["cloth", "thread"]) (fun _ _ _ _ _ _ us hl => match us, hl with | [_, _], _ => rfl), PySem.W.mg_of X G a6⟩
  f__floats_of := ⟨f7, _, fun_mk (st := s__floats_of) l7 co7 ke7, (fun_mk (st := s__floats_of) l7 co7 ke7).binds (ps := ["cloth", "thread"]) (fun _ _ _ _ _ _ us hl => match us, hl with | [_, _], _ => rfl), PySem.W.mg_of X G a7⟩
  f__name_of := ⟨f8, _, fun_mk (st := s__name_of) l8 co8 ke8, (fun_mk (st := s__name_of) l8 co8 ke8).binds (ps := ["above"]) (fun _ _ _ _ _ _ us hl => match us, hl with | [_], _ => rfl), PySem.W.mg_of X G a8⟩
  f_longest := ⟨f9, _, fun_mk (st := s_longest) l9 co9 ke9, (fun_mk (st := s_longest) l9 co9 ke9).binds (ps := ["cloth"]) (fun _ _ _ _ _ _ us hl => match us, hl with | [_], _ => rfl), PySem.W.mg_of X G a9⟩
  f_too_long := ⟨f10, _, fun_mk (st := s_too_long) l10 co10 ke10, (fun_mk (st := s_too_long) l10 co10 ke10).binds (ps := ["cloth", "most"]) (fun _ _ _ _ _ _ us hl => match us, hl with | [_, _], _ => rfl), PySem.W.mg_of X G a10⟩
  f_face_of := ⟨f11, _, fun_mk (st := s_face_of) l11 co11 ke11, (fun_mk (st := s_face_of) l11 co11 ke11).binds (ps := ["cloth"]) (fun _ _ _ _ _ _ us hl => match us, hl with | [_], _ => rfl), PySem.W.mg_of X G a11⟩
  f_interlacings := ⟨f12, _, fun_mk (st := s_interlacings) l12 co12 ke12, (fun_mk (st := s_interlacings) l12 co12 ke12).binds (ps := ["cloth"]) (fun _ _ _ _ _ _ us hl => match us, hl with | [_], _ => rfl), PySem.W.mg_of X G a12⟩
  f__law_draws := ⟨f13, _, fun_mk (st := s__law_draws) l13 co13 ke13, (fun_mk (st := s__law_draws) l13 co13 ke13).binds (ps := ["script"]) (fun _ _ _ _ _ _ us hl => match us, hl with | [_], _ => rfl), PySem.W.mg_of X G a13⟩
  f__law_more := ⟨f14, _, fun_mk (st := s__law_more) l14 co14 ke14, (fun_mk (st := s__law_more) l14 co14 ke14).binds (ps := ["draws", "place"]) (fun _ _ _ _ _ _ us hl => match us, hl with | [_, _], _ => rfl), PySem.W.mg_of X G a14⟩
  f__law_take := ⟨f15, _, fun_mk (st := s__law_take) l15 co15 ke15, (fun_mk (st := s__law_take) l15 co15 ke15).binds (ps := ["draws", "at", "many"]) (fun _ _ _ _ _ _ us hl => match us, hl with | [_, _, _], _ => rfl), PySem.W.mg_of X G a15⟩
  f__law_one := ⟨f16, _, fun_mk (st := s__law_one) l16 co16 ke16, (fun_mk (st := s__law_one) l16 co16 ke16).binds (ps := ["rows", "draws", "at"]) (fun _ _ _ _ _ _ us hl => match us, hl with | [_, _, _], _ => rfl), PySem.W.mg_of X G a16⟩
  f__law_row := ⟨f17, _, fun_mk (st := s__law_row) l17 co17 ke17, (fun_mk (st := s__law_row) l17 co17 ke17).binds (ps := ["many", "draws", "at"]) (fun _ _ _ _ _ _ us hl => match us, hl with | [_, _, _], _ => rfl), PySem.W.mg_of X G a17⟩
  f__law_planted := ⟨f18, _, fun_mk (st := s__law_planted) l18 co18 ke18, (fun_mk (st := s__law_planted) l18 co18 ke18).binds (ps := ["picks", "ends", "draws", "at"]) (fun _ _ _ _ _ _ us hl => match us, hl with | [_, _, _, _], _ => rfl), PySem.W.mg_of X G a18⟩
  f__law_sized := ⟨f19, _, fun_mk (st := s__law_sized) l19 co19 ke19, (fun_mk (st := s__law_sized) l19 co19 ke19).binds (ps := ["picks", "ends", "draws", "at"]) (fun _ _ _ _ _ _ us hl => match us, hl with | [_, _, _, _], _ => rfl), PySem.W.mg_of X G a19⟩
  f__law_cloth := ⟨f20, _, fun_mk (st := s__law_cloth) l20 co20 ke20, (fun_mk (st := s__law_cloth) l20 co20 ke20).binds (ps := ["most", "draws", "at"]) (fun _ _ _ _ _ _ us hl => match us, hl with | [_, _, _], _ => rfl), PySem.W.mg_of X G a20⟩
  f__law_line := ⟨f21, _, fun_mk (st := s__law_line) l21 co21 ke21, (fun_mk (st := s__law_line) l21 co21 ke21).binds (ps := ["cloth", "thread"]) (fun _ _ _ _ _ _ us hl => match us, hl with | [_, _], _ => rfl), PySem.W.mg_of X G a21⟩
  f__law_floats := ⟨f22, _, fun_mk (st := s__law_floats) l22 co22 ke22, (fun_mk (st := s__law_floats) l22 co22 ke22).binds (ps := ["cloth"]) (fun _ _ _ _ _ _ us hl => match us, hl with | [_], _ => rfl), PySem.W.mg_of X G a22⟩
  f__law_longest := ⟨f23, _, fun_mk (st := s__law_longest) l23 co23 ke23, (fun_mk (st := s__law_longest) l23 co23 ke23).binds (ps := ["rows"]) (fun _ _ _ _ _ _ us hl => match us, hl with | [_], _ => rfl), PySem.W.mg_of X G a23⟩
  f__law_told := ⟨f24, _, fun_mk (st := s__law_told) l24 co24 ke24, (fun_mk (st := s__law_told) l24 co24 ke24).binds (ps := ["cloth", "most"]) (fun _ _ _ _ _ _ us hl => match us, hl with | [_, _], _ => rfl), PySem.W.mg_of X G a24⟩
  f_law := ⟨f25, _, fun_mk (st := s_law) l25 co25 ke25, (fun_mk (st := s_law) l25 co25 ke25).binds (ps := ["script"]) (fun _ _ _ _ _ _ us hl => match us, hl with | [_], _ => rfl), PySem.W.mg_of X G a25⟩
  x_ClothError := exc1_mk (PySem.W.mg_of X G xa_ClothError) xl_ClothError xr_ClothError xs_ClothError xg_ClothError xh_ClothError xn_ClothError xi_ClothError xt_ClothError (fun_mk (st := si_ClothError) yl_ClothError yc_ClothError yk_ClothError) sci_ClothError rfl ((fun_mk (st := si_ClothError) yl_ClothError yc_ClothError yk_ClothError).binds (fun _ _ _ _ _ _ us hl => match us, hl with | [_, _], _ => rfl)) xk_ClothError xe_ClothError xy_ClothError xd_ClothError
  x_ArgumentError := exc1_mk (PySem.W.mg_of X G xa_ArgumentError) xl_ArgumentError xr_ArgumentError xs_ArgumentError xg_ArgumentError xh_ArgumentError xn_ArgumentError xi_ArgumentError xt_ArgumentError (fun_mk (st := si_ArgumentError) yl_ArgumentError yc_ArgumentError yk_ArgumentError) sci_ArgumentError rfl ((fun_mk (st := si_ArgumentError) yl_ArgumentError yc_ArgumentError yk_ArgumentError).binds (fun _ _ _ _ _ _ us hl => match us, hl with | [_, _], _ => rfl)) xk_ArgumentError xe_ArgumentError xy_ArgumentError xd_ArgumentError
  h_ArgumentError := ⟨_, PySem.W.mg_of X G xa_ArgumentError, fun y v e A hA => by
    have z := PySem.mem_of_lookup e
    simp only [mt_ArgumentError, List.mem_cons, List.not_mem_nil, or_false, Prod.mk.injEq] at z
    rcases z with ⟨rfl, rfl⟩ | ⟨rfl, rfl⟩
    · have e2 := hA.symm.trans (PySem.W.mg_of X G xa_ClothError)
      cases e2
      exact exm_of xe_ArgumentError xc_ArgumentError xy_ArgumentError xq_ClothError_ArgumentError
    · have e2 := hA.symm.trans (PySem.W.mg_of X G xa_ArgumentError)
      cases e2
      exact exm_of xe_ArgumentError xc_ArgumentError xy_ArgumentError xq_ArgumentError_ArgumentError⟩
  fx_reason := fun x hx A hA => by
    simp only [xs_reason, List.mem_cons, List.not_mem_nil, or_false] at hx
    rcases hx with rfl | rfl
    · have e2 := hA.symm.trans (PySem.W.mg_of X G xa_ClothError)
      cases e2
      exact ⟨⟨xg_ClothError, xh_ClothError, xe_ClothError, xd_ClothError⟩, xn_ClothError⟩
    · have e2 := hA.symm.trans (PySem.W.mg_of X G xa_ArgumentError)
      cases e2
      exact ⟨⟨xg_ArgumentError, xh_ArgumentError, xe_ArgumentError, xd_ArgumentError⟩, xn_ArgumentError⟩
}
theorem all_mk {l : PySem.W.OpenLaw} {w : World} {K : PySem.W.Frag} {mg : Str → Option Value} {h : Heap} {fa : Addr} {m : M} (X : K.In h) (G : h.Ns mainGlobals mg) (hfa : mg "law" = some (.ref fa))
    (lg : ∀ (P : Program) (w : World) (K : PySem.W.Frag) (mg : Str → Option Value) (base : Heap) (f : Addr) (fd : FuncData), Top P w K mg base → Fun K "law" "law" s_law f fd → FnG P w K mg base 8 f fd ["script"] (spM K (CM mg) 1 m))
    {tk_MAX_ENDS : Tok}
    {tk_MAX_PICKS : Tok}
    {f0 : Addr} {od0 an0 : Option Addr} {sl0 : Array (Option Value)} {oc0 kV0 dc0 pm0 cd0 ct0 : Value}
    {f1 : Addr} {od1 an1 : Option Addr} {sl1 : Array (Option Value)} {oc1 kV1 dc1 pm1 cd1 ct1 : Value}
    {f2 : Addr} {od2 an2 : Option Addr} {sl2 : Array (Option Value)} {oc2 kV2 dc2 pm2 cd2 ct2 : Value}
    {f3 : Addr} {od3 an3 : Option Addr} {sl3 : Array (Option Value)} {oc3 kV3 dc3 pm3 cd3 ct3 : Value}
    {f4 : Addr} {od4 an4 : Option Addr} {sl4 : Array (Option Value)} {oc4 kV4 dc4 pm4 cd4 ct4 : Value}
    {f5 : Addr} {od5 an5 : Option Addr} {sl5 : Array (Option Value)} {oc5 kV5 dc5 pm5 cd5 ct5 : Value}
    {f6 : Addr} {od6 an6 : Option Addr} {sl6 : Array (Option Value)} {oc6 kV6 dc6 pm6 cd6 ct6 : Value}
    {f7 : Addr} {od7 an7 : Option Addr} {sl7 : Array (Option Value)} {oc7 kV7 dc7 pm7 cd7 ct7 : Value}
    {f8 : Addr} {od8 an8 : Option Addr} {sl8 : Array (Option Value)} {oc8 kV8 dc8 pm8 cd8 ct8 : Value}
    {f9 : Addr} {od9 an9 : Option Addr} {sl9 : Array (Option Value)} {oc9 kV9 dc9 pm9 cd9 ct9 : Value}
    {f10 : Addr} {od10 an10 : Option Addr} {sl10 : Array (Option Value)} {oc10 kV10 dc10 pm10 cd10 ct10 : Value}
    {f11 : Addr} {od11 an11 : Option Addr} {sl11 : Array (Option Value)} {oc11 kV11 dc11 pm11 cd11 ct11 : Value}
    {f12 : Addr} {od12 an12 : Option Addr} {sl12 : Array (Option Value)} {oc12 kV12 dc12 pm12 cd12 ct12 : Value}
    {f13 : Addr} {od13 an13 : Option Addr} {sl13 : Array (Option Value)} {oc13 kV13 dc13 pm13 cd13 ct13 : Value}
    {f14 : Addr} {od14 an14 : Option Addr} {sl14 : Array (Option Value)} {oc14 kV14 dc14 pm14 cd14 ct14 : Value}
    {f15 : Addr} {od15 an15 : Option Addr} {sl15 : Array (Option Value)} {oc15 kV15 dc15 pm15 cd15 ct15 : Value}
    {f16 : Addr} {od16 an16 : Option Addr} {sl16 : Array (Option Value)} {oc16 kV16 dc16 pm16 cd16 ct16 : Value}
    {f17 : Addr} {od17 an17 : Option Addr} {sl17 : Array (Option Value)} {oc17 kV17 dc17 pm17 cd17 ct17 : Value}
    {f18 : Addr} {od18 an18 : Option Addr} {sl18 : Array (Option Value)} {oc18 kV18 dc18 pm18 cd18 ct18 : Value}
    {f19 : Addr} {od19 an19 : Option Addr} {sl19 : Array (Option Value)} {oc19 kV19 dc19 pm19 cd19 ct19 : Value}
    {f20 : Addr} {od20 an20 : Option Addr} {sl20 : Array (Option Value)} {oc20 kV20 dc20 pm20 cd20 ct20 : Value}
    {f21 : Addr} {od21 an21 : Option Addr} {sl21 : Array (Option Value)} {oc21 kV21 dc21 pm21 cd21 ct21 : Value}
    {f22 : Addr} {od22 an22 : Option Addr} {sl22 : Array (Option Value)} {oc22 kV22 dc22 pm22 cd22 ct22 : Value}
    {f23 : Addr} {od23 an23 : Option Addr} {sl23 : Array (Option Value)} {oc23 kV23 dc23 pm23 cd23 ct23 : Value}
    {f24 : Addr} {od24 an24 : Option Addr} {sl24 : Array (Option Value)} {oc24 kV24 dc24 pm24 cd24 ct24 : Value}
    {f25 : Addr} {od25 an25 : Option Addr} {sl25 : Array (Option Value)} {oc25 kV25 dc25 pm25 cd25 ct25 : Value}
    {A_ClothError I_ClothError N_ClothError : Addr} {nm_ClothError q_ClothError : Str} {bs_ClothError bm_ClothError sub_ClothError : List Value} {sn_ClothError : List Str} {ab_ClothError : Bool} {col_ClothError : Option Bool} {dd_ClothError : Option Addr} {m0_ClothError m1_ClothError m2_ClothError m3_ClothError m5_ClothError : Option Value} {od_ClothError an_ClothError : Option Addr} {sl_ClothError : Array (Option Value)} {oc_ClothError kV_ClothError dc_ClothError pm_ClothError cd_ClothError ct_ClothError : Value}
    {A_ArgumentError I_ArgumentError N_ArgumentError : Addr} {nm_ArgumentError q_ArgumentError : Str} {bs_ArgumentError bm_ArgumentError sub_ArgumentError : List Value} {sn_ArgumentError : List Str} {ab_ArgumentError : Bool} {col_ArgumentError : Option Bool} {dd_ArgumentError : Option Addr} {m0_ArgumentError m1_ArgumentError m2_ArgumentError m3_ArgumentError m5_ArgumentError : Option Value} {od_ArgumentError an_ArgumentError : Option Addr} {sl_ArgumentError : Array (Option Value)} {oc_ArgumentError kV_ArgumentError dc_ArgumentError pm_ArgumentError cd_ArgumentError ct_ArgumentError : Value}
    (c_MAX_ENDS : PySem.W.nsIn K mainGlobals "MAX_ENDS" = some (some (.int 24 tk_MAX_ENDS)))
    (c_MAX_PICKS : PySem.W.nsIn K mainGlobals "MAX_PICKS" = some (some (.int 24 tk_MAX_PICKS)))
    (z_abs : PySem.W.nsIn K mainGlobals "abs" = some none)
    (z_all : PySem.W.nsIn K mainGlobals "all" = some none)
    (z_int : PySem.W.nsIn K mainGlobals "int" = some none)
    (z_isinstance : PySem.W.nsIn K mainGlobals "isinstance" = some none)
    (z_len : PySem.W.nsIn K mainGlobals "len" = some none)
    (z_list : PySem.W.nsIn K mainGlobals "list" = some none)
    (z_max : PySem.W.nsIn K mainGlobals "max" = some none)
    (z_range : PySem.W.nsIn K mainGlobals "range" = some none)
    (z_repr : PySem.W.nsIn K mainGlobals "repr" = some none)
    (z_sum : PySem.W.nsIn K mainGlobals "sum" = some none)
    (z_tuple : PySem.W.nsIn K mainGlobals "tuple" = some none)
    (z_type : PySem.W.nsIn K mainGlobals "type" = some none)
    (z_zip : PySem.W.nsIn K mainGlobals "zip" = some none)
    (a0 : PySem.W.nsIn K mainGlobals "is_integer" = some (some (.ref f0)))
    (l0 : K.lookup f0 = some ⟨oc0, od0, .func (PySem.W.fnOf "is_integer" "is_integer" (defArgs s_is_integer) (defBody s_is_integer) (defScope s_is_integer) .none kV0 dc0 pm0 an0 cd0 ct0), sl0⟩)
    (co0 : PySem.W.codeIn K cd0 "is_integer" = true)
    (ke0 : PySem.W.keepIn K (.ref f0) = true)
    (a1 : PySem.W.nsIn K mainGlobals "is_number" = some (some (.ref f1)))
    (l1 : K.lookup f1 = some ⟨oc1, od1, .func (PySem.W.fnOf "is_number" "is_number" (defArgs s_is_number) (defBody s_is_number) (defScope s_is_number) .none kV1 dc1 pm1 an1 cd1 ct1), sl1⟩)
    (co1 : PySem.W.codeIn K cd1 "is_number" = true)
    (ke1 : PySem.W.keepIn K (.ref f1) = true)
    (a2 : PySem.W.nsIn K mainGlobals "check_cloth" = some (some (.ref f2)))
    (l2 : K.lookup f2 = some ⟨oc2, od2, .func (PySem.W.fnOf "check_cloth" "check_cloth" (defArgs s_check_cloth) (defBody s_check_cloth) (defScope s_check_cloth) .none kV2 dc2 pm2 an2 cd2 ct2), sl2⟩)
    (co2 : PySem.W.codeIn K cd2 "check_cloth" = true)
    (ke2 : PySem.W.keepIn K (.ref f2) = true)
    (a3 : PySem.W.nsIn K mainGlobals "_fault_of_cloth" = some (some (.ref f3)))
    (l3 : K.lookup f3 = some ⟨oc3, od3, .func (PySem.W.fnOf "_fault_of_cloth" "_fault_of_cloth" (defArgs s__fault_of_cloth) (defBody s__fault_of_cloth) (defScope s__fault_of_cloth) .none kV3 dc3 pm3 an3 cd3 ct3), sl3⟩)
    (co3 : PySem.W.codeIn K cd3 "_fault_of_cloth" = true)
    (ke3 : PySem.W.keepIn K (.ref f3) = true)
    (a4 : PySem.W.nsIn K mainGlobals "threads_of" = some (some (.ref f4)))
    (l4 : K.lookup f4 = some ⟨oc4, od4, .func (PySem.W.fnOf "threads_of" "threads_of" (defArgs s_threads_of) (defBody s_threads_of) (defScope s_threads_of) .none kV4 dc4 pm4 an4 cd4 ct4), sl4⟩)
    (co4 : PySem.W.codeIn K cd4 "threads_of" = true)
    (ke4 : PySem.W.keepIn K (.ref f4) = true)
    (a5 : PySem.W.nsIn K mainGlobals "floats" = some (some (.ref f5)))
    (l5 : K.lookup f5 = some ⟨oc5, od5, .func (PySem.W.fnOf "floats" "floats" (defArgs s_floats) (defBody s_floats) (defScope s_floats) .none kV5 dc5 pm5 an5 cd5 ct5), sl5⟩)
    (co5 : PySem.W.codeIn K cd5 "floats" = true)
    (ke5 : PySem.W.keepIn K (.ref f5) = true)
    (a6 : PySem.W.nsIn K mainGlobals "_sides_of" = some (some (.ref f6)))
    (l6 : K.lookup f6 = some ⟨oc6, od6, .func (PySem.W.fnOf "_sides_of" "_sides_of" (defArgs s__sides_of) (defBody s__sides_of) (defScope s__sides_of) .none kV6 dc6 pm6 an6 cd6 ct6), sl6⟩)
    (co6 : PySem.W.codeIn K cd6 "_sides_of" = true)
    (ke6 : PySem.W.keepIn K (.ref f6) = true)
    (a7 : PySem.W.nsIn K mainGlobals "_floats_of" = some (some (.ref f7)))
    (l7 : K.lookup f7 = some ⟨oc7, od7, .func (PySem.W.fnOf "_floats_of" "_floats_of" (defArgs s__floats_of) (defBody s__floats_of) (defScope s__floats_of) .none kV7 dc7 pm7 an7 cd7 ct7), sl7⟩)
    (co7 : PySem.W.codeIn K cd7 "_floats_of" = true)
    (ke7 : PySem.W.keepIn K (.ref f7) = true)
    (a8 : PySem.W.nsIn K mainGlobals "_name_of" = some (some (.ref f8)))
    (l8 : K.lookup f8 = some ⟨oc8, od8, .func (PySem.W.fnOf "_name_of" "_name_of" (defArgs s__name_of) (defBody s__name_of) (defScope s__name_of) .none kV8 dc8 pm8 an8 cd8 ct8), sl8⟩)
    (co8 : PySem.W.codeIn K cd8 "_name_of" = true)
    (ke8 : PySem.W.keepIn K (.ref f8) = true)
    (a9 : PySem.W.nsIn K mainGlobals "longest" = some (some (.ref f9)))
    (l9 : K.lookup f9 = some ⟨oc9, od9, .func (PySem.W.fnOf "longest" "longest" (defArgs s_longest) (defBody s_longest) (defScope s_longest) .none kV9 dc9 pm9 an9 cd9 ct9), sl9⟩)
    (co9 : PySem.W.codeIn K cd9 "longest" = true)
    (ke9 : PySem.W.keepIn K (.ref f9) = true)
    (a10 : PySem.W.nsIn K mainGlobals "too_long" = some (some (.ref f10)))
    (l10 : K.lookup f10 = some ⟨oc10, od10, .func (PySem.W.fnOf "too_long" "too_long" (defArgs s_too_long) (defBody s_too_long) (defScope s_too_long) .none kV10 dc10 pm10 an10 cd10 ct10), sl10⟩)
    (co10 : PySem.W.codeIn K cd10 "too_long" = true)
    (ke10 : PySem.W.keepIn K (.ref f10) = true)
    (a11 : PySem.W.nsIn K mainGlobals "face_of" = some (some (.ref f11)))
    (l11 : K.lookup f11 = some ⟨oc11, od11, .func (PySem.W.fnOf "face_of" "face_of" (defArgs s_face_of) (defBody s_face_of) (defScope s_face_of) .none kV11 dc11 pm11 an11 cd11 ct11), sl11⟩)
    (co11 : PySem.W.codeIn K cd11 "face_of" = true)
    (ke11 : PySem.W.keepIn K (.ref f11) = true)
    (a12 : PySem.W.nsIn K mainGlobals "interlacings" = some (some (.ref f12)))
    (l12 : K.lookup f12 = some ⟨oc12, od12, .func (PySem.W.fnOf "interlacings" "interlacings" (defArgs s_interlacings) (defBody s_interlacings) (defScope s_interlacings) .none kV12 dc12 pm12 an12 cd12 ct12), sl12⟩)
    (co12 : PySem.W.codeIn K cd12 "interlacings" = true)
    (ke12 : PySem.W.keepIn K (.ref f12) = true)
    (a13 : PySem.W.nsIn K mainGlobals "_law_draws" = some (some (.ref f13)))
    (l13 : K.lookup f13 = some ⟨oc13, od13, .func (PySem.W.fnOf "_law_draws" "_law_draws" (defArgs s__law_draws) (defBody s__law_draws) (defScope s__law_draws) .none kV13 dc13 pm13 an13 cd13 ct13), sl13⟩)
    (co13 : PySem.W.codeIn K cd13 "_law_draws" = true)
    (ke13 : PySem.W.keepIn K (.ref f13) = true)
    (a14 : PySem.W.nsIn K mainGlobals "_law_more" = some (some (.ref f14)))
    (l14 : K.lookup f14 = some ⟨oc14, od14, .func (PySem.W.fnOf "_law_more" "_law_more" (defArgs s__law_more) (defBody s__law_more) (defScope s__law_more) .none kV14 dc14 pm14 an14 cd14 ct14), sl14⟩)
    (co14 : PySem.W.codeIn K cd14 "_law_more" = true)
    (ke14 : PySem.W.keepIn K (.ref f14) = true)
    (a15 : PySem.W.nsIn K mainGlobals "_law_take" = some (some (.ref f15)))
    (l15 : K.lookup f15 = some ⟨oc15, od15, .func (PySem.W.fnOf "_law_take" "_law_take" (defArgs s__law_take) (defBody s__law_take) (defScope s__law_take) .none kV15 dc15 pm15 an15 cd15 ct15), sl15⟩)
    (co15 : PySem.W.codeIn K cd15 "_law_take" = true)
    (ke15 : PySem.W.keepIn K (.ref f15) = true)
    (a16 : PySem.W.nsIn K mainGlobals "_law_one" = some (some (.ref f16)))
    (l16 : K.lookup f16 = some ⟨oc16, od16, .func (PySem.W.fnOf "_law_one" "_law_one" (defArgs s__law_one) (defBody s__law_one) (defScope s__law_one) .none kV16 dc16 pm16 an16 cd16 ct16), sl16⟩)
    (co16 : PySem.W.codeIn K cd16 "_law_one" = true)
    (ke16 : PySem.W.keepIn K (.ref f16) = true)
    (a17 : PySem.W.nsIn K mainGlobals "_law_row" = some (some (.ref f17)))
    (l17 : K.lookup f17 = some ⟨oc17, od17, .func (PySem.W.fnOf "_law_row" "_law_row" (defArgs s__law_row) (defBody s__law_row) (defScope s__law_row) .none kV17 dc17 pm17 an17 cd17 ct17), sl17⟩)
    (co17 : PySem.W.codeIn K cd17 "_law_row" = true)
    (ke17 : PySem.W.keepIn K (.ref f17) = true)
    (a18 : PySem.W.nsIn K mainGlobals "_law_planted" = some (some (.ref f18)))
    (l18 : K.lookup f18 = some ⟨oc18, od18, .func (PySem.W.fnOf "_law_planted" "_law_planted" (defArgs s__law_planted) (defBody s__law_planted) (defScope s__law_planted) .none kV18 dc18 pm18 an18 cd18 ct18), sl18⟩)
    (co18 : PySem.W.codeIn K cd18 "_law_planted" = true)
    (ke18 : PySem.W.keepIn K (.ref f18) = true)
    (a19 : PySem.W.nsIn K mainGlobals "_law_sized" = some (some (.ref f19)))
    (l19 : K.lookup f19 = some ⟨oc19, od19, .func (PySem.W.fnOf "_law_sized" "_law_sized" (defArgs s__law_sized) (defBody s__law_sized) (defScope s__law_sized) .none kV19 dc19 pm19 an19 cd19 ct19), sl19⟩)
    (co19 : PySem.W.codeIn K cd19 "_law_sized" = true)
    (ke19 : PySem.W.keepIn K (.ref f19) = true)
    (a20 : PySem.W.nsIn K mainGlobals "_law_cloth" = some (some (.ref f20)))
    (l20 : K.lookup f20 = some ⟨oc20, od20, .func (PySem.W.fnOf "_law_cloth" "_law_cloth" (defArgs s__law_cloth) (defBody s__law_cloth) (defScope s__law_cloth) .none kV20 dc20 pm20 an20 cd20 ct20), sl20⟩)
    (co20 : PySem.W.codeIn K cd20 "_law_cloth" = true)
    (ke20 : PySem.W.keepIn K (.ref f20) = true)
    (a21 : PySem.W.nsIn K mainGlobals "_law_line" = some (some (.ref f21)))
    (l21 : K.lookup f21 = some ⟨oc21, od21, .func (PySem.W.fnOf "_law_line" "_law_line" (defArgs s__law_line) (defBody s__law_line) (defScope s__law_line) .none kV21 dc21 pm21 an21 cd21 ct21), sl21⟩)
    (co21 : PySem.W.codeIn K cd21 "_law_line" = true)
    (ke21 : PySem.W.keepIn K (.ref f21) = true)
    (a22 : PySem.W.nsIn K mainGlobals "_law_floats" = some (some (.ref f22)))
    (l22 : K.lookup f22 = some ⟨oc22, od22, .func (PySem.W.fnOf "_law_floats" "_law_floats" (defArgs s__law_floats) (defBody s__law_floats) (defScope s__law_floats) .none kV22 dc22 pm22 an22 cd22 ct22), sl22⟩)
    (co22 : PySem.W.codeIn K cd22 "_law_floats" = true)
    (ke22 : PySem.W.keepIn K (.ref f22) = true)
    (a23 : PySem.W.nsIn K mainGlobals "_law_longest" = some (some (.ref f23)))
    (l23 : K.lookup f23 = some ⟨oc23, od23, .func (PySem.W.fnOf "_law_longest" "_law_longest" (defArgs s__law_longest) (defBody s__law_longest) (defScope s__law_longest) .none kV23 dc23 pm23 an23 cd23 ct23), sl23⟩)
    (co23 : PySem.W.codeIn K cd23 "_law_longest" = true)
    (ke23 : PySem.W.keepIn K (.ref f23) = true)
    (a24 : PySem.W.nsIn K mainGlobals "_law_told" = some (some (.ref f24)))
    (l24 : K.lookup f24 = some ⟨oc24, od24, .func (PySem.W.fnOf "_law_told" "_law_told" (defArgs s__law_told) (defBody s__law_told) (defScope s__law_told) .none kV24 dc24 pm24 an24 cd24 ct24), sl24⟩)
    (co24 : PySem.W.codeIn K cd24 "_law_told" = true)
    (ke24 : PySem.W.keepIn K (.ref f24) = true)
    (a25 : PySem.W.nsIn K mainGlobals "law" = some (some (.ref f25)))
    (l25 : K.lookup f25 = some ⟨oc25, od25, .func (PySem.W.fnOf "law" "law" (defArgs s_law) (defBody s_law) (defScope s_law) .none kV25 dc25 pm25 an25 cd25 ct25), sl25⟩)
    (co25 : PySem.W.codeIn K cd25 "law" = true)
    (ke25 : PySem.W.keepIn K (.ref f25) = true)
    (xa_ClothError : PySem.W.nsIn K mainGlobals "ClothError" = some (some (.ref A_ClothError)))
    (xl_ClothError : K.lookup A_ClothError = some (excClassObj nm_ClothError q_ClothError A_ClothError N_ClothError bs_ClothError bm_ClothError true sn_ClothError sub_ClothError ab_ClothError col_ClothError dd_ClothError m0_ClothError m1_ClothError m2_ClothError m3_ClothError m5_ClothError "ValueError.__new__"))
    (xr_ClothError : PySem.HandSPX.refsVE bm_ClothError = true)
    (xs_ClothError : PySem.W.findIn K (.ref A_ClothError) "__setattr__" = some (some (.builtin "object.__setattr__")))
    (xg_ClothError : PySem.W.findIn K (.ref A_ClothError) "__getattribute__" = some (some (.builtin "BaseException.__getattribute__")))
    (xh_ClothError : PySem.W.findIn K (.ref A_ClothError) "__getattr__" = some none)
    (xn_ClothError : PySem.W.findIn K (.ref A_ClothError) "reason" = some none)
    (xi_ClothError : PySem.W.findIn K (.ref A_ClothError) "__init__" = some (some (.ref I_ClothError)))
    (xt_ClothError : PySem.W.typeIn K (.ref I_ClothError) = some (.type "function"))
    (yl_ClothError : K.lookup I_ClothError = some ⟨oc_ClothError, od_ClothError, .func (PySem.W.fnOf "__init__" "ClothError.__init__" (defArgs si_ClothError) (defBody si_ClothError) (defScope si_ClothError) .none kV_ClothError dc_ClothError pm_ClothError an_ClothError cd_ClothError ct_ClothError), sl_ClothError⟩)
    (yc_ClothError : PySem.W.codeIn K cd_ClothError "ClothError.__init__" = true)
    (yk_ClothError : PySem.W.keepIn K (.ref I_ClothError) = true)
    (xk_ClothError : PySem.W.keepIn K (.ref A_ClothError) = true)
    (xe_ClothError : PySem.W.subIn K (.ref A_ClothError) (.type "BaseException") = some true)
    (xy_ClothError : PySem.W.typeIn K (.ref A_ClothError) = some (.type "type"))
    (xd_ClothError : PySem.W.hasDictIn K A_ClothError = true)
    (xa_ArgumentError : PySem.W.nsIn K mainGlobals "ArgumentError" = some (some (.ref A_ArgumentError)))
    (xl_ArgumentError : K.lookup A_ArgumentError = some (excClassObj nm_ArgumentError q_ArgumentError A_ArgumentError N_ArgumentError bs_ArgumentError bm_ArgumentError true sn_ArgumentError sub_ArgumentError ab_ArgumentError col_ArgumentError dd_ArgumentError m0_ArgumentError m1_ArgumentError m2_ArgumentError m3_ArgumentError m5_ArgumentError "ValueError.__new__"))
    (xr_ArgumentError : PySem.HandSPX.refsVE bm_ArgumentError = true)
    (xs_ArgumentError : PySem.W.findIn K (.ref A_ArgumentError) "__setattr__" = some (some (.builtin "object.__setattr__")))
    (xg_ArgumentError : PySem.W.findIn K (.ref A_ArgumentError) "__getattribute__" = some (some (.builtin "BaseException.__getattribute__")))
    (xh_ArgumentError : PySem.W.findIn K (.ref A_ArgumentError) "__getattr__" = some none)
    (xn_ArgumentError : PySem.W.findIn K (.ref A_ArgumentError) "reason" = some none)
    (xi_ArgumentError : PySem.W.findIn K (.ref A_ArgumentError) "__init__" = some (some (.ref I_ArgumentError)))
    (xt_ArgumentError : PySem.W.typeIn K (.ref I_ArgumentError) = some (.type "function"))
    (yl_ArgumentError : K.lookup I_ArgumentError = some ⟨oc_ArgumentError, od_ArgumentError, .func (PySem.W.fnOf "__init__" "ArgumentError.__init__" (defArgs si_ArgumentError) (defBody si_ArgumentError) (defScope si_ArgumentError) .none kV_ArgumentError dc_ArgumentError pm_ArgumentError an_ArgumentError cd_ArgumentError ct_ArgumentError), sl_ArgumentError⟩)
    (yc_ArgumentError : PySem.W.codeIn K cd_ArgumentError "ArgumentError.__init__" = true)
    (yk_ArgumentError : PySem.W.keepIn K (.ref I_ArgumentError) = true)
    (xk_ArgumentError : PySem.W.keepIn K (.ref A_ArgumentError) = true)
    (xe_ArgumentError : PySem.W.subIn K (.ref A_ArgumentError) (.type "BaseException") = some true)
    (xy_ArgumentError : PySem.W.typeIn K (.ref A_ArgumentError) = some (.type "type"))
    (xd_ArgumentError : PySem.W.hasDictIn K A_ArgumentError = true)
    (xc_ArgumentError : PySem.W.isClsIn K A_ArgumentError = true)
    (xq_ClothError_ArgumentError : PySem.W.subIn K (.ref A_ClothError) (.ref A_ArgumentError) = some false)
    (xq_ArgumentError_ArgumentError : PySem.W.subIn K (.ref A_ArgumentError) (.ref A_ArgumentError) = some true) :
    ∃ fd : FuncData, (∀ (s : Shared) (u : Value), BindsTo s fd ⟨[u], []⟩ [("script", u)]) ∧ ∃ C : Cls0, ∀ base : Heap, K.In base → base.Ns mainGlobals mg → FnG l.prog w K mg base 8 fa fd ["script"] (spM K C 1 m) := by
  have e := hfa.symm.trans (PySem.W.mg_of X G a25)
  cases e
  exact ⟨_, fun s v => .of_eq rfl, _, fun base _ _ => lg _ _ _ _ _ _ _ (top_mk X G c_MAX_ENDS c_MAX_PICKS z_abs z_all z_int z_isinstance z_len z_list z_max z_range z_repr z_sum z_tuple z_type z_zip a0 l0 co0 ke0 a1 l1 co1 ke1 a2 l2 co2 ke2 a3 l3 co3 ke3 a4 l4 co4 ke4 a5 l5 co5 ke5 a6 l6 co6 ke6 a7 l7 co7 ke7 a8 l8 co8 ke8 a9 l9 co9 ke9 a10 l10 co10 ke10 a11 l11 co11 ke11 a12 l12 co12 ke12 a13 l13 co13 ke13 a14 l14 co14 ke14 a15 l15 co15 ke15 a16 l16 co16 ke16 a17 l17 co17 ke17 a18 l18 co18 ke18 a19 l19 co19 ke19 a20 l20 co20 ke20 a21 l21 co21 ke21 a22 l22 co22 ke22 a23 l23 co23 ke23 a24 l24 co24 ke24 a25 l25 co25 ke25 xa_ClothError xl_ClothError xr_ClothError xs_ClothError xg_ClothError xh_ClothError xn_ClothError xi_ClothError xt_ClothError yl_ClothError yc_ClothError yk_ClothError xk_ClothError xe_ClothError xy_ClothError xd_ClothError xa_ArgumentError xl_ArgumentError xr_ArgumentError xs_ArgumentError xg_ArgumentError xh_ArgumentError xn_ArgumentError xi_ArgumentError xt_ArgumentError yl_ArgumentError yc_ArgumentError yk_ArgumentError xk_ArgumentError xe_ArgumentError xy_ArgumentError xd_ArgumentError xc_ArgumentError xq_ClothError_ArgumentError xq_ArgumentError_ArgumentError base) (fun_mk (st := s_law) l25 co25 ke25)⟩
end Lk36

set_option Elab.async false
set_option linter.all false
set_option maxRecDepth 100000
set_option maxHeartbeats 4000000
set_option autoImplicit false
namespace Lk36
open PySem L2 Sh
/-! ### the law's draws -/
structure Dr (ld la : Nat) (ns : List Int) (S : Store) : Prop where
  hd : S[ld]? = some (.lst (ns.map D.int))
  ha : ∃ p : Nat, S[la]? = some (.lst [.int p])
  ne : ld ≠ la
def Gn (la : Nat) (S T : Store) : Prop := S.length ≤ T.length ∧ ∀ l, l < S.length → l ≠ la → T[l]? = S[l]?
theorem Gn.refl {la : Nat} {S : Store} : Gn la S S := ⟨Nat.le_refl _, fun _ _ _ => rfl⟩
theorem Gn.trans {la : Nat} {S T U : Store} (a : Gn la S T) (b : Gn la T U) : Gn la S U := ⟨Nat.le_trans a.1 b.1, fun l h1 h2 => (b.2 l (Nat.lt_of_lt_of_le h1 a.1) h2).trans (a.2 l h1 h2)⟩
theorem Gn.pre {la : Nat} {S T : Store} (h : S <+: T) : Gn la S T := ⟨h.length_le, fun l h1 _ => by
  obtain ⟨J, rfl⟩ := h
  exact List.getElem?_append_left h1⟩
theorem Gn.get {la l : Nat} {S T : Store} {o : SO} (g : Gn la S T) (h : S[l]? = some o) (hl : l ≠ la) : T[l]? = some o := (g.2 l (List.getElem?_eq_some_iff.mp h).1 hl).trans h
theorem Dr.pre {ld la : Nat} {ns : List Int} {S T : Store} (d : Dr ld la ns S) (h : S <+: T) : Dr ld la ns T := ⟨pre_get h d.hd, let ⟨p, e⟩ := d.ha; ⟨p, pre_get h e⟩, d.ne⟩
section
variable {ld la : Nat} {ns : List Int} {S : Store}
theorem more_ok (hd : S[ld]? = some (.lst (ns.map D.int))) (p : Int) : ∃ (k : Int) (T : Store), m__law_more [.ref ld, .int p] S = some (.ok (.int k), T) ∧ S <+: T := by
  suffices key : ∃ r T, m__law_more [.ref ld, .int p] S = some (r, T) ∧ ∃ k : Int, r = .ok (.int k) ∧ S <+: T by
    obtain ⟨r, T, e, k, rfl, pr⟩ := key
    exact ⟨k, T, e, pr⟩
  refine mOf_wp rfl ?_
  unfold d__law_more
  refine wp_seq (wp_set (ev_bin (ev_call (ev_cons (ev_bin (ev_bin (ev_bin (ev_var rfl) ev_C fun T _ => mulR (by decide)) (ev_call (ev_cons (ev_var rfl) ev_nil) fun T r => lenR (pre_get r hd)) fun T _ => rfl) ev_C fun T _ => rfl) ev_nil) fun T _ => rfl) ev_C fun T _ => modI (by decide)) fun T1 r1 => ?_)
  refine wp_seq (wp_for (ev_iR1 (ev_cons ev_C ev_nil) (by decide)) (fun _ ρ T => ∃ (x : Int) (k : Option D), ρ = [some (.ref ld), some (.int p), some (.int x), k] ∧ S <+: T) (fun _ _ _ _ q hq => by cases hq) (fun T r => ⟨_, none, rfl, r1.trans r⟩) ?_ ?_)
  · rintro done d rest ρ T ed ⟨x, k0, rfl, rT⟩
    obtain ⟨k, hk, rfl⟩ := mem_dInts (mem_split ed)
    have hdT := pre_get rT hd
    refine ⟨_, T, rfl, wp_seq (wp_if (b := !(ns.map D.int).isEmpty) (ev_Tru (ev_var rfl) fun T2 r2 => by simp only [truO, pre_get r2 hdT]) (fun hb T2 r2 => ?_) (fun hb T2 r2 => ?_))⟩
    · have hne : ns ≠ [] := by intro z; subst z; simp at hb
      have hlen : (ns.map D.int).length = ns.length := by simp
      have hpos : 0 < ns.length := List.length_pos_iff.mpr hne
      have i0 : 0 ≤ (p * (0 + (k : Int) + 5) + (0 + (k : Int))).fmod ns.length := Int.fmod_nonneg_of_pos _ (by omega)
      have i1 : (p * (0 + (k : Int) + 5) + (0 + (k : Int))).fmod ns.length < ns.length := Int.fmod_lt_of_pos _ (by omega)
      obtain ⟨y, e1, e2, _⟩ := atI_in (xs := ns.map D.int) i0 (by rw [hlen]; exact i1)
      obtain ⟨yi, _, rfl⟩ := List.mem_map.mp e2
      refine wp_set (ev_bin (ev_var rfl) (ev_bin (ev_var rfl) (ev_bin (ev_call (ev_cons (ev_bin (ev_bin (ev_var rfl) (ev_bin (ev_var rfl) ev_C fun T _ => rfl) fun T _ => mulR (by omega)) (ev_var rfl) fun T _ => rfl) ev_nil) fun T _ => rfl)
        (ev_call (ev_cons (ev_var rfl) ev_nil) fun T r => lenR (pre_get (r2.trans r) hdT)) fun T _ => modI (by rw [hlen]; omega)) fun T r => ixR (pre_get (r2.trans r) hdT) (by rw [hlen]; exact e1)) fun T _ => rfl) fun T3 r3 => ?_
      refine wp_set (ev_bin (ev_call (ev_cons (ev_bin (ev_bin (ev_bin (ev_var rfl) ev_C fun T _ => mulR (by decide)) (ev_bin ev_C (ev_var rfl) fun T _ => mulL (by decide)) fun T _ => rfl) ev_C fun T _ => rfl) ev_nil) fun T _ => rfl) ev_C fun T _ => modI (by decide)) fun T4 r4 => ?_
      exact ⟨_, _, rfl, ((rT.trans r2).trans r3).trans r4⟩
    · refine wp_nil ?_
      refine wp_set (ev_bin (ev_call (ev_cons (ev_bin (ev_bin (ev_bin (ev_var rfl) ev_C fun T _ => mulR (by decide)) (ev_bin ev_C (ev_var rfl) fun T _ => mulL (by decide)) fun T _ => rfl) ev_C fun T _ => rfl) ev_nil) fun T _ => rfl) ev_C fun T _ => modI (by decide)) fun T4 r4 => ?_
      exact ⟨_, _, rfl, (rT.trans r2).trans r4⟩
  · rintro ρ T ⟨x, k, rfl, rT⟩
    refine wp_ret (ev_bin (ev_var rfl) ev_C fun T _ => divI (by decide)) fun T2 r2 => ?_
    exact ⟨_, rfl, rT.trans r2⟩
/-- a draw below many -/
theorem take_ok (h : Dr ld la ns S) (many : Int) (hm : 0 < many) : ∃ (k : Int) (T : Store), m__law_take [.ref ld, .ref la, .int many] S = some (.ok (.int k), T) ∧ (0 ≤ k ∧ k < many) ∧ Dr ld la ns T ∧ Gn la S T := by
  suffices key : ∃ r T, m__law_take [.ref ld, .ref la, .int many] S = some (r, T) ∧ ∃ k : Int, r = .ok (.int k) ∧ (0 ≤ k ∧ k < many) ∧ Dr ld la ns T ∧ Gn la S T by
    obtain ⟨r, T, e, k, rfl, pr⟩ := key
    exact ⟨k, T, e, pr⟩
  refine mOf_wp rfl ?_
  unfold d__law_take
  obtain ⟨p, hp⟩ := h.ha
  refine wp_seq (wp_set (ev_bin (ev_var rfl) ev_C fun T r => ixR (pre_get r hp) rfl) fun T1 r1 => ?_)
  refine wp_seq (wpe_setIx (we_ev (ev_bin (ev_var rfl) ev_C fun T r => rfl) fun T2 r2 => we_var rfl (we_C ⟨la, 0, [.int p], 0, rfl, rfl, pre_get (r1.trans r2) hp, rfl, ?_⟩)))
  have hla : la < T2.length := Nat.lt_of_lt_of_le (List.getElem?_eq_some_iff.mp hp).1 (r1.trans r2).length_le
  have hT : Dr ld la ns (T2.set la (.lst ([D.int p].set 0 (.int (p + 1))))) := ⟨by rw [List.getElem?_set_ne (fun z => h.ne z.symm)]; exact pre_get (r1.trans r2) h.hd, ⟨p + 1, by rw [List.getElem?_set_self hla]; rfl⟩, h.ne⟩
  have gT : Gn la S (T2.set la (.lst ([D.int p].set 0 (.int (p + 1))))) := by
    refine ⟨by rw [List.length_set]; exact (r1.trans r2).length_le, fun l h1 h2 => ?_⟩
    rw [List.getElem?_set_ne (fun z => h2 z.symm)]
    exact (Gn.pre (la := la) (r1.trans r2)).2 l h1 h2
  generalize T2.set la (.lst ([D.int p].set 0 (.int (p + 1)))) = T3 at hT gT
  have hlen : (ns.map D.int).length = ns.length := by simp
  have fin : ∀ (x : Int) (T4 : Store), T3 <+: T4 → ∃ k : Int, (Except.ok (.int (x.fmod many)) : Except Ex D) = .ok (.int k) ∧ (0 ≤ k ∧ k < many) ∧ Dr ld la ns T4 ∧ Gn la S T4 := fun x T4 r4 =>
    ⟨_, rfl, ⟨Int.fmod_nonneg_of_pos _ hm, Int.fmod_lt_of_pos _ hm⟩, hT.pre r4, gT.trans (.pre r4)⟩
  by_cases hlt : (p : Int) < ns.length
  · obtain ⟨y, e1, e2, _⟩ := atI_in (xs := ns.map D.int) (i := p) (by omega) (by rw [hlen]; exact hlt)
    obtain ⟨yi, _, rfl⟩ := List.mem_map.mp e2
    refine wp_ret (ev_bin (ev_call (ev_cons (ev_if (b := true) (ev_T (ev_bin (ev_var rfl) (ev_call (ev_cons (ev_var rfl) ev_nil) fun T r => lenR (pre_get r hT.hd)) fun T r => by simp only [pI2, gLt, hlen, hlt, decide_true])) (fun _ => ev_bin (ev_var rfl) (ev_var rfl) fun T r => ixR (pre_get r hT.hd) e1) (fun z => by cases z)) ev_nil) fun T _ => rfl) (ev_var rfl) fun T _ => modI (by omega)) fun T4 r4 => ?_
    exact fin _ T4 r4
  · obtain ⟨k, T', e1, _⟩ := more_ok hT.hd p
    refine wpe_ret (we_bin (we_call (we_cons (we_if (we_ev (ev_T (b := false) (ev_bin (ev_var rfl) (ev_call (ev_cons (ev_var rfl) ev_nil) fun T r => lenR (pre_get r hT.hd)) fun T r => by simp only [pI2, gLt, hlen, hlt, decide_false])) fun T4 r4 => ⟨fun z => (by cases z), fun _ => we_app (we_cons (we_var rfl (we_cons (we_var rfl (we_nil ⟨rfl, ?_⟩)))))⟩)))))
    obtain ⟨k, T5, e1, r5⟩ := more_ok (pre_get r4 hT.hd) p
    refine ⟨_, T5, e1, we_nil ⟨_, rfl, we_var rfl ⟨_, modI (by omega), fin _ T5 (r4.trans r5)⟩⟩⟩

/-! ### rows and cloths -/
def bit (b : Bool) : D := .int (if b then 1 else 0)
def row (bs : List Bool) : D := .tup (bs.map bit)
def enc (c : List (List Bool)) : D := .tup (c.map row)
structure Good (p e : Nat) (c : List (List Bool)) : Prop where
  picks : c.length = p
  ends : ∀ r ∈ c, r.length = e
theorem bits_of : ∀ {ys : List D}, (∀ y ∈ ys, ∃ k : Int, y = .int k ∧ 0 ≤ k ∧ k < 2) → ∃ bs : List Bool, ys = bs.map bit ∧ bs.length = ys.length
  | [], _ => ⟨[], rfl, rfl⟩
  | y :: ys, h => by
    obtain ⟨k, rfl, h0, h1⟩ := h y (List.mem_cons_self ..)
    obtain ⟨bs, rfl, hl⟩ := bits_of (ys := ys) fun z hz => h z (List.mem_cons_of_mem _ hz)
    refine ⟨(k == 1) :: bs, ?_, by rw [List.length_cons, List.length_cons, hl]⟩
    have : k = 0 ∨ k = 1 := by omega
    rcases this with rfl | rfl <;> rfl
theorem rows_of {e : Nat} : ∀ {ys : List D}, (∀ y ∈ ys, ∃ bs : List Bool, y = row bs ∧ bs.length = e) → ∃ c : List (List Bool), ys = c.map row ∧ Good ys.length e c
  | [], _ => ⟨[], rfl, rfl, fun _ h => by cases h⟩
  | y :: ys, h => by
    obtain ⟨bs, rfl, hb⟩ := h y (List.mem_cons_self ..)
    obtain ⟨c, rfl, g⟩ := rows_of (ys := ys) fun z hz => h z (List.mem_cons_of_mem _ hz)
    refine ⟨bs :: c, rfl, by rw [List.length_cons, List.length_cons, g.picks], fun r hr => ?_⟩
    rcases List.mem_cons.mp hr with rfl | hr
    · exact hb
    · exact g.ends r hr
theorem row_ok (h : Dr ld la ns S) (e : Nat) (he : e ≤ 24) : ∃ (bs : List Bool) (T : Store), m__law_row [.int e, .ref ld, .ref la] S = some (.ok (row bs), T) ∧ bs.length = e ∧ Dr ld la ns T ∧ Gn la S T := by
  suffices key : ∃ r T, m__law_row [.int e, .ref ld, .ref la] S = some (r, T) ∧ ∃ bs, r = .ok (row bs) ∧ bs.length = e ∧ Dr ld la ns T ∧ Gn la S T by
    obtain ⟨r, T, e, k, rfl, pr⟩ := key
    exact ⟨k, T, e, pr⟩
  refine mOf_wp rfl ?_
  unfold d__law_row
  refine wpe_ret (we_new (we_mapI (fun T => Dr ld la ns T ∧ Gn la S T) (fun y => ∃ k : Int, y = .int k ∧ 0 ≤ k ∧ k < 2) (we_iR1 (we_cons (we_var rfl (we_nil ⟨e, rfl, by omega, rfl, ?_, ⟨h, .refl⟩, ?_, ?_⟩))))))
  · rw [dInts_length]; omega
  · rintro d T _ ⟨hT, gT⟩
    refine we_app (we_cons (we_var rfl (we_cons (we_var rfl (we_cons (we_C (we_nil ⟨rfl, ?_⟩)))))))
    obtain ⟨k, T', e1, hk, hT', g'⟩ := take_ok hT 2 (by decide)
    exact ⟨_, T', e1, ⟨k, rfl, hk⟩, hT', gT.trans g'⟩
  · rintro ys T' hl hv ⟨hT, gT⟩
    obtain ⟨bs, rfl, hb⟩ := bits_of hv
    rw [dInts_length, Int.toNat_natCast] at hl
    exact ⟨_, rfl, bs, rfl, by rw [hb, hl], hT, gT⟩
/-- a draw, as an expression's value -/
theorem we_take {ρ : Rho} {f1 f2 f3 : EF D} {many : Int} {Q : D → Store → Prop} (hm : 0 < many) (h : Dr ld la ns S) (e1 : ∀ T, Ev f1 ρ T (.ref ld)) (e2 : ∀ T, Ev f2 ρ T (.ref la)) (e3 : ∀ T, Ev f3 ρ T (.int many))
    (q : ∀ (k : Int) (T : Store), 0 ≤ k → k < many → Dr ld la ns T → Gn la S T → Q (.int k) T) : We (fApp 3 m__law_take (fCons f1 (fCons f2 (fCons f3 fNil)))) ρ S Q := by
  refine we_app (we_ev (ev_cons (e1 S) (ev_cons (e2 S) (ev_cons (e3 S) ev_nil))) fun T r => ⟨rfl, ?_⟩)
  obtain ⟨k, T', e, ⟨k0, k1⟩, hT, gT⟩ := take_ok (h.pre r) many hm
  exact ⟨_, T', e, q k T' k0 k1 hT ((Gn.pre r).trans gT)⟩
theorem we_row {ρ : Rho} {f1 f2 f3 : EF D} {e : Nat} {Q : D → Store → Prop} (he : e ≤ 24) (h : Dr ld la ns S) (e0 : ∀ T, Ev f3 ρ T (.int e)) (e1 : ∀ T, Ev f1 ρ T (.ref ld)) (e2 : ∀ T, Ev f2 ρ T (.ref la))
    (q : ∀ (bs : List Bool) (T : Store), bs.length = e → Dr ld la ns T → Gn la S T → Q (row bs) T) : We (fApp 3 m__law_row (fCons f3 (fCons f1 (fCons f2 fNil)))) ρ S Q := by
  refine we_app (we_ev (ev_cons (e0 S) (ev_cons (e1 S) (ev_cons (e2 S) ev_nil))) fun T r => ⟨rfl, ?_⟩)
  obtain ⟨bs, T', e, hb, hT, gT⟩ := row_ok (h.pre r) e he
  exact ⟨_, T', e, q bs T' hb hT ((Gn.pre r).trans gT)⟩
theorem Gn.set {l : Nat} {T : Store} {o : SO} (g : Gn la S T) (hl : S.length ≤ l) : Gn la S (T.set l o) := ⟨by rw [List.length_set]; exact g.1, fun k h1 h2 => by rw [List.getElem?_set_ne (by omega)]; exact g.2 k h1 h2⟩
theorem Gn.put {T : Store} {o : SO} (g : Gn la S T) : Gn la S (T ++ [o]) := g.trans (.pre (pre_new _ _))
theorem Dr.lt {l : Nat} (h : Dr ld la ns S) (hl : S.length ≤ l) : l ≠ ld ∧ l ≠ la := by
  have h1 := (List.getElem?_eq_some_iff.mp h.hd).1
  obtain ⟨p, hp⟩ := h.ha
  have h2 := (List.getElem?_eq_some_iff.mp hp).1
  exact ⟨by omega, by omega⟩
theorem Dr.set {l : Nat} {o : SO} (h : Dr ld la ns S) (h1 : l ≠ ld) (h2 : l ≠ la) : Dr ld la ns (S.set l o) :=
  ⟨by rw [List.getElem?_set_ne h1]; exact h.hd, let ⟨p, e⟩ := h.ha; ⟨p, by rw [List.getElem?_set_ne h2]; exact e⟩, h.ne⟩
theorem Dr.put {o : SO} (h : Dr ld la ns S) : Dr ld la ns (S ++ [o]) := h.pre (pre_new _ _)
/-- a new list of n draws below two -/
theorem we_bits {ρ : Rho} {vs : List Nat} {i n : Nat} {f0 f1 f2 f3 : EF D} {Q : List D → Store → Prop} (hn : n ≤ 24) (h : Dr ld la ns S) (e0 : ∀ T, Ev f0 ρ T (.int n)) (e1 : ∀ d T, Ev f1 ((wipeR ρ vs).set i (some d)) T (.ref ld)) (e2 : ∀ d T, Ev f2 ((wipeR ρ vs).set i (some d)) T (.ref la))
    (e3 : ∀ d T, Ev f3 ((wipeR ρ vs).set i (some d)) T (.int 2)) (q : ∀ (bs : List Bool) (T : Store), bs.length = n → Dr ld la ns T → Gn la S T → Q (bs.map bit) T) : We (fComp (iR1 (fCons f0 fNil)) vs (gN i) tTrue (fApp 3 m__law_take (fCons f1 (fCons f2 (fCons f3 fNil))))) ρ S Q := by
  refine we_mapI (fun T => Dr ld la ns T ∧ Gn la S T) (fun y => ∃ k : Int, y = .int k ∧ 0 ≤ k ∧ k < 2) (we_iR1 (we_ev (ev_cons (e0 S) ev_nil) fun T r => ⟨n, rfl, by omega, rfl, ?_, ⟨h.pre r, .pre r⟩, ?_, ?_⟩))
  · rw [dInts_length]; omega
  · rintro d T _ ⟨hT, gT⟩
    exact we_take (by decide) hT (e1 d) (e2 d) (e3 d) fun k T' k0 k1 hT' g' => ⟨⟨k, rfl, k0, k1⟩, hT', gT.trans g'⟩
  · rintro ys T' hl hv ⟨hT, gT⟩
    obtain ⟨bs, rfl, hb⟩ := bits_of hv
    rw [dInts_length, Int.toNat_natCast] at hl
    exact q bs T' (by rw [hb, hl]) hT gT
theorem bit_at {bs : List Bool} {k : Nat} (hk : k < bs.length) : atI (bs.map bit) (k : Int) = some (bit bs[k]) := by
  rw [atI_of (by simpa using hk)]
  simp
theorem planted_ok (h : Dr ld la ns S) (p e : Nat) (hp : p ≤ 24) (he : e ≤ 24) : ∃ (c : List (List Bool)) (T : Store), m__law_planted [.int p, .int e, .ref ld, .ref la] S = some (.ok (enc c), T) ∧ Good p e c ∧ Dr ld la ns T ∧ Gn la S T := by
  suffices key : ∃ r T, m__law_planted [.int p, .int e, .ref ld, .ref la] S = some (r, T) ∧ ∃ c, r = .ok (enc c) ∧ Good p e c ∧ Dr ld la ns T ∧ Gn la S T by
    obtain ⟨r, T, e, k, rfl, pr⟩ := key
    exact ⟨k, T, e, pr⟩
  refine mOf_wp rfl ?_
  unfold d__law_planted
  refine wp_seq (wpe_set (we_al (we_bits he h (fun T => ev_var rfl) (fun d T => ev_var rfl) (fun d T => ev_var rfl) (fun d T => ev_C) fun ab T1 hab h1 g1 => ?_)))
  generalize hl4 : T1.length = l4
  have s4 : S.length ≤ l4 := hl4 ▸ g1.1
  have e4 : (T1 ++ [SO.lst (ab.map bit)])[l4]? = some (.lst (ab.map bit)) := by subst hl4; simp
  replace h1 := h1.put (o := SO.lst (ab.map bit))
  replace g1 := g1.put (o := SO.lst (ab.map bit))
  generalize T1 ++ [SO.lst (ab.map bit)] = U1 at h1 g1 e4
  refine wp_seq (wpe_set (we_al (we_bits hp h1 (fun T => ev_var rfl) (fun d T => ev_var rfl) (fun d T => ev_var rfl) (fun d T => ev_C) fun un T2 hun h2 g2 => ?_)))
  have n4 := h.lt s4
  generalize hl5 : T2.length = l5
  have s5 : S.length ≤ l5 := hl5 ▸ Nat.le_trans g1.1 g2.1
  have n5 := h.lt s5
  have e5 : (T2 ++ [SO.lst (un.map bit)])[l5]? = some (.lst (un.map bit)) := by subst hl5; simp
  replace e4 := pre_get (pre_new T2 (SO.lst (un.map bit))) (g2.get e4 n4.2)
  replace h2 := h2.put (o := SO.lst (un.map bit))
  replace g2 := (g1.trans g2).put (o := SO.lst (un.map bit))
  generalize T2 ++ [SO.lst (un.map bit)] = U2 at h2 g2 e4 e5
  refine wp_seq (wp_setL (ev_lst ev_nil (by decide)) fun T3 l6 r3 s6 e6 => ?_)
  have l46 : l4 < l6 := Nat.lt_of_lt_of_le (List.getElem?_eq_some_iff.mp e4).1 s6
  have l56 : l5 < l6 := Nat.lt_of_lt_of_le (List.getElem?_eq_some_iff.mp e5).1 s6
  replace e4 := pre_get r3 e4
  replace e5 := pre_get r3 e5
  have n6 := h.lt (Nat.le_trans g2.1 s6)
  have s6' : S.length ≤ l6 := Nat.le_trans g2.1 s6
  have h3 := h2.pre r3
  have g3 := g2.trans (Gn.pre (la := la) r3)
  refine wp_seq (wp_for (ev_iR1 (ev_cons (ev_var rfl) ev_nil) (by omega)) (fun done ρ T => ∃ (a b c : Option D) (rs : List (List Bool)), ρ = [some (.int p), some (.int e), some (.ref ld), some (.ref la), some (.ref l4), some (.ref l5), some (.ref l6), a, b, c, none] ∧ Dr ld la ns T ∧ Gn la S T ∧ T[l4]? = some (.lst (ab.map bit)) ∧ T[l5]? = some (.lst (un.map bit)) ∧ T[l6]? = some (.lst (rs.map row)) ∧ Good done.length e rs)
    (fun _ _ _ _ q hq => by cases hq) (fun T r => ⟨none, none, none, [], rfl, h3.pre r, g3.trans (.pre r), pre_get r e4, pre_get r e5, pre_get r e6, rfl, fun _ z => by cases z⟩) ?_ ?_)
  · rintro done d rest ρ T ed ⟨a, b, c, rs, rfl, hT, gT, k4, k5, k6, gd⟩
    obtain ⟨pk, hpk, rfl⟩ := mem_dInts (mem_split ed)
    rw [Int.toNat_natCast] at hpk
    have hdone : done.length < 24 := by
      have := congrArg List.length ed
      rw [dInts_length, Int.toNat_natCast] at this
      simp at this
      omega
    refine ⟨_, T, rfl, wp_seq (wpe_set (we_al (we_list (we_row he hT (fun T => ev_var rfl) (fun T => ev_var rfl) (fun T => ev_var rfl) fun bs T4 hbs h4 g4 => ⟨bs.map bit, rfl, ?_⟩))))⟩
    generalize hl8 : T4.length = l8
    have s8 : T.length ≤ l8 := hl8 ▸ g4.1
    have l68 : l6 < l8 := Nat.lt_of_lt_of_le (List.getElem?_eq_some_iff.mp k6).1 s8
    have e8 : (T4 ++ [SO.lst (bs.map bit)])[l8]? = some (.lst (bs.map bit)) := by subst hl8; simp
    have j4 := pre_get (pre_new T4 (SO.lst (bs.map bit))) (g4.get k4 n4.2)
    have j5 := pre_get (pre_new T4 (SO.lst (bs.map bit))) (g4.get k5 n5.2)
    have j6 := pre_get (pre_new T4 (SO.lst (bs.map bit))) (g4.get k6 n6.2)
    replace h4 := h4.put (o := SO.lst (bs.map bit))
    replace g4 := (gT.trans g4).put (o := SO.lst (bs.map bit))
    generalize T4 ++ [SO.lst (bs.map bit)] = U4 at h4 g4 j4 j5 j6 e8
    have s8' : S.length ≤ l8 := by omega
    have n8 := h.lt s8'
    refine wp_seq (wp_for (ev_iR1 (ev_cons (ev_var rfl) ev_nil) (by omega)) (fun _ ρ T => ∃ (c : Option D) (bs : List Bool), ρ = [some (.int p), some (.int e), some (.ref ld), some (.ref la), some (.ref l4), some (.ref l5), some (.ref l6), some (.int (0 + (pk : Int))), some (.ref l8), c, none] ∧ Dr ld la ns T ∧ Gn la S T ∧ T[l4]? = some (.lst (ab.map bit)) ∧ T[l5]? = some (.lst (un.map bit)) ∧ T[l6]? = some (.lst (rs.map row)) ∧ T[l8]? = some (.lst (bs.map bit)) ∧ bs.length = e)
      (fun _ _ _ _ q hq => by cases hq) (fun T r => ⟨c, bs, rfl, h4.pre r, g4.trans (.pre r), pre_get r j4, pre_get r j5, pre_get r j6, pre_get r e8, hbs⟩) ?_ ?_)
    · rintro done2 d2 rest2 ρ T5 ed2 ⟨c2, bs2, rfl, h5, g5, i4, i5, i6, i8, hb2⟩
      obtain ⟨ek, hek, rfl⟩ := mem_dInts (mem_split ed2)
      rw [Int.toNat_natCast] at hek
      have a4 := bit_at (bs := ab) (k := ek) (by omega)
      have a5 := bit_at (bs := un) (k := pk) (by omega)
      have z4 : (0 : Int) + (ek : Int) = ek := by omega
      have z5 : (0 : Int) + (pk : Int) = pk := by omega
      refine ⟨_, T5, rfl, wp_if (b := !((if ab[ek] then (1 : Int) else 0) == (if un[pk] then 1 else 0))) (ev_T (ev_bin (ev_bin (ev_var rfl) (ev_var rfl) fun T r => ixR (pre_get r i4) (by rw [z4]; exact a4)) (ev_bin (ev_var rfl) (ev_var rfl) fun T r => ixR (pre_get r i5) (by rw [z5]; exact a5)) fun T r => neI)) (fun _ T6 r6 => ?_) (fun _ T6 r6 => ?_)⟩
      · refine wpe_setIx (we_ev (ev_bin (ev_var rfl) (ev_var rfl) fun T r => ixR (pre_get (r6.trans r) i4) (by rw [z4]; exact a4)) fun T7 r7 => we_var rfl (we_var rfl ⟨l8, 0 + (ek : Int), bs2.map bit, ek, rfl, rfl, pre_get (r6.trans r7) i8, by rw [z4]; exact ixN_nat (by simp; omega), ?_⟩))
        have r67 := r6.trans r7
        have hlt8 : l8 < T7.length := (List.getElem?_eq_some_iff.mp (pre_get r67 i8)).1
        refine ⟨_, bs2.set ek ab[ek], rfl, (h5.pre r67).set n8.1 n8.2, (g5.trans (.pre r67)).set s8', ?_, ?_, ?_, ?_, by rw [List.length_set]; exact hb2⟩
        · rw [List.getElem?_set_ne (by omega)]; exact pre_get r67 i4
        · rw [List.getElem?_set_ne (by omega)]; exact pre_get r67 i5
        · rw [List.getElem?_set_ne (by omega)]; exact pre_get r67 i6
        · rw [List.getElem?_set_self hlt8, List.map_set]
      · exact wp_nil ⟨_, bs2, rfl, h5.pre r6, g5.trans (.pre r6), pre_get r6 i4, pre_get r6 i5, pre_get r6 i6, pre_get r6 i8, hb2⟩
    · rintro ρ T5 ⟨c2, bs2, rfl, h5, g5, i4, i5, i6, i8, hb2⟩
      refine wpe_expr (we_apd (we_var rfl ⟨rfl, ⟨_, i6⟩, we_ev (ev_call (ev_cons (ev_var rfl) ev_nil) (fun T r => by simp only [p1L, pTuple, pre_get r i8]; rfl)) fun T6 r6 => ⟨rs.map row, pre_get r6 i6, by simp only [List.length_map, gd.picks]; omega, ?_⟩⟩))
      have hlt6 : l6 < T6.length := (List.getElem?_eq_some_iff.mp (pre_get r6 i6)).1
      refine ⟨_, _, _, rs ++ [bs2], rfl, (h5.pre r6).set n6.1 n6.2, (g5.trans (.pre r6)).set s6', ?_, ?_, ?_, ?_⟩
      · rw [List.getElem?_set_ne (by omega)]; exact pre_get r6 i4
      · rw [List.getElem?_set_ne (by omega)]; exact pre_get r6 i5
      · rw [List.getElem?_set_self hlt6, List.map_append]; rfl
      · refine ⟨by simp [gd.picks], fun r hr => ?_⟩
        rcases List.mem_append.mp hr with hr | hr
        · exact gd.ends r hr
        · cases List.mem_singleton.mp hr; exact hb2
  · rintro ρ T ⟨a, b, c, rs, rfl, hT, gT, k4, k5, k6, gd⟩
    rw [dInts_length, Int.toNat_natCast] at gd
    exact wp_ret (ev_call (ev_cons (ev_var rfl) ev_nil) (fun T r => by simp only [p1L, pTuple, pre_get r k6]; rfl)) fun T2 r2 => ⟨rs, rfl, gd, hT.pre r2, gT.trans (.pre r2)⟩

theorem one_ok (h : Dr ld la ns S) {lr : Nat} {rs : List D} (hr : S[lr]? = some (.lst rs)) (hn : lr ≠ la) (hp : 0 < rs.length) : ∃ (x : D) (T : Store), m__law_one [.ref lr, .ref ld, .ref la] S = some (.ok x, T) ∧ x ∈ rs ∧ Dr ld la ns T ∧ Gn la S T := by
  suffices key : ∃ r T, m__law_one [.ref lr, .ref ld, .ref la] S = some (r, T) ∧ ∃ x, r = .ok x ∧ x ∈ rs ∧ Dr ld la ns T ∧ Gn la S T by
    obtain ⟨r, T, e, k, rfl, pr⟩ := key
    exact ⟨k, T, e, pr⟩
  refine mOf_wp rfl ?_
  unfold d__law_one
  refine wpe_ret (we_bin (we_var rfl (we_app (we_ev (ev_cons (ev_var rfl) (ev_cons (ev_var rfl) (ev_cons (ev_call (ev_cons (ev_var rfl) ev_nil) fun T r => lenR (pre_get r hr)) ev_nil))) fun T r => ⟨rfl, ?_⟩))))
  obtain ⟨k, T', e, ⟨k0, k1⟩, hT, gT⟩ := take_ok (h.pre r) rs.length (by omega)
  obtain ⟨x, e1, e2, _⟩ := atI_in (xs := rs) k0 k1
  exact ⟨_, T', e, x, ixR (gT.get (pre_get r hr) hn) e1, x, rfl, e2, hT, (Gn.pre r).trans gT⟩
/-- lists of the store, each with its bits -/
inductive RB (T : Store) (la : Nat) : List D → List (List Bool) → Prop
  | nil : RB T la [] []
  | cons {l : Nat} {bs : List Bool} {ys : List D} {c : List (List Bool)} : T[l]? = some (.lst (bs.map bit)) → l ≠ la → RB T la ys c → RB T la (.ref l :: ys) (bs :: c)
theorem RB.mono {T U : Store} (g : ∀ l o, T[l]? = some o → l ≠ la → U[l]? = some o) : ∀ {ys : List D} {c : List (List Bool)}, RB T la ys c → RB U la ys c
  | _, _, .nil => .nil
  | _, _, .cons a b r => .cons (g _ _ a b) b (r.mono g)
theorem RB.snoc {T : Store} {l : Nat} {bs : List Bool} (a : T[l]? = some (.lst (bs.map bit))) (b : l ≠ la) : ∀ {ys : List D} {c : List (List Bool)}, RB T la ys c → RB T la (ys ++ [.ref l]) (c ++ [bs])
  | _, _, .nil => .cons a b .nil
  | _, _, .cons a' b' r => .cons a' b' (r.snoc a b)
theorem RB.length {T : Store} : ∀ {ys : List D} {c : List (List Bool)}, RB T la ys c → ys.length = c.length
  | _, _, .nil => rfl
  | _, _, .cons _ _ r => by rw [List.length_cons, List.length_cons, r.length]
def tupOf (T : Store) (d : D) : D := match d with
  | .ref l => match T[l]? with
    | some (.lst ds) => .tup ds
    | _ => .non
  | _ => .non
theorem RB.rows {T : Store} : ∀ {ys : List D} {c : List (List Bool)}, RB T la ys c → ys.map (tupOf T) = c.map row
  | _, _, .nil => rfl
  | _, _, .cons a b r => by
    rw [List.map_cons, List.map_cons, r.rows]
    simp only [tupOf, a, row]
theorem RB.mem {T : Store} : ∀ {ys : List D} {c : List (List Bool)} {d : D}, RB T la ys c → d ∈ ys → ∃ l ds, d = .ref l ∧ T[l]? = some (.lst ds)
  | _, _, _, .cons a b r, h => by
    rcases List.mem_cons.mp h with rfl | h
    · exact ⟨_, _, rfl, a⟩
    · exact r.mem h
theorem sized_ok (h : Dr ld la ns S) (p e : Nat) (hp : p ≤ 24) (he : e ≤ 24) (he0 : 0 < e) : ∃ (c : List (List Bool)) (T : Store), m__law_sized [.int p, .int e, .ref ld, .ref la] S = some (.ok (enc c), T) ∧ Good p e c ∧ Dr ld la ns T ∧ Gn la S T := by
  suffices key : ∃ r T, m__law_sized [.int p, .int e, .ref ld, .ref la] S = some (r, T) ∧ ∃ c, r = .ok (enc c) ∧ Good p e c ∧ Dr ld la ns T ∧ Gn la S T by
    obtain ⟨r, T, e, k, rfl, pr⟩ := key
    exact ⟨k, T, e, pr⟩
  refine mOf_wp rfl ?_
  unfold d__law_sized
  -- rows, each made anew
  have fresh : ∀ {ρ : Rho} {vs : List Nat} {i : Nat} {f0 f : EF D} {U : Store}, Dr ld la ns U → Gn la S U → (∀ T, Ev f0 ρ T (.int p)) → (∀ (k : Nat) T, Dr ld la ns T → (∀ l o, U[l]? = some o → l ≠ la → T[l]? = some o) → We f ((wipeR ρ vs).set i (some (.int (0 + (k : Int))))) T fun y T' => (∃ bs : List Bool, y = row bs ∧ bs.length = e) ∧ Dr ld la ns T' ∧ Gn la T T') →
      Wp (sRet (fNew qTuple (fComp (iR1 (fCons f0 fNil)) vs (gN i) tTrue f))) ρ U fun fl T => ∃ c, fl = .ret (enc c) ∧ Good p e c ∧ Dr ld la ns T ∧ Gn la S T := by
    intro ρ vs i f0 f U hU gU e0 hf
    refine wpe_ret (we_new (we_mapI (fun T => Dr ld la ns T ∧ Gn la U T) (fun y => ∃ bs : List Bool, y = row bs ∧ bs.length = e) (we_iR1 (we_ev (ev_cons (e0 U) ev_nil) fun T r => ⟨p, rfl, by omega, rfl, by rw [dInts_length]; omega, ⟨hU.pre r, .pre r⟩, ?_, ?_⟩))))
    · rintro d T hd ⟨a, b⟩
      obtain ⟨k, _, rfl⟩ := mem_dInts hd
      exact (hf k T a fun l o e1 e2 => b.get e1 e2).mono fun y T' ⟨q1, q2, q3⟩ => ⟨q1, q2, b.trans q3⟩
    · rintro ys T' hl hv ⟨hT, gT⟩
      obtain ⟨c, rfl, gd⟩ := rows_of hv
      rw [hl, dInts_length, Int.toNat_natCast] at gd
      exact ⟨_, rfl, c, rfl, gd, hT, gU.trans gT⟩
  have out : ∀ {b : SF} {ρ : Rho} {U : Store}, (Wp b ρ U fun fl T => ∃ c, fl = .ret (enc c) ∧ Good p e c ∧ Dr ld la ns T ∧ Gn la S T) →
      Wp b ρ U fun fl T => match fl with | .ret d => ∃ c, (Except.ok d : Except Ex D) = .ok (enc c) ∧ Good p e c ∧ Dr ld la ns T ∧ Gn la S T | .nx _ => ∃ c, (Except.ok D.non : Except Ex D) = .ok (enc c) ∧ Good p e c ∧ Dr ld la ns T ∧ Gn la S T | .exn x _ => ∃ c, (Except.error x : Except Ex D) = .ok (enc c) ∧ Good p e c ∧ Dr ld la ns T ∧ Gn la S T | _ => False := fun h => h.mono fun fl T q => by
    obtain ⟨c, rfl, q⟩ := q
    exact ⟨c, rfl, q⟩
  have thn : ∀ {b b2 : SF} {ρ : Rho} {U : Store} {Q : Fl → Store → Prop}, (Wp b ρ U fun fl T => ∃ c, fl = .ret (enc c) ∧ Good p e c ∧ Dr ld la ns T ∧ Gn la S T) → (∀ c T, Good p e c → Dr ld la ns T → Gn la S T → Q (.ret (enc c)) T) →
      Wp b ρ U fun fl T => match fl with | .nx ρ' => Wp b2 ρ' T Q | x => Q x T := fun h k => h.mono fun fl T q => by
    obtain ⟨c, rfl, q1, q2, q3⟩ := q
    exact k c T q1 q2 q3
  refine wp_seq (wpe_set (we_take (by decide) h (fun T => ev_var rfl) (fun T => ev_var rfl) (fun T => ev_C) fun ch T1 _ _ h1 g1 => ?_))
  refine wp_seq (wp_if (b := ch == 1) (ev_T (ev_bin (ev_var rfl) ev_C fun T r => eqI)) (fun _ T2 r2 => thn ?_ fun c T q1 q2 q3 => ⟨c, rfl, q1, q2, q3⟩) fun _ T2 r2 => wp_nil ?_)
  · -- a moved row
    refine wp_seq (wpe_set (we_row he (h1.pre r2) (fun T => ev_var rfl) (fun T => ev_var rfl) (fun T => ev_var rfl) fun bs T3 hb h3 g3 => ?_))
    refine wp_seq (wpe_set (we_take (by omega) h3 (fun T => ev_var rfl) (fun T => ev_var rfl) (fun T => ev_var rfl) fun st T4 s0 s1 h4 g4 => ?_))
    refine fresh h4 (((g1.trans (.pre r2)).trans g3).trans g4) (fun T => ev_var rfl) fun k T hT _ => ?_
    refine we_new (we_mapI (fun U => T <+: U) (fun y => ∃ k : Int, y = .int k ∧ 0 ≤ k ∧ k < 2) (we_iR1 (we_ev (ev_cons (ev_var rfl) ev_nil) fun T' r => ⟨e, rfl, by omega, rfl, by rw [dInts_length]; omega, r, ?_, ?_⟩)))
    · rintro d U hd hU
      obtain ⟨j, _, rfl⟩ := mem_dInts hd
      have hlen : (bs.map bit).length = e := by simp [hb]
      obtain ⟨y, e1, e2, _⟩ := atI_in (xs := bs.map bit) (i := ((0 + (j : Int)) + st * (0 + (k : Int))).fmod e) (Int.fmod_nonneg_of_pos _ (by omega)) (by rw [hlen]; exact Int.fmod_lt_of_pos _ (by omega))
      obtain ⟨b, _, rfl⟩ := List.mem_map.mp e2
      refine we_ev (ev_bin (ev_var rfl) (ev_bin (ev_call (ev_cons (ev_bin (ev_var rfl) (ev_bin (ev_var rfl) (ev_var rfl) fun T _ => mulL (by omega)) fun T _ => rfl) ev_nil) fun T _ => rfl) (ev_var rfl) fun T _ => modI (by omega)) fun T _ => ixT e1) fun U' r' => ⟨⟨_, rfl, ?_⟩, hU.trans r'⟩
      cases b <;> decide
    · rintro ys U hl hv hU
      obtain ⟨bs', rfl, hb'⟩ := bits_of hv
      rw [dInts_length, Int.toNat_natCast] at hl
      exact ⟨_, rfl, ⟨bs', rfl, by rw [hb', hl]⟩, hT.pre hU, .pre hU⟩
  refine wp_seq (wp_if (b := ch == 2) (ev_T (ev_bin (ev_var rfl) ev_C fun T r => eqI)) (fun _ T3 r3 => thn ?_ fun c T q1 q2 q3 => ⟨c, rfl, q1, q2, q3⟩) fun _ T3 r3 => wp_nil ?_)
  · -- a few rows
    have g3 := g1.trans (Gn.pre (la := la) (r2.trans r3))
    have h3 := h1.pre (r2.trans r3)
    refine wp_seq (wpe_set (we_al (we_mapI (fun T => Dr ld la ns T ∧ Gn la S T) (fun y => ∃ bs : List Bool, y = row bs ∧ bs.length = e) (we_iR1 (we_cons (we_bin (we_C (we_take (by decide) h3 (fun T => ev_var rfl) (fun T => ev_var rfl) (fun T => ev_C) fun n T4 n0 n1 h4 g4 => ⟨_, rfl, we_nil ⟨1 + n, rfl, by omega, rfl, by rw [dInts_length]; omega, ⟨h4, g3.trans g4⟩, ?_, ?_⟩⟩))))))))
    · rintro d T _ ⟨hT, gT⟩
      exact we_row he hT (fun T => ev_var rfl) (fun T => ev_var rfl) (fun T => ev_var rfl) fun bs T' hb hT' g' => ⟨⟨bs, rfl, hb⟩, hT', gT.trans g'⟩
    · rintro ys T' hl hv ⟨hT, gT⟩
      rw [dInts_length] at hl
      have hpos : 0 < ys.length := by omega
      generalize hl7 : T'.length = l7
      have s7 : S.length ≤ l7 := hl7 ▸ gT.1
      have e7 : (T' ++ [SO.lst ys])[l7]? = some (.lst ys) := by subst hl7; simp
      refine fresh hT.put gT.put (fun T => ev_var rfl) fun k T hT2 keep => ?_
      refine we_app (we_ev (ev_cons (ev_var rfl) (ev_cons (ev_var rfl) (ev_cons (ev_var rfl) ev_nil))) fun T5 r5 => ⟨rfl, ?_⟩)
      obtain ⟨x, T6, e6, hx, h6, g6⟩ := one_ok (hT2.pre r5) (pre_get r5 (keep _ _ e7 (h.lt s7).2)) (h.lt s7).2 hpos
      exact ⟨x, T6, e6, hv x hx, h6, (Gn.pre r5).trans g6⟩
  refine wp_seq (wp_if (b := ch == 3) (ev_T (ev_bin (ev_var rfl) ev_C fun T r => eqI)) (fun _ T4 r4 => thn ?_ fun c T q1 q2 q3 => ⟨c, rfl, q1, q2, q3⟩) fun _ T4 r4 => wp_nil ?_)
  · refine wpe_ret (we_app (we_ev (ev_cons (ev_var rfl) (ev_cons (ev_var rfl) (ev_cons (ev_var rfl) (ev_cons (ev_var rfl) ev_nil)))) fun T5 r5 => ⟨rfl, ?_⟩))
    have r25 := ((r2.trans r3).trans r4).trans r5
    obtain ⟨c, T6, e6, gd, h6, g6⟩ := planted_ok (h1.pre r25) p e hp he
    exact ⟨_, T6, e6, c, rfl, gd, h6, (g1.trans (.pre r25)).trans g6⟩
  have r24 := (r2.trans r3).trans r4
  have h4 := h1.pre r24
  have g4 := g1.trans (Gn.pre (la := la) r24)
  refine wp_seq (wp_if (b := ch == 4) (ev_T (ev_bin (ev_var rfl) ev_C fun T r => eqI)) (fun _ T5 r5 => thn ?_ fun c T q1 q2 q3 => ⟨c, rfl, q1, q2, q3⟩) fun _ T5 r5 => wp_nil ?_)
  · -- rare crossings
    refine wp_seq (wpe_set (we_take (by decide) (h4.pre r5) (fun T => ev_var rfl) (fun T => ev_var rfl) (fun T => ev_C) fun ra T6 ra0 ra1 h6 g6 => ?_))
    replace g6 := (g4.trans (.pre r5)).trans g6
    refine wp_seq (wpe_set (we_al (we_comp (we_iR1 (we_ev (ev_cons (ev_var rfl) ev_nil) fun T7 r7 => ⟨p, rfl, by omega, fun done acc T => acc.length = done.length ∧ (∃ c, RB T la acc c ∧ ∀ r ∈ c, r.length = e) ∧ Dr ld la ns T ∧ Gn la S T, fun _ _ _ _ q hq => (by cases hq), ⟨rfl, ⟨[], .nil, fun _ z => by cases z⟩, h6.pre r7, g6.trans (.pre r7)⟩, ?_, ?_⟩)))))
    · rintro done d rest acc T ed ⟨i1, ⟨c, i2, i2'⟩, i3, i4⟩
      have hdone : acc.length < 24 := by
        have := congrArg List.length ed
        simp only [List.length_append, List.length_cons, dInts_length, Int.toNat_natCast] at this
        omega
      refine ⟨_, T, rfl, true, T, rfl, fun _ => we_al (we_mapI (fun U => Dr ld la ns U ∧ Gn la T U) (fun y => ∃ k : Int, y = .int k ∧ 0 ≤ k ∧ k < 2) (we_iR1 (we_ev (ev_cons (ev_var rfl) ev_nil) fun T8 r8 => ⟨e, rfl, by omega, rfl, by rw [dInts_length]; omega, ⟨i3.pre r8, .pre r8⟩, ?_, ?_⟩))), fun z => by cases z⟩
      · rintro d2 U _ ⟨hU, gU⟩
        refine we_if (we_T (we_bin (we_take (by decide) hU (fun T => ev_var rfl) (fun T => ev_var rfl) (fun T => ev_C) fun k U' _ _ hU' gU' => we_C ⟨_, eqI, _, rfl, fun _ => we_var rfl ⟨⟨ra, rfl, ra0, ra1⟩, hU', gU.trans gU'⟩, fun _ => we_ev (ev_bin ev_C (ev_var rfl) fun T _ => rfl) fun U2 r2 => ⟨⟨1 - ra, rfl, by omega, by omega⟩, hU'.pre r2, (gU.trans gU').trans (.pre r2)⟩⟩)))
      · rintro ys U hl hv ⟨hU, gU⟩
        obtain ⟨bs, rfl, hb⟩ := bits_of hv
        rw [dInts_length, Int.toNat_natCast] at hl
        have sU : S.length ≤ U.length := Nat.le_trans i4.1 gU.1
        refine ⟨by omega, by simp [i1], ⟨c ++ [bs], RB.snoc (by simp) (h.lt sU).2 (i2.mono fun l o e1 e2 => pre_get (pre_new _ _) (gU.get e1 e2)), fun r hr => ?_⟩, hU.put, (i4.trans gU).put⟩
        rcases List.mem_append.mp hr with hr | hr
        · exact i2' r hr
        · cases List.mem_singleton.mp hr; rw [hb, hl]
    · rintro acc T ⟨i1, ⟨c, i2, i2'⟩, i3, i4⟩
      rw [dInts_length, Int.toNat_natCast] at i1
      generalize hl7 : T.length = l7
      have e7 : (T ++ [SO.lst acc])[l7]? = some (.lst acc) := by subst hl7; simp
      replace i2 := i2.mono (U := T ++ [SO.lst acc]) fun l o e1 e2 => pre_get (pre_new _ _) e1
      replace i3 := i3.put (o := SO.lst acc)
      replace i4 := i4.put (o := SO.lst acc)
      generalize T ++ [SO.lst acc] = U at i2 i3 i4 e7
      refine wp_ret (ev_new (ev_map (p := (acc, [(l7, acc)])) (ev_iE (ev_var rfl) fun T r => by simp only [walkOf, pre_get r e7]) (fun q hq => by cases List.mem_singleton.mp hq; exact e7) (tupOf U) (by show acc.length ≤ _; omega) fun d hd => ?_) fun T r => rfl) fun T9 r9 => ⟨c, by rw [i2.rows]; rfl, ⟨by rw [← i2.length]; exact i1, i2'⟩, i3.pre r9, i4.trans (.pre r9)⟩
      obtain ⟨l, ds, rfl, e8⟩ := i2.mem hd
      exact ⟨_, fun T _ => rfl, ev_call (ev_cons (ev_var rfl) ev_nil) fun T r => by simp only [p1L, pTuple, pre_get r e8, tupOf, e8]⟩
  exact out (fresh (h4.pre r5) (g4.trans (.pre r5)) (fun T => ev_var rfl) fun k T hT _ => we_row he hT (fun T => ev_var rfl) (fun T => ev_var rfl) (fun T => ev_var rfl) fun bs T' hb hT' g' => ⟨⟨bs, rfl, hb⟩, hT', g'⟩)
theorem cloth_ok (h : Dr ld la ns S) (most : Nat) (h0 : 0 < most) (h1 : most ≤ 24) : ∃ (p e : Nat) (c : List (List Bool)) (T : Store), m__law_cloth [.int most, .ref ld, .ref la] S = some (.ok (enc c), T) ∧ (1 ≤ p ∧ p ≤ 24) ∧ (1 ≤ e ∧ e ≤ 24) ∧ Good p e c ∧ Dr ld la ns T ∧ Gn la S T := by
  suffices key : ∃ r T, m__law_cloth [.int most, .ref ld, .ref la] S = some (r, T) ∧ ∃ (p e : Nat) (c : List (List Bool)), r = .ok (enc c) ∧ (1 ≤ p ∧ p ≤ 24) ∧ (1 ≤ e ∧ e ≤ 24) ∧ Good p e c ∧ Dr ld la ns T ∧ Gn la S T by
    obtain ⟨r, T, e, p, q, c, rfl, pr⟩ := key
    exact ⟨p, q, c, T, e, pr⟩
  refine mOf_wp rfl ?_
  unfold d__law_cloth
  refine wpe_ret (we_app (we_cons (we_bin (we_C (we_take (by omega) h (fun T => ev_var rfl) (fun T => ev_var rfl) (fun T => ev_var rfl) fun a T1 a0 a1 hT1 g1 => ⟨_, rfl, we_cons (we_bin (we_C (we_take (by omega) hT1 (fun T => ev_var rfl) (fun T => ev_var rfl) (fun T => ev_var rfl) fun b T2 b0 b1 hT2 g2 => ⟨_, rfl, we_ev (ev_cons (ev_var rfl) (ev_cons (ev_var rfl) ev_nil)) fun T3 r3 => ⟨rfl, ?_⟩⟩)))⟩)))))
  obtain ⟨p, rfl⟩ := Int.eq_ofNat_of_zero_le a0
  obtain ⟨e, rfl⟩ := Int.eq_ofNat_of_zero_le b0
  have ep : (1 : Int) + (p : Int) = ((1 + p : Nat) : Int) := by omega
  have ee : (1 : Int) + (e : Int) = ((1 + e : Nat) : Int) := by omega
  rw [ep, ee]
  obtain ⟨c, T4, e4, gd, h4, g4⟩ := sized_ok (hT2.pre r3) (1 + p) (1 + e) (by omega) (by omega) (by omega)
  exact ⟨_, T4, e4, 1 + p, 1 + e, c, rfl, ⟨by omega, by omega⟩, ⟨by omega, by omega⟩, gd, h4, ((g1.trans g2).trans (.pre r3)).trans g4⟩
end
end Lk36

set_option Elab.async false
set_option linter.all false
set_option maxRecDepth 100000
set_option maxHeartbeats 4000000
set_option autoImplicit false
namespace Lk36
open PySem L2 Sh
theorem we_slf {ρ : Rho} {S : Store} {i : Nat} {ds : List D} {k : Int} {Q : D → Store → Prop} (h : ρ[i]? = some (some (.fl ds))) (q : Q (.ref S.length) (S ++ [.lst (cutD ds none (some k))])) : We (fSl (fVar i) oNone (oSome (fC (.int k)))) ρ S Q :=
  ⟨_, _, by simp [fSl, fVar, h, oNone, oSome, fC], q⟩
theorem cut_take {α : Type} (xs : List α) (k : Nat) : cutD xs none (some (k : Int)) = xs.take k := by
  unfold cutD
  rw [HT.sIx_none, HT.sIx_nat]
  simp only [List.drop_zero, Nat.sub_zero]
  by_cases h : k ≤ xs.length
  · rw [Nat.min_eq_left h]
  · rw [Nat.min_eq_right (by omega), List.take_length, List.take_of_length_le (by omega)]
/-- draws.append(x) -/
theorem apd_ok {ρ : Rho} {T : Store} {l i : Nat} {ns : List Int} {x : Int} {g : EF D} {Q : Fl → Store → Prop} (h : ρ[i]? = some (some (.ref l))) (e : T[l]? = some (.lst (ns.map D.int))) (hl : ns.length < 16777216) (hg : Ev g ρ T (.int x))
    (q : ∀ T', T <+: T' → Q (.nx ρ) (T'.set l (.lst ((ns ++ [x]).map D.int)))) : Wp (sExpr (fApd (fVar i) g)) ρ T Q := by
  refine wpe_expr (we_apd (we_var h ⟨rfl, ⟨_, e⟩, we_ev hg fun T' r => ⟨_, pre_get r e, by simpa using hl, ?_⟩⟩))
  have := q T' r
  rwa [List.map_append] at this
theorem draws_ok (cells : List Int) (S : Store) : ∃ (ld : Nat) (ns : List Int) (T : Store), m__law_draws [.fl (cells.map D.int)] S = some (.ok (.ref ld), T) ∧ S <+: T ∧ T[ld]? = some (.lst (ns.map D.int)) := by
  suffices key : ∃ r T, m__law_draws [.fl (cells.map D.int)] S = some (r, T) ∧ ∃ (ld : Nat) (ns : List Int), r = .ok (.ref ld) ∧ S <+: T ∧ T[ld]? = some (.lst (ns.map D.int)) by
    obtain ⟨r, T, e, ld, ns, rfl, pr⟩ := key
    exact ⟨ld, ns, T, e, pr⟩
  refine mOf_wp rfl ?_
  unfold d__law_draws
  refine wp_seq (wp_setL (ev_lst ev_nil (by decide)) fun T1 l1 r1 s1 e1 => ?_)
  refine wp_seq (wpe_for (we_iE (we_slf rfl ?_)))
  have c1 : cutD (cells.map D.int) none (some 63) = (cells.take 63).map D.int := by rw [show (63 : Int) = ((63 : Nat) : Int) from rfl, cut_take, List.map_take]
  rw [c1]
  generalize hl2 : T1.length = l2
  have e2 : (T1 ++ [SO.lst ((cells.take 63).map D.int)])[l2]? = some (.lst ((cells.take 63).map D.int)) := by subst hl2; simp
  have l12 : l1 ≠ l2 := by have := (List.getElem?_eq_some_iff.mp e1).1; omega
  have r2 : S <+: T1 ++ [SO.lst ((cells.take 63).map D.int)] := r1.trans (pre_new _ _)
  replace e1 := pre_get (pre_new T1 (SO.lst ((cells.take 63).map D.int))) e1
  generalize T1 ++ [SO.lst ((cells.take 63).map D.int)] = U at e1 e2 r2
  generalize hc : (cells.take 63).map D.int = cs at e2
  have lc : cs.length ≤ 63 := by subst hc; simp; omega
  have allint : ∀ d ∈ cs, ∃ i : Int, d = .int i := fun d hd => by subst hc; obtain ⟨i, _, rfl⟩ := List.mem_map.mp hd; exact ⟨i, rfl⟩
  refine ⟨(cs, [(l2, cs)]), by simp only [walkOf, e2], fun done ρ T => ∃ (a b c d : Option D) (ns : List Int), ρ = [some (.fl (cells.map D.int)), some (.ref l1), a, b, c, d] ∧ S <+: T ∧ T[l2]? = some (.lst cs) ∧ T[l1]? = some (.lst (ns.map D.int)) ∧ ns.length ≤ 60 * done.length, ?_, ?_, ?_, ?_⟩
  · rintro n ρ T ⟨_, _, _, _, _, _, _, z, _⟩ q hq
    cases List.mem_singleton.mp hq
    exact z
  · exact ⟨none, none, none, none, [], rfl, r2, e2, e1, by simp⟩
  · rintro done d rest ρ T ed ⟨a, b, c, d', ns, rfl, rT, k2, k1, hl⟩
    have hdone : done.length < 63 := by
      have := congrArg List.length ed
      simp at this
      omega
    obtain ⟨i, rfl⟩ := allint d (mem_split ed)
    refine ⟨_, T, rfl, wp_seq (wp_set (ev_call (ev_cons (ev_var rfl) ev_nil) fun T r => rfl) fun T3 r3 => ?_)⟩
    generalize (if i < 0 then -i else i) = x
    have k1' := pre_get r3 k1
    have k2' := pre_get r3 k2
    have rT' := rT.trans r3
    refine wp_if (b := decide ((10 : Int) ^ (18 : Int).toNat ≤ x)) (ev_T (ev_bin (ev_var rfl) (ev_bin ev_C ev_C fun T r => by simp only [pI2, gPow]; rw [if_pos (by decide)]) fun T r => rfl)) (fun _ T4 r4 => ?_) (fun _ T4 r4 => ?_)
    · refine wp_for (ev_iR1 (ev_cons ev_C ev_nil) (by decide)) (fun dn ρ T => ∃ (y : Int) (c : Option D) (ns2 : List Int), ρ = [some (.fl (cells.map D.int)), some (.ref l1), some (.int i), some (.int y), c, d'] ∧ S <+: T ∧ T[l2]? = some (.lst cs) ∧ T[l1]? = some (.lst (ns2.map D.int)) ∧ ns2.length ≤ ns.length + dn.length)
        (fun _ _ _ _ q hq => by cases hq) (fun T r => ⟨x, c, ns, rfl, (rT'.trans r4).trans r, pre_get (r4.trans r) k2', pre_get (r4.trans r) k1', by simp⟩) ?_ ?_
      · rintro dn d2 rest2 ρ T5 ed2 ⟨y, c2, ns2, rfl, q1, q2, q3, q4⟩
        have hdn : dn.length < 60 := by
          have := congrArg List.length ed2
          rw [dInts_length] at this
          simp at this
          omega
        refine ⟨_, T5, rfl, wp_if (b := decide (0 < y)) (ev_T (ev_bin (ev_var rfl) ev_C fun T r => rfl)) (fun _ T6 r6 => ?_) (fun _ T6 r6 => wp_nil ⟨y, _, ns2, rfl, q1.trans r6, pre_get r6 q2, pre_get r6 q3, by simp; omega⟩)⟩
        refine wp_seq (apd_ok rfl (pre_get r6 q3) (by omega) (ev_bin (ev_call (ev_cons (ev_var rfl) ev_nil) fun T r => rfl) ev_C fun T r => modI (by decide)) fun T7 r7 => ?_)
        have hlt := (List.getElem?_eq_some_iff.mp (pre_get (r6.trans r7) q3)).1
        refine wp_set (ev_bin (ev_var rfl) ev_C fun T r => divI (by decide)) fun T8 r8 => ?_
        refine ⟨_, _, ns2 ++ [y.fmod 1009], rfl, (pre_set ((q1.trans r6).trans r7) s1).trans r8, pre_get r8 (by rw [List.getElem?_set_ne l12]; exact pre_get (r6.trans r7) q2), pre_get r8 (by rw [List.getElem?_set_self hlt]), by simp; omega⟩
      · rintro ρ T5 ⟨y, c2, ns2, rfl, q1, q2, q3, q4⟩
        rw [dInts_length] at q4
        have : (60 : Int).toNat = 60 := rfl
        exact ⟨_, _, _, _, ns2, rfl, q1, q2, q3, by simp; omega⟩
    · refine wp_seq (wp_set (ev_bin (ev_call (ev_cons (ev_bin (ev_bin (ev_var rfl) ev_C fun T _ => mulR (by decide)) ev_C fun T _ => rfl) ev_nil) fun T _ => rfl) ev_C fun T _ => modI (by decide)) fun T5 r5 => ?_)
      have r45 := r4.trans r5
      refine wp_for (ev_iR1 (ev_cons ev_C ev_nil) (by decide)) (fun dn ρ T => ∃ (y : Int) (c : Option D) (ns2 : List Int), ρ = [some (.fl (cells.map D.int)), some (.ref l1), some (.int i), some (.int x), c, some (.int y)] ∧ S <+: T ∧ T[l2]? = some (.lst cs) ∧ T[l1]? = some (.lst (ns2.map D.int)) ∧ ns2.length ≤ ns.length + dn.length)
        (fun _ _ _ _ q hq => by cases hq) (fun T r => ⟨_, c, ns, rfl, (rT'.trans r45).trans r, pre_get (r45.trans r) k2', pre_get (r45.trans r) k1', by simp⟩) ?_ ?_
      · rintro dn d2 rest2 ρ T6 ed2 ⟨y, c2, ns2, rfl, q1, q2, q3, q4⟩
        obtain ⟨k, hk, rfl⟩ := mem_dInts (mem_split ed2)
        have hdn : dn.length < 12 := by
          have := congrArg List.length ed2
          rw [dInts_length] at this
          simp at this
          omega
        refine ⟨_, T6, rfl, wp_seq (wp_set (ev_bin (ev_call (ev_cons (ev_bin (ev_bin (ev_bin (ev_var rfl) ev_C fun T _ => mulR (by decide)) (ev_bin ev_C (ev_var rfl) fun T _ => mulL (by decide)) fun T _ => rfl) ev_C fun T _ => rfl) ev_nil) fun T _ => rfl) ev_C fun T _ => modI (by decide)) fun T7 r7 => ?_)⟩
        refine apd_ok rfl (pre_get r7 q3) (by omega) (ev_bin (ev_var rfl) ev_C fun T r => divI (by decide)) fun T8 r8 => ?_
        have hlt := (List.getElem?_eq_some_iff.mp (pre_get (r7.trans r8) q3)).1
        exact ⟨_, _, ns2 ++ [_], rfl, pre_set ((q1.trans r7).trans r8) s1, by rw [List.getElem?_set_ne l12]; exact pre_get (r7.trans r8) q2, by rw [List.getElem?_set_self hlt], by simp; omega⟩
      · rintro ρ T6 ⟨y, c2, ns2, rfl, q1, q2, q3, q4⟩
        rw [dInts_length] at q4
        have : (12 : Int).toNat = 12 := rfl
        exact ⟨_, _, _, _, ns2, rfl, q1, q2, q3, by simp; omega⟩
  · rintro ρ T ⟨a, b, c, d, ns, rfl, rT, k2, k1, hl⟩
    exact wp_ret (ev_var rfl) fun T2 r => ⟨l1, ns, rfl, rT.trans r, pre_get r k1⟩
end Lk36

set_option autoImplicit false
namespace Lk36
/-! ### a line of crossings that goes round -/
def ln (l : List Bool) (q : Nat) : Bool := l.getD (q % l.length) false
def isPl (l : List Bool) (q : Nat) : Bool := ln l q != ln l (q + l.length - 1)
def plc (l : List Bool) (a : Nat) : List Nat := (List.range' a (l.length - a)).filter (isPl l)
structure IsRun (l : List Bool) (p L : Nat) : Prop where
  pos : 1 ≤ L
  same : ∀ m, 1 ≤ m → m < L → ln l (p + m) = ln l p
  diff : ln l (p + L) ≠ ln l p
theorem IsRun.unique {l : List Bool} {p L K : Nat} (a : IsRun l p L) (b : IsRun l p K) : L = K := by
  rcases Nat.lt_trichotomy L K with h | h | h
  · exact absurd (b.same L a.pos h) a.diff
  · exact h
  · exact absurd (a.same K b.pos h) b.diff
open Classical in
noncomputable def runL (l : List Bool) (p : Nat) : Nat := if h : ∃ L, IsRun l p L then Classical.choose h else 0
theorem runL_of {l : List Bool} {p L : Nat} (h : IsRun l p L) : runL l p = L := by
  have hx : ∃ L, IsRun l p L := ⟨L, h⟩
  unfold runL
  rw [dif_pos hx]
  exact (Classical.choose_spec hx).unique h
section
variable {l : List Bool}
theorem ln_add (q : Nat) : ln l (q + l.length) = ln l q := by unfold ln; rw [Nat.add_mod_right]
theorem ln_pred (h : 0 < l.length) {q : Nat} (hq : 1 ≤ q) : ln l (q + l.length - 1) = ln l (q - 1) := by
  rw [show q + l.length - 1 = (q - 1) + l.length by omega, ln_add]
theorem isPl_add (h : 0 < l.length) (q : Nat) : isPl l (q + l.length) = isPl l q := by
  unfold isPl
  rw [ln_add, show q + l.length + l.length - 1 = (q + l.length - 1) + l.length by omega, ln_add]
theorem isPl_false (h : 0 < l.length) {q : Nat} (hq : 1 ≤ q) (e : isPl l q = false) : ln l q = ln l (q - 1) := by
  unfold isPl at e
  rw [ln_pred h hq] at e
  simpa using e
theorem isPl_true (h : 0 < l.length) {q : Nat} (hq : 1 ≤ q) (e : isPl l q = true) : ln l q ≠ ln l (q - 1) := by
  unfold isPl at e
  rw [ln_pred h hq] at e
  simpa using e
theorem const_run (h : 0 < l.length) (a : Nat) : ∀ k, (∀ q, a < q → q ≤ a + k → isPl l q = false) → ln l (a + k) = ln l a
  | 0, _ => rfl
  | k + 1, hq => by
    have e := isPl_false h (q := a + (k + 1)) (by omega) (hq _ (by omega) (Nat.le_refl _))
    rw [e, show a + (k + 1) - 1 = a + k by omega]
    exact const_run h a k fun q q1 q2 => hq q q1 (by omega)
theorem run_to (h : 0 < l.length) {a b : Nat} (hab : a < b) (hn : ∀ q, a < q → q < b → isPl l q = false) (hb : isPl l b = true) : IsRun l a (b - a) := by
  refine ⟨by omega, fun m h1 h2 => const_run h a m fun q q1 q2 => hn q q1 (by omega), ?_⟩
  have e := isPl_true h (q := b) (by omega) hb
  rw [show a + (b - a) = b by omega]
  have e2 := const_run h a (b - 1 - a) fun q q1 q2 => hn q q1 (by omega)
  rw [show a + (b - 1 - a) = b - 1 by omega] at e2
  rw [← e2]
  exact e
theorem plc_step {a : Nat} (ha : a < l.length) : plc l a = if isPl l a = true then a :: plc l (a + 1) else plc l (a + 1) := by
  unfold plc
  rw [show l.length - a = (l.length - (a + 1)) + 1 by omega, List.range'_succ, List.filter_cons]
theorem plc_end {a : Nat} (ha : l.length ≤ a) : plc l a = [] := by
  unfold plc
  rw [show l.length - a = 0 by omega]
  rfl
theorem mem_plc {a q : Nat} : q ∈ plc l a ↔ a ≤ q ∧ q < l.length ∧ isPl l q = true := by
  unfold plc
  rw [List.mem_filter, List.mem_range'_1]
  constructor
  · rintro ⟨⟨h1, h2⟩, h3⟩
    exact ⟨h1, by omega, h3⟩
  · rintro ⟨h1, h2, h3⟩
    exact ⟨⟨h1, by omega⟩, h3⟩
theorem plc_head (a : Nat) : ∀ h t, plc l a = h :: t → a ≤ h ∧ h < l.length ∧ isPl l h = true ∧ ∀ q, a ≤ q → q < h → isPl l q = false := by
  intro h t e
  have hm : h ∈ plc l a := by rw [e]; exact List.mem_cons_self ..
  obtain ⟨h1, h2, h3⟩ := mem_plc.mp hm
  refine ⟨h1, h2, h3, fun q q1 q2 => ?_⟩
  have srt : (plc l a).Pairwise (· < ·) := by
    unfold plc
    exact List.Pairwise.filter _ List.pairwise_lt_range'
  cases hp : isPl l q with
  | false => rfl
  | true =>
    have hq : q ∈ plc l a := mem_plc.mpr ⟨q1, by omega, hp⟩
    rw [e] at hq srt
    rcases List.mem_cons.mp hq with rfl | hq
    · omega
    · have := (List.pairwise_cons.mp srt).1 q hq
      omega
/-- the next place behind each -/
theorem nexts (h : 0 < l.length) {p0 : Nat} {t0 : List Nat} (e0 : plc l 0 = p0 :: t0) : ∀ (n a : Nat), a + n = l.length → plc l a ≠ [] → (plc l a).tail ++ [p0 + l.length] = (plc l a).map fun p => p + runL l p
  | 0, a, e, hne => absurd (plc_end (by omega)) hne
  | n + 1, a, e, hne => by
    obtain ⟨_, _, k3, k4⟩ := plc_head 0 p0 t0 e0
    rw [plc_step (by omega)] at hne ⊢
    by_cases hp : isPl l a = true
    · rw [if_pos hp] at hne ⊢
      rw [List.tail_cons, List.map_cons]
      cases e1 : plc l (a + 1) with
      | nil =>
        have hge : p0 ≤ a := by
          have : a ∈ plc l 0 := mem_plc.mpr ⟨by omega, by omega, hp⟩
          rcases Nat.lt_or_ge a p0 with z | z
          · rw [k4 a (by omega) z] at hp; cases hp
          · exact z
        have r : IsRun l a (p0 + l.length - a) := run_to h (by omega) (fun q q1 q2 => by
          by_cases hq : q < l.length
          · cases hz : isPl l q with
            | false => rfl
            | true =>
              have : q ∈ plc l (a + 1) := mem_plc.mpr ⟨by omega, hq, hz⟩
              rw [e1] at this; cases this
          · rw [show q = (q - l.length) + l.length by omega, isPl_add h]
            exact k4 _ (by omega) (by omega)) (by rw [isPl_add h]; exact k3)
        rw [runL_of r, show a + (p0 + l.length - a) = p0 + l.length by omega]
        rfl
      | cons b t =>
        obtain ⟨b1, b2, b3, b4⟩ := plc_head (a + 1) b t e1
        have r : IsRun l a (b - a) := run_to h (by omega) (fun q q1 q2 => b4 q (by omega) q2) b3
        rw [runL_of r, show a + (b - a) = b by omega]
        have ih := nexts h e0 n (a + 1) (by omega) (by rw [e1]; exact List.cons_ne_nil _ _)
        rw [e1] at ih
        rw [← ih]
        rfl
    · rw [if_neg hp] at hne ⊢
      exact nexts h e0 n (a + 1) (by omega) hne
/-- each place has its run -/
theorem run_ex (h : 0 < l.length) {p : Nat} (hp : p ∈ plc l 0) : ∃ L, IsRun l p L := by
  obtain ⟨_, p2, p3⟩ := mem_plc.mp hp
  cases e0 : plc l 0 with
  | nil => rw [e0] at hp; cases hp
  | cons p0 t0 =>
  obtain ⟨_, _, k3, k4⟩ := plc_head 0 p0 t0 e0
  have hge : p0 ≤ p := by
    rcases Nat.lt_or_ge p p0 with z | z
    · rw [k4 p (by omega) z] at p3; cases p3
    · exact z
  cases e1 : plc l (p + 1) with
  | nil =>
    exact ⟨_, run_to (b := p0 + l.length) h (by omega) (fun q q1 q2 => by
      by_cases hq : q < l.length
      · cases hz : isPl l q with
        | false => rfl
        | true =>
          have : q ∈ plc l (p + 1) := mem_plc.mpr ⟨by omega, hq, hz⟩
          rw [e1] at this; cases this
      · rw [show q = (q - l.length) + l.length by omega, isPl_add h]
        exact k4 _ (by omega) (by omega)) (by rw [isPl_add h]; exact k3)⟩
  | cons b t =>
    obtain ⟨b1, b2, b3, b4⟩ := plc_head (p + 1) b t e1
    exact ⟨_, run_to h (by omega) (fun q q1 q2 => b4 q (by omega) q2) b3⟩
theorem runL_is (h : 0 < l.length) {p : Nat} (hp : p ∈ plc l 0) : IsRun l p (runL l p) := by
  obtain ⟨L, hL⟩ := run_ex h hp
  rw [runL_of hL]; exact hL
theorem runL_le (h : 0 < l.length) {p : Nat} (hp : p ∈ plc l 0) : runL l p ≤ l.length := by
  have r := runL_is h hp
  rcases Nat.lt_or_ge l.length (runL l p) with z | z
  · obtain ⟨_, _, p3⟩ := mem_plc.mp hp
    unfold isPl at p3
    have e := r.same (l.length - 1)
    by_cases h1 : 1 ≤ l.length - 1
    · have := e h1 (by omega)
      rw [show p + l.length - 1 = p + (l.length - 1) by omega, this] at p3
      simp at p3
    · have : l.length = 1 := by omega
      rw [this] at p3
      simp at p3
  · exact z
/-- the runs together -/
theorem run_sum (h : 0 < l.length) (hne : plc l 0 ≠ []) : ((plc l 0).map (runL l)).sum = l.length := by
  cases e0 : plc l 0 with
  | nil => exact absurd e0 hne
  | cons p0 t0 =>
  have nx := nexts h e0 l.length 0 (by omega) hne
  have s : ((plc l 0).tail ++ [p0 + l.length]).sum = ((plc l 0).map fun p => p + runL l p).sum := by rw [nx]
  have add : ∀ xs : List Nat, (xs.map fun p => p + runL l p).sum = xs.sum + (xs.map (runL l)).sum := by
    intro xs
    induction xs with
    | nil => rfl
    | cons x xs ih => simp only [List.map_cons, List.sum_cons, ih]; omega
  rw [add, e0] at s
  simp only [List.tail_cons, List.sum_append, List.sum_cons, List.sum_nil] at s
  simp only [List.map_cons, List.sum_cons] at s ⊢
  omega
/-- no place: all are alike -/
theorem flat_of (h : 0 < l.length) (e : plc l 0 = []) : l = List.replicate l.length (ln l 0) := by
  have np : ∀ q, q < l.length → isPl l q = false := fun q hq => by
    cases hz : isPl l q with
    | false => rfl
    | true =>
      have : q ∈ plc l 0 := mem_plc.mpr ⟨by omega, hq, hz⟩
      rw [e] at this; cases this
  refine List.ext_getElem (by simp) fun i h1 h2 => ?_
  have e2 := const_run h 0 i fun q q1 q2 => np q (by omega)
  rw [Nat.zero_add] at e2
  rw [List.getElem_replicate, ← e2]
  unfold ln
  rw [Nat.mod_eq_of_lt h1]
  simp [h1]
theorem plc_flat {b : Bool} {n : Nat} (e : l = List.replicate n b) : plc l 0 = [] := by
  unfold plc
  rw [List.filter_eq_nil_iff]
  intro q hq
  obtain ⟨_, hq⟩ := List.mem_range'_1.mp hq
  have hn : l.length = n := by rw [e]; simp
  have val : ∀ q, ln l q = b := fun q => by
    unfold ln
    have hpos : 0 < l.length := by omega
    have hlt := Nat.mod_lt q hpos
    generalize q % l.length = r at hlt
    subst e
    simp at hlt
    simp [hlt]
  unfold isPl
  rw [val, val]
  simp
end
end Lk36

set_option Elab.async false
set_option linter.all false
set_option maxRecDepth 100000
set_option maxHeartbeats 4000000
set_option autoImplicit false
namespace Lk36
open PySem L2 Sh
theorem lay_end : PyData.canLay0 (.str "end") = true := by decide +kernel
theorem lay_pick : PyData.canLay0 (.str "pick") = true := by decide +kernel
theorem lay_face : PyData.canLay0 (.str "face") = true := by decide +kernel
theorem lay_back : PyData.canLay0 (.str "back") = true := by decide +kernel
theorem lay_most : PyData.canLay0 (.str "most") = true := by decide +kernel
/-! ### the cloth's threads -/
structure Cl (p e : Nat) (c : List (List Bool)) : Prop extends Good p e c where
  p1 : 1 ≤ p
  p2 : p ≤ 24
  e1 : 1 ≤ e
  e2 : e ≤ 24
def side (b : Bool) : D := .str (if b then "face" else "back")
def encT (t : Bool × Nat) : D := .tup [.str (if t.1 then "end" else "pick"), .int t.2]
def threadsL (p e : Nat) : List (Bool × Nat) := (List.range e).map (fun i => (true, i)) ++ (List.range p).map fun i => (false, i)
def lineOf (c : List (List Bool)) (t : Bool × Nat) : List Bool := if t.1 = true then c.map fun r => r.getD t.2 false else (c.getD t.2 []).map not
def frow (t : Bool × Nat) (p : Nat) (L : Option Nat) (b : Bool) : D := .tup [encT t, .int p, (match L with | none => .non | some n => .int n), side b]
noncomputable def rowsL (t : Bool × Nat) (l : List Bool) : List D := if plc l 0 = [] then [frow t 0 none (ln l 0)] else (plc l 0).map fun p => frow t p (some (runL l p)) (ln l p)
theorem mem_threads {p e : Nat} {t : Bool × Nat} (h : t ∈ threadsL p e) : (t.1 = true ∧ t.2 < e) ∨ (t.1 = false ∧ t.2 < p) := by
  rcases List.mem_append.mp h with h | h
  · obtain ⟨i, hi, rfl⟩ := List.mem_map.mp h
    exact .inl ⟨rfl, List.mem_range.mp hi⟩
  · obtain ⟨i, hi, rfl⟩ := List.mem_map.mp h
    exact .inr ⟨rfl, List.mem_range.mp hi⟩
theorem line_pos {p e : Nat} {c : List (List Bool)} {t : Bool × Nat} (C : Cl p e c) (h : t ∈ threadsL p e) : 0 < (lineOf c t).length ∧ (lineOf c t).length ≤ 24 := by
  have h1 := C.picks
  have := C.p1; have := C.p2; have := C.e1; have := C.e2
  rcases mem_threads h with ⟨h2, h3⟩ | ⟨h2, h3⟩
  · simp [lineOf, h2]; omega
  · have hl : t.2 < c.length := by omega
    have := C.ends c[t.2] (List.getElem_mem hl)
    simp [lineOf, h2, hl]; omega
section
variable {S T : Store} {i : Int}
theorem strEq {x y : Str} (hx : PyData.canLay0 (.str x) = true) (hy : PyData.canLay0 (.str y) = true) : pEq (.str x) (.str y) S = okR (.bl (x == y)) S := rfl
theorem strNe {x y : Str} : pNe (.str x) (.str y) S = okR (.bl (!(x == y))) S := rfl
theorem blNe {a b : Bool} : pNe (.bl a) (.bl b) S = okR (.bl (a != b)) S := by
  simp [pNe, eqO, pyD, PyData.eqv, bne]
theorem blEq {a b : Bool} : pEq (.bl a) (.bl b) S = okR (.bl (a == b)) S := by
  simp [pEq, eqO, pyD, PyData.eqv]
theorem atI_bl {l : List Bool} {q : Nat} (h : q < l.length) : atI (l.map D.bl) (q : Int) = some (.bl (ln l q)) := by
  rw [atI_of (by simpa using h)]
  simp [ln, Nat.mod_eq_of_lt h, h]
theorem atI_pred {l : List Bool} {q : Nat} (h : q < l.length) : atI (l.map D.bl) ((q : Int) - 1) = some (.bl (ln l (q + l.length - 1))) := by
  by_cases h0 : q = 0
  · subst h0
    unfold atI ixN
    simp only [List.length_map]
    rw [if_neg (by omega), if_pos (by omega)]
    have e : ((0 : Nat) : Int) - 1 + (l.length : Int) = ((l.length - 1 : Nat) : Int) := by omega
    rw [e]
    have h1 : l.length - 1 < l.length := by omega
    simp [ln, Nat.mod_eq_of_lt h1, h1]
  · rw [show (q : Int) - 1 = ((q - 1 : Nat) : Int) by omega, atI_bl (by omega), ln_pred (by omega) (by omega)]
theorem atI_row {bs : List Bool} {k : Nat} (hk : k < bs.length) : atI (bs.map bit) (k : Int) = some (bit (bs.getD k false)) := by
  rw [bit_at hk]
  simp [hk]
theorem atI_rows {c : List (List Bool)} {k : Nat} (hk : k < c.length) : atI (c.map row) (k : Int) = some (row (c.getD k [])) := by
  rw [atI_of (by simpa using hk)]
  simp [hk]
end
theorem wp_tp2 {ρ : Rho} {S : Store} {f : EF D} {a b : D} {i j : Nat} {Q : Fl → Store → Prop} (h : Ev f ρ S (.tup [a, b])) (k : ∀ T, S <+: T → Q (.nx ((ρ.set i (some a)).set j (some b))) T) : Wp (sAsg f (gTp 2 (gCn (gN i) (gCn (gN j) gNl)))) ρ S Q := by
  obtain ⟨T, p, e⟩ := h.here
  refine ⟨_, T, ?_, k T p⟩
  simp [sAsg, e, gTp, gCn, gN, gNl]
section
variable {p e : Nat} {c : List (List Bool)} {t : Bool × Nat}
theorem name_ok (b : Bool) (S : Store) : Pu m__name_of [.bl b] S (side b) := by
  refine pu_of rfl fun S' r => ?_
  unfold d__name_of
  refine wp_ret (ev_if (b := b) (ev_Tru (ev_var rfl) fun T _ => rfl) (fun hb => ?_) (fun hb => ?_)) fun T r => ⟨rfl, r⟩
  · subst hb; exact ev_C
  · subst hb; exact ev_C
theorem sides_ok (C : Cl p e c) (ht : t ∈ threadsL p e) (S : Store) : ∃ (l : Nat) (T : Store), m__sides_of [enc c, encT t] S = some (.ok (.ref l), T) ∧ S <+: T ∧ T[l]? = some (.lst ((lineOf c t).map D.bl)) := by
  suffices key : ∃ r T, m__sides_of [enc c, encT t] S = some (r, T) ∧ ∃ l, r = .ok (.ref l) ∧ S <+: T ∧ T[l]? = some (.lst ((lineOf c t).map D.bl)) by
    obtain ⟨r, T, e, l, rfl, pr⟩ := key
    exact ⟨l, T, e, pr⟩
  refine mOf_wp rfl ?_
  unfold d__sides_of
  have hc := C.picks
  refine wp_seq (wp_tp2 (ev_var rfl) fun T1 r1 => ?_)
  rcases mem_threads ht with ⟨h1, h2⟩ | ⟨h1, h2⟩
  · have he : encT t = .tup [.str "end", .int t.2] := by simp [encT, h1]
    refine wp_seq (wp_if (b := true) (ev_T (ev_bin (ev_var (by simp [encT, h1]; rfl)) ev_C fun T r => strEq (x := "end") (y := "end") lay_end lay_end)) (fun _ T2 r2 => ?_) (fun z => by cases z))
    refine wp_retL (ev_map (p := (c.map row, [])) (ev_iE (ev_var rfl) fun T r => rfl) (fun q hq => by cases hq) (fun d => match d with | .tup bs => (match atI bs t.2 with | some (.int k) => .bl (k == 1) | _ => .non) | _ => .non) (by simp; have := C.p2; omega) fun d hd => ?_) fun T3 l3 r3 s3 e3 => ⟨l3, rfl, (r1.trans r2).trans r3, ?_⟩
    · obtain ⟨r, hr, rfl⟩ := List.mem_map.mp hd
      have hk : t.2 < r.length := by rw [C.ends r hr]; exact h2
      refine ⟨_, fun T _ => rfl, ev_bin (ev_bin (ev_var rfl) (ev_var rfl) fun T _ => ixT (atI_row hk)) ev_C fun T _ => ?_⟩
      simp only [atI_row hk, row, bit]
      exact eqI
    · rw [e3]
      simp only [lineOf, h1, if_true, List.map_map]
      congr 2
      refine List.map_congr_left fun r hr => ?_
      have hk : t.2 < r.length := by rw [C.ends r hr]; exact h2
      simp only [Function.comp, row, atI_row hk, bit]
      cases r.getD t.2 false <;> rfl
  · refine wp_seq (wp_if (b := false) (ev_T (ev_bin (ev_var (by simp [encT, h1]; rfl)) ev_C fun T r => strEq (x := "pick") (y := "end") lay_pick lay_end)) (fun z => by cases z) (fun _ T2 r2 => wp_nil ?_))
    have hk : t.2 < c.length := by omega
    refine wp_retL (ev_map (p := ((c.getD t.2 []).map bit, [])) (ev_iE (ev_bin (ev_var rfl) (ev_var rfl) fun T _ => ixT (atI_rows hk)) fun T r => rfl) (fun q hq => by cases hq) (fun d => match d with | .int k => .bl (k == 0) | _ => .non) ?_ fun d hd => ?_) fun T3 l3 r3 s3 e3 => ⟨l3, rfl, (r1.trans r2).trans r3, ?_⟩
    · have h3 := (line_pos C ht).2
      simp [lineOf, h1] at h3 ⊢
      omega
    · obtain ⟨b, hb, rfl⟩ := List.mem_map.mp hd
      exact ⟨_, fun T _ => rfl, ev_bin (ev_var rfl) ev_C fun T _ => eqI⟩
    · rw [e3]
      simp only [lineOf, h1, Bool.false_eq_true, if_false, List.map_map]
      congr 2
      refine List.map_congr_left fun b hb => ?_
      simp only [Function.comp, bit]
      cases b <;> rfl
end
end Lk36

set_option Elab.async false
set_option linter.all false
set_option maxRecDepth 100000
set_option maxHeartbeats 4000000
set_option autoImplicit false
namespace Lk36
open PySem L2 Sh
/-- *xs[1:] among the items -/
theorem ev_star1 {ρ : Rho} {S : Store} {i l : Nat} {g : EF (List D)} {ds es : List D} (h : ρ[i]? = some (some (.ref l))) (e : S[l]? = some (.lst ds)) (b : Ev g ρ S es) : Ev (fStar (fSl (fVar i) (oSome (fC (.int 1))) oNone) g) ρ S (ds.drop 1 ++ es) := fun T p => by
  have c : cutD ds (some 1) none = ds.drop 1 := by
    unfold cutD
    rw [show (1 : Int) = ((1 : Nat) : Int) from rfl, HT.sIx_nat, HT.sIx_none]
    cases ds with
    | nil => rfl
    | cons d ds => simp
  obtain ⟨T2, p2, e2⟩ := (b.up (p.trans (pre_new T (.lst (ds.drop 1))))) _ (pre_self _)
  refine ⟨T2, (pre_new _ _).trans p2, ?_⟩
  have eT := pre_get p e
  simp only [fStar, fSl, fVar, h, oSome, oNone, fC, bindR_ok, eT, c, seqOf, List.getElem?_concat_length, e2]
theorem ev_iZip {ρ : Rho} {S : Store} {g : EF (List D)} {l m : Nat} {xs ys : List D} (a : Ev g ρ S [.ref l, .ref m]) (h1 : S[l]? = some (.lst xs)) (h2 : S[m]? = some (.lst ys)) : Ev (iZip g) ρ S (zipD xs ys, [(l, xs), (m, ys)]) :=
  ev_bind a fun T q => ⟨T, pre_self T, by simp only [listSrc, pre_get q h1, pre_get q h2]; rfl⟩
section
variable {p e : Nat} {c : List (List Bool)} {t : Bool × Nat}
theorem filter_places {l : List Bool} : (dInts 0 (Int.toNat (l.length : Int))).filter (fun d => match d with | .int i => isPl l i.toNat | _ => false) = (plc l 0).map fun q => D.int (q : Nat) := by
  unfold dInts plc
  rw [Int.toNat_natCast, List.filter_map, Nat.sub_zero, ← List.range_eq_range']
  have h1 : (fun i : Nat => D.int (0 + (i : Int))) = fun i : Nat => D.int (i : Nat) := by funext i; simp
  rw [h1]
  congr 1
theorem floats_of_ok (C : Cl p e c) (ht : t ∈ threadsL p e) (S : Store) : ∃ (l : Nat) (T : Store), m__floats_of [enc c, encT t] S = some (.ok (.ref l), T) ∧ S <+: T ∧ S.length ≤ l ∧ T[l]? = some (.lst (rowsL t (lineOf c t))) := by
  suffices key : ∃ r T, m__floats_of [enc c, encT t] S = some (r, T) ∧ ∃ l, r = .ok (.ref l) ∧ S <+: T ∧ S.length ≤ l ∧ T[l]? = some (.lst (rowsL t (lineOf c t))) by
    obtain ⟨r, T, e, l, rfl, pr⟩ := key
    exact ⟨l, T, e, pr⟩
  refine mOf_wp rfl ?_
  unfold d__floats_of
  obtain ⟨pos, le24⟩ := line_pos C ht
  refine wp_seq (wpe_set (we_app (we_ev (ev_cons (ev_var rfl) (ev_cons (ev_var rfl) ev_nil)) fun T1 r1 => ⟨rfl, ?_⟩)))
  obtain ⟨l2, T2, e2, r2, k2⟩ := sides_ok C ht T1
  refine ⟨_, T2, e2, ?_⟩
  generalize lineOf c t = l at pos le24 k2
  have len : ((l.map D.bl).length : Int) = (l.length : Int) := by simp
  -- places
  refine wp_seq (wp_setL (ev_comp (p := (dInts 0 (Int.toNat (l.length : Int)), [])) (ev_iR1 (ev_cons (ev_call (ev_cons (ev_var rfl) ev_nil) fun T r => (by rw [← len]; exact lenR (pre_get r k2))) ev_nil) (by omega)) (fun q hq => by cases hq) (fun d => match d with | .int i => isPl l i.toNat | _ => false) (fun d => d) (by rw [dInts_length]; omega) fun d hd => ?_) fun T3 l3 r3 s3 k3 => ?_)
  · obtain ⟨q, hq, rfl⟩ := mem_dInts hd
    rw [Int.toNat_natCast] at hq
    have z : (0 : Int) + (q : Int) = (q : Int) := by omega
    refine ⟨_, fun T _ => rfl, ?_, fun _ => ev_var rfl⟩
    refine ev_T (ev_bin (ev_bin (ev_var rfl) (ev_var rfl) fun T r => ixR (pre_get r k2) (by rw [z]; exact atI_bl hq)) (ev_bin (ev_var rfl) (ev_bin (ev_var rfl) ev_C fun T r => rfl) fun T r => ixR (pre_get r k2) (by rw [z]; exact atI_pred hq)) fun T r => ?_)
    rw [blNe, z]
    rfl
  rw [filter_places, List.map_id'] at k3
  have k2' := pre_get r3 k2
  have s23 := (r1.trans r2).trans r3
  refine wp_seq (wp_if (b := !(!((plc l 0).map fun q => D.int (q : Nat)).isEmpty)) (ev_not (ev_Tru (ev_var rfl) fun T r => by simp only [truO, pre_get r k3])) (fun hb T4 r4 => ?_) (fun hb T4 r4 => wp_nil ?_))
  · have hn : plc l 0 = [] := by
      cases h0 : plc l 0 with
      | nil => rfl
      | cons a b => rw [h0] at hb; simp at hb
    refine wp_retL (ev_lst (ev_cons (ev_tup (ev_cons (ev_var rfl) (ev_cons ev_C (ev_cons ev_C (ev_cons (ev_app (ev_cons (ev_bin (ev_var rfl) ev_C fun T r => ixR (pre_get (r4.trans r) k2') (atI_bl (q := 0) pos)) ev_nil) rfl (name_ok _ _)) ev_nil)))) (by show 4 ≤ 16777216; omega)) ev_nil) (by show 1 ≤ 16777216; omega)) fun T5 l5 r5 s5 k5 => ⟨l5, rfl, (s23.trans r4).trans r5, Nat.le_trans (s23.trans r4).length_le s5, ?_⟩
    rw [k5]
    unfold rowsL
    rw [if_pos hn]
    rfl
  · have hn : plc l 0 ≠ [] := by
      intro h0
      rw [h0] at hb
      simp at hb
    cases h0 : plc l 0 with
    | nil => exact absurd h0 hn
    | cons p0 t0 =>
    have nx := nexts pos h0 l.length 0 (by omega) hn
    have k3' := pre_get r4 k3
    have k2'' := pre_get r4 k2'
    have at0 : atI ((plc l 0).map fun q => D.int (q : Nat)) 0 = some (.int (p0 : Nat)) := by
      rw [h0]
      exact atI_nat (j := 0) rfl
    refine wp_seq (wp_setL (ev_lst (ev_star1 rfl k3' (ev_cons (ev_bin (ev_bin (ev_var rfl) ev_C fun T r => ixR (pre_get r k3') at0) (ev_call (ev_cons (ev_var rfl) ev_nil) fun T r => lenR (pre_get r k2'')) fun T r => rfl) ev_nil)) ?_) fun T5 l5 r5 s5 k5 => ?_)
    · have : (plc l 0).length ≤ l.length := by
        unfold plc
        refine Nat.le_trans (List.length_filter_le _ _) ?_
        rw [List.length_range']
        omega
      simp
      omega
    have k5' : T5[l5]? = some (.lst ((plc l 0).map fun q => D.int ((q + runL l q : Nat) : Int))) := by
      rw [k5]
      have h1 : (((plc l 0).map fun q => D.int (q : Nat)).drop 1 ++ [D.int ((p0 : Int) + ((l.map D.bl).length : Int))]) = ((plc l 0).tail ++ [p0 + l.length]).map fun q => D.int ((q : Nat) : Int) := by
        rw [List.map_append, len]
        simp
      rw [h1, nx, List.map_map]
      rfl
    have k3'' := pre_get r5 k3'
    have k2''' := pre_get r5 k2''
    have hz : zipD ((plc l 0).map fun q => D.int (q : Nat)) ((plc l 0).map fun q => D.int ((q + runL l q : Nat) : Int)) = (plc l 0).map fun q => D.tup [.int (q : Nat), .int ((q + runL l q : Nat) : Int)] := by
      unfold zipD
      rw [List.zipWith_map]
      have : ∀ xs : List Nat, List.zipWith (fun a b : Nat => D.tup [.int (a : Nat), .int ((b + runL l b : Nat) : Int)]) xs xs = xs.map fun q => D.tup [.int (q : Nat), .int ((q + runL l q : Nat) : Int)] := by
        intro xs
        induction xs with
        | nil => rfl
        | cons x xs ih => simp only [List.zipWith_cons_cons, List.map_cons, ih]
      exact this _
    refine wp_retL (ev_map (ev_iZip (ev_cons (ev_var rfl) (ev_cons (ev_var rfl) ev_nil)) k3'' k5') (fun q hq => ?_) (fun d => match d with | .tup [.int q, .int r] => .tup [encT t, .int q, .int (r - q), side (ln l q.toNat)] | _ => .non) ?_ fun d hd => ?_) fun T6 l6 r6 s6 k6 => ⟨l6, rfl, ((s23.trans r4).trans r5).trans r6, Nat.le_trans ((s23.trans r4).trans r5).length_le s6, ?_⟩
    · simp only [List.mem_cons, List.not_mem_nil, or_false] at hq
      rcases hq with rfl | rfl
      · exact k3''
      · exact k5'
    · have : (plc l 0).length ≤ l.length := by
        unfold plc
        refine Nat.le_trans (List.length_filter_le _ _) ?_
        rw [List.length_range']
        omega
      rw [hz, List.length_map]
      omega
    · rw [hz] at hd
      obtain ⟨q, hq, rfl⟩ := List.mem_map.mp hd
      obtain ⟨_, q2, _⟩ := mem_plc.mp hq
      refine ⟨_, fun T _ => rfl, ev_tup (ev_cons (ev_var rfl) (ev_cons (ev_var rfl) (ev_cons (ev_bin (ev_var rfl) (ev_var rfl) fun T _ => rfl) (ev_cons (ev_app (ev_cons (ev_bin (ev_var rfl) (ev_var rfl) fun T r => ixR (pre_get r k2''') (atI_bl q2)) ev_nil) rfl (name_ok _ _)) ev_nil)))) (by show 4 ≤ 16777216; omega)⟩
    · rw [k6, hz, List.map_map]
      unfold rowsL
      rw [if_neg hn]
      congr 2
      refine List.map_congr_left fun q hq => ?_
      have hd : ((q + runL l q : Nat) : Int) - (q : Int) = (runL l q : Int) := by omega
      simp only [Function.comp, frow, Int.toNat_natCast, hd]
end
end Lk36

set_option Elab.async false
set_option linter.all false
set_option maxRecDepth 100000
set_option maxHeartbeats 4000000
set_option autoImplicit false
namespace Lk36
open PySem L2 Sh
theorem allB_map : ∀ (bs : List Bool), allB (bs.map D.bl) = some bs
  | [] => rfl
  | b :: bs => by simp [allB, allB_map bs]
theorem qAll_map (bs : List Bool) (S : Store) : qAll (bs.map D.bl) S = okR (.bl (bs.all id)) S := by simp [qAll, allB_map]
theorem qAll_true {α : Type} (xs : List α) (S : Store) : qAll (xs.map fun _ => D.bl true) S = okR (.bl true) S := by
  have h : (xs.map fun _ => D.bl true) = (xs.map fun _ => true).map D.bl := by simp
  rw [h, qAll_map]
  simp
theorem isiT (xs : List D) (S : Store) : pIsi "tuple" (.tup xs) S = okR (.bl true) S := rfl
theorem int_ok (k : Int) (S : Store) : Pu m_is_integer [.int k] S (.bl true) := by
  refine pu_of rfl fun S' r => ?_
  unfold d_is_integer
  exact wp_ret (ev_un (ev_var rfl) fun T _ => rfl) fun T r => ⟨rfl, r⟩
theorem num_ok (k a b : Int) (S : Store) : Pu m_is_number [.int k, .int a, .int b] S (.bl (decide (a ≤ k) && decide (k ≤ b))) := by
  refine pu_of rfl fun S' r => ?_
  unfold d_is_number
  refine wp_ret (ev_fAnd (b := true) (ev_app (ev_cons (ev_var rfl) ev_nil) rfl (int_ok _ _)) rfl (fun _ => ?_) (fun z => by cases z)) fun T r => ⟨rfl, r⟩
  refine ev_chain (b := decide (a ≤ k)) (k := .int b) (ev_var rfl) (ev_var rfl) (fun T _ => rfl) (fun h => ⟨ev_var rfl, fun T _ => ?_⟩) (fun h => by rw [h]; rfl)
  rw [h]
  rfl
theorem num_not {d : D} {S : Store} {K : String} (hk : ∀ T, S <+: T → kindO d T = some K) (hK : K ≠ "int") (a b : D) : Pu m_is_number [d, a, b] S (.bl false) := by
  refine pu_of rfl fun S' r => ?_
  unfold d_is_number
  refine wp_ret (ev_fAnd (b := false) (ev_app (ev_cons (ev_var rfl) ev_nil) rfl (z := .bl false) ?_) rfl (fun z => by cases z) (fun _ => rfl)) fun T r => ⟨rfl, r⟩
  refine pu_of rfl fun S2 r2 => ?_
  unfold d_is_integer
  exact wp_ret (ev_un (ev_var rfl) fun T r3 => by simp only [pTyIs, hk T ((r.trans r2).trans r3), decide_eq_false hK]) fun T r => ⟨rfl, r⟩
section
variable {p e : Nat} {c : List (List Bool)}
theorem fault_ok (C : Cl p e c) (S : Store) : Pu m__fault_of_cloth [enc c] S .non := by
  have hp := C.picks
  have p1 := C.p1; have p2 := C.p2; have e1 := C.e1; have e2 := C.e2
  refine pu_of rfl fun S' r => ?_
  unfold d__fault_of_cloth
  have tl : (c.map row).length = p := by simp [hp]
  refine wp_seq (wp_if (b := (!true) || (!true)) (ev_or (ev_not (ev_Tru (ev_un (ev_var rfl) fun T _ => isiT _ _) fun T _ => rfl)) fun _ => ev_not (ev_Tru (ev_new (ev_map (p := (c.map row, [])) (ev_iE (ev_var rfl) fun T _ => rfl) (fun q hq => by cases hq) (fun _ => .bl true) (by show (c.map row).length ≤ _; omega) fun d hd => ?_) fun T _ => qAll_true _ _) fun T _ => rfl)) (fun z => by cases z) (fun _ T1 r1 => wp_nil ?_))
  · obtain ⟨x, _, rfl⟩ := List.mem_map.mp hd
    exact ⟨_, fun T _ => rfl, ev_un (ev_var rfl) fun T _ => isiT _ _⟩
  refine wp_seq (wp_if (b := !true) (ev_not (ev_T (ev_chain (b := true) (k := .int 24) ev_C (ev_call (ev_cons (ev_var rfl) ev_nil) fun T _ => rfl) (fun T _ => ?_) (fun _ => ⟨ev_C, fun T _ => ?_⟩) (fun z => by cases z)))) (fun z => by cases z) (fun _ T2 r2 => wp_nil ?_))
  · simp only [pI2, gLe, tl]; rw [decide_eq_true (by omega)]
  · simp only [pI2, gLe, tl]; rw [decide_eq_true (by omega)]
  have h0 : 0 < c.length := by omega
  have hr0 := C.ends c[0] (List.getElem_mem h0)
  have at0 : atI (c.map row) 0 = some (row c[0]) := by
    have := atI_rows (c := c) (k := 0) h0
    simp only [List.getD_eq_getElem?_getD, List.getElem?_eq_getElem h0] at this
    exact this
  have len0 : (((c[0].map bit).length : Nat) : Int) = e := by simp [hr0]
  refine wp_seq (wp_set (ev_call (ev_cons (ev_bin (ev_var rfl) ev_C fun T _ => ixT at0) ev_nil) fun T _ => rfl) fun T3 r3 => ?_)
  rw [len0]
  refine wp_seq (wp_if (b := (!true) || (!true)) (ev_or (ev_not (ev_T (ev_chain (b := true) (k := .int 24) ev_C (ev_var rfl) (fun T _ => ?_) (fun _ => ⟨ev_C, fun T _ => ?_⟩) (fun z => by cases z)))) fun _ => ev_not (ev_Tru (ev_new (ev_map (p := (c.map row, [])) (ev_iE (ev_var rfl) fun T _ => rfl) (fun q hq => by cases hq) (fun _ => .bl true) (by show (c.map row).length ≤ _; omega) fun d hd => ?_) fun T _ => qAll_true _ _) fun T _ => rfl)) (fun z => by cases z) (fun _ T4 r4 => wp_nil ?_))
  · simp only [pI2, gLe]; rw [decide_eq_true (by omega)]
  · simp only [pI2, gLe]; rw [decide_eq_true (by omega)]
  · obtain ⟨x, hx, rfl⟩ := List.mem_map.mp hd
    have hl : (((x.map bit).length : Nat) : Int) = e := by simp [C.ends x hx]
    refine ⟨_, fun T _ => rfl, ev_bin (ev_call (ev_cons (ev_var rfl) ev_nil) fun T _ => rfl) (ev_var rfl) fun T _ => ?_⟩
    rw [eqI, hl]
    simp
  refine wp_seq (wp_for (p := (c.map row, [])) (ev_iE (ev_var rfl) fun T _ => rfl) (fun _ ρ T => ∃ a b : Option D, ρ = [some (enc c), some (.int e), a, b] ∧ S' <+: T) (fun _ _ _ _ q hq => by cases hq) (fun T r5 => ⟨none, none, rfl, (((r1.trans r2).trans r3).trans r4).trans r5⟩) ?_ ?_)
  · rintro done d rest ρ T ed ⟨a, b, rfl, rT⟩
    obtain ⟨x, hx, rfl⟩ := List.mem_map.mp (mem_split ed)
    have hl := C.ends x hx
    refine ⟨_, T, rfl, wp_if (b := !true) (ev_not (ev_Tru (ev_new (ev_map (p := (x.map bit, [])) (ev_iE (ev_var rfl) fun T _ => rfl) (fun q hq => by cases hq) (fun _ => .bl true) (by show (x.map bit).length ≤ _; simp; omega) fun d hd => ?_) fun T _ => qAll_true _ _) fun T _ => rfl)) (fun z => by cases z) (fun _ T5 r5 => wp_nil ⟨_, _, rfl, rT.trans r5⟩)⟩
    obtain ⟨y, _, rfl⟩ := List.mem_map.mp hd
    refine ⟨_, fun T _ => rfl, ev_app (ev_cons (ev_var rfl) (ev_cons ev_C (ev_cons ev_C ev_nil))) rfl ?_⟩
    have := num_ok (if y then 1 else 0) 0 1 T
    have hz : (decide ((0 : Int) ≤ if y then 1 else 0) && decide ((if y then (1 : Int) else 0) ≤ 1)) = true := by cases y <;> rfl
    rwa [hz] at this
  · rintro ρ T ⟨a, b, rfl, rT⟩
    exact wp_ret ev_C fun T2 r2 => ⟨rfl, rT.trans r2⟩
theorem check_ok (C : Cl p e c) (S : Store) : Pu m_check_cloth [enc c] S .non := by
  refine pu_of rfl fun S' r => ?_
  unfold d_check_cloth
  refine wp_seq (wp_set (ev_app (ev_cons (ev_var rfl) ev_nil) rfl (fault_ok C _)) fun T1 r1 => ?_)
  exact wp_if (b := false) (ev_T (ev_bin (ev_var rfl) ev_C fun T _ => rfl)) (fun z => by cases z) (fun _ T2 r2 => wp_nil ⟨rfl, r1.trans r2⟩)
theorem threads_ok (C : Cl p e c) (S : Store) : Pu m_threads_of [enc c] S (.tup ((threadsL p e).map encT)) := by
  have hp := C.picks
  have p1 := C.p1; have p2 := C.p2; have e1 := C.e1; have e2 := C.e2
  refine pu_of rfl fun S' r => ?_
  unfold d_threads_of
  have h0 : 0 < c.length := by omega
  have hr0 := C.ends c[0] (List.getElem_mem h0)
  have at0 : atI (c.map row) 0 = some (row c[0]) := by
    have := atI_rows (c := c) (k := 0) h0
    simp only [List.getD_eq_getElem?_getD, List.getElem?_eq_getElem h0] at this
    exact this
  have len0 : (((c[0].map bit).length : Nat) : Int) = e := by simp [hr0]
  have lenp : (((c.map row).length : Nat) : Int) = p := by simp [hp]
  have tr : ∀ (n : Nat) (b : Bool) (x : Str), (if b then ("end" : Str) else "pick") = x → (dInts 0 (Int.toNat (n : Int))).map (fun d => D.tup [.str x, d]) = ((List.range n).map fun i => (b, i)).map encT := by
    intro n b x hx
    unfold dInts
    rw [Int.toNat_natCast, List.map_map, List.map_map]
    refine List.map_congr_left fun i _ => ?_
    simp only [Function.comp, encT, hx, Int.zero_add]
  refine wp_seq (wp_setL (ev_map (p := (dInts 0 (Int.toNat (e : Int)), [])) (ev_iR1 (ev_cons (ev_call (ev_cons (ev_bin (ev_var rfl) ev_C fun T _ => ixT at0) ev_nil) fun T _ => (by rw [← len0]; rfl)) ev_nil) (by omega)) (fun q hq => by cases hq) (fun d => .tup [.str "end", d]) (by rw [dInts_length]; omega) fun d hd => ⟨_, fun T _ => rfl, ev_tup (ev_cons ev_C (ev_cons (ev_var rfl) ev_nil)) (by show 2 ≤ 16777216; omega)⟩) fun T1 l1 r1 s1 k1 => ?_)
  refine wp_seq (wp_setL (ev_map (p := (dInts 0 (Int.toNat (p : Int)), [])) (ev_iR1 (ev_cons (ev_call (ev_cons (ev_var rfl) ev_nil) fun T _ => (by rw [← lenp]; rfl)) ev_nil) (by omega)) (fun q hq => by cases hq) (fun d => .tup [.str "pick", d]) (by rw [dInts_length]; omega) fun d hd => ⟨_, fun T _ => rfl, ev_tup (ev_cons ev_C (ev_cons (ev_var rfl) ev_nil)) (by show 2 ≤ 16777216; omega)⟩) fun T2 l2 r2 s2 k2 => ?_)
  rw [tr e true "end" rfl] at k1
  rw [tr p false "pick" rfl] at k2
  refine wp_ret (ev_new (ev_catE (xs := ((List.range e).map fun i => (true, i)).map encT) (ys := ((List.range p).map fun i => (false, i)).map encT) (ev_var rfl) (ev_var rfl) (by simp only [refSeq, pre_get r2 k1]) (by simp only [refSeq, k2]) (by simp; omega)) fun T _ => rfl) fun T3 r3 => ⟨?_, (r1.trans r2).trans r3⟩
  unfold threadsL
  rw [List.map_append]
end
end Lk36

set_option Elab.async false
set_option linter.all false
set_option maxRecDepth 100000
set_option maxHeartbeats 4000000
set_option autoImplicit false
namespace Lk36
open PySem L2 Sh
theorem inGo_id {L j l : Nat} {ρ : Rho} {all : List D} (hj : j < ρ.length) (hl : l ≠ L) : ∀ (xs acc : List D) (T : Store), T[l]? = some (.lst all) → T[L]? = some (.lst acc) → acc.length + xs.length ≤ 16777216 →
    ∃ T', inGo L (gN j) tTrue (fVar j) ρ (all, [(l, all)]) xs T = some (.ok (), T') ∧ T'[L]? = some (.lst (acc ++ xs)) ∧ T'.length = T.length ∧ ∀ k, k ≠ L → T'[k]? = T[k]?
  | [], acc, T, h1, h2, _ => ⟨T, by simp [inGo, chkOk_some h1], by simpa using h2, rfl, fun _ _ => rfl⟩
  | x :: xs, acc, T, h1, h2, h3 => by
    simp only [List.length_cons] at h3
    have hL : L < T.length := (List.getElem?_eq_some_iff.mp h2).1
    obtain ⟨T', e, g1, g2, g3⟩ := inGo_id hj hl xs (acc ++ [x]) (T.set L (.lst (acc ++ [x]))) (by rw [List.getElem?_set_ne (fun z => hl z.symm)]; exact h1) (by rw [List.getElem?_set_self hL]) (by simp; omega)
    refine ⟨T', ?_, by rw [g1]; simp, by rw [g2, List.length_set], fun k hk => by rw [g3 k hk, List.getElem?_set_ne (fun z => hk z.symm)]⟩
    have hz : acc.length < 16777216 := by omega
    have hv : fVar j (ρ.set j (some x)) T = okR x T := by simp [fVar, hj]
    simp only [inGo, chkOk_some h1, if_true, gN, tTrue, noX_ok, bindR_ok, hv, h2, if_pos hz, e]
theorem we_comp2_id {it it1 : IF} {vs vs1 : List Nat} {i j : Nat} {ρ : Rho} {S : Store} {ds : List D} {Q : D → Store → Prop} (F : D → List D) (a : Ev it ρ S (ds, [])) (hj : ∀ d, j < (wipeR ((wipeR ρ vs).set i (some d)) vs1).length)
    (hF : ∀ d ∈ ds, ∀ T, S <+: T → ∃ l T', it1 ((wipeR ρ vs).set i (some d)) T = some (.ok (F d, [(l, F d)]), T') ∧ T <+: T' ∧ T.length ≤ l ∧ T'[l]? = some (.lst (F d))) (hl : (ds.flatMap F).length ≤ 16777216)
    (hQ : ∀ L T, S <+: T → S.length ≤ L → T[L]? = some (.lst (ds.flatMap F)) → Q (.ref L) T) : We (fComp2 it vs (gN i) tTrue it1 vs1 (gN j) tTrue (fVar j)) ρ S Q := by
  obtain ⟨T1, r1, e1⟩ := a.here
  have main : ∀ (ds2 acc : List D) (T : Store), (∀ d ∈ ds2, d ∈ ds) → S <+: T → T[T1.length]? = some (.lst acc) → acc.length + (ds2.flatMap F).length ≤ 16777216 →
      ∃ T', comp2Go T1.length (gN i) tTrue it1 vs1 (gN j) tTrue (fVar j) (wipeR ρ vs) (ds, []) ds2 T = some (.ok (.ref T1.length), T') ∧ S <+: T' ∧ T'[T1.length]? = some (.lst (acc ++ ds2.flatMap F)) := by
    intro ds2
    induction ds2 with
    | nil => intro acc T _ h1 h2 _; exact ⟨T, by simp [comp2Go, chkOk_none], h1, by simpa using h2⟩
    | cons d ds2 ih =>
      intro acc T hm h1 h2 h3
      rw [List.flatMap_cons, List.length_append] at h3
      obtain ⟨l, T2, e2, p2, l2, k2⟩ := hF d (hm d (List.mem_cons_self ..)) T h1
      have hL : T1.length < T.length := (List.getElem?_eq_some_iff.mp h2).1
      obtain ⟨T3, e3, g1, g2, g3⟩ := inGo_id (ρ := wipeR ((wipeR ρ vs).set i (some d)) vs1) (hj d) (show l ≠ T1.length by omega) (F d) acc T2 k2 (pre_get p2 h2) (by omega)
      have h1' : S <+: T3 := by
        have hS : S <+: T2 := h1.trans p2
        have e : T3.take S.length = S := by
          refine List.ext_getElem? fun k => ?_
          rw [List.getElem?_take]
          by_cases hk : k < S.length
          · rw [if_pos hk, g3 k (by have := r1.length_le; omega)]
            obtain ⟨J, rfl⟩ := hS
            exact List.getElem?_append_left hk
          · rw [if_neg hk, List.getElem?_eq_none (by omega)]
        exact e ▸ List.take_prefix _ _
      obtain ⟨T4, e4, q1, q2⟩ := ih (acc ++ F d) T3 (fun x hx => hm x (List.mem_cons_of_mem _ hx)) h1' g1 (by rw [List.length_append]; omega)
      refine ⟨T4, ?_, q1, by rw [q2]; simp⟩
      simp only [comp2Go, chkOk_none, if_true, gN, tTrue, noX_ok, bindR_ok, e2]
      rw [e3]
      exact e4
  obtain ⟨T', e, q1, q2⟩ := main ds [] (T1 ++ [.lst []]) (fun _ h => h) (r1.trans (pre_new _ _)) (by simp) (by simpa using hl)
  refine ⟨_, T', ?_, hQ T1.length T' q1 r1.length_le (by simpa using q2)⟩
  simp only [fComp2, e1, bindR_ok]
  exact e
section
variable {p e : Nat} {c : List (List Bool)}
noncomputable def dueL (p e : Nat) (c : List (List Bool)) : List D := (threadsL p e).flatMap fun t => rowsL t (lineOf c t)
theorem rowsL_len {t : Bool × Nat} {l : List Bool} (h0 : 0 < l.length) (h : l.length ≤ 24) : (rowsL t l).length ≤ 24 := by
  unfold rowsL
  split
  · simp
  · have : (plc l 0).length ≤ l.length := by
      unfold plc
      refine Nat.le_trans (List.length_filter_le _ _) ?_
      rw [List.length_range']
      omega
    rw [List.length_map]
    omega
theorem flat_len {α β : Type} (f : α → List β) (k : Nat) : ∀ xs : List α, (∀ x ∈ xs, (f x).length ≤ k) → (xs.flatMap f).length ≤ xs.length * k
  | [], _ => by simp
  | x :: xs, h => by
    have h1 := h x (List.mem_cons_self ..)
    have h2 := flat_len f k xs fun y hy => h y (List.mem_cons_of_mem _ hy)
    rw [List.flatMap_cons, List.length_append, List.length_cons, Nat.succ_mul]
    omega
theorem due_len (C : Cl p e c) : (dueL p e c).length ≤ 1152 := by
  have h1 : (threadsL p e).length ≤ 48 := by
    have := C.p2; have := C.e2
    simp [threadsL]; omega
  have h2 := flat_len (fun t => rowsL t (lineOf c t)) 24 (threadsL p e) fun t ht => rowsL_len (line_pos C ht).1 (line_pos C ht).2
  unfold dueL
  omega
/-- a thread told by its value -/
noncomputable def rowsD (p e : Nat) (c : List (List Bool)) (d : D) : List D := match (threadsL p e).find? fun t => match d with | .tup [.str x, .int i] => x == (if t.1 then ("end" : Str) else "pick") && i == (t.2 : Int) | _ => false with
  | some t => rowsL t (lineOf c t)
  | none => []
theorem str_ne : (("end" : Str) == ("pick" : Str)) = false ∧ (("pick" : Str) == ("end" : Str)) = false := ⟨by decide, by decide⟩
theorem rowsD_of {t : Bool × Nat} (ht : t ∈ threadsL p e) : rowsD p e c (encT t) = rowsL t (lineOf c t) := by
  have key : (threadsL p e).find? (fun u => (if t.1 then ("end" : Str) else "pick") == (if u.1 then ("end" : Str) else "pick") && (t.2 : Int) == (u.2 : Int)) = some t := by
    have only : ∀ u : Bool × Nat, ((if t.1 then ("end" : Str) else "pick") == (if u.1 then ("end" : Str) else "pick") && (t.2 : Int) == (u.2 : Int)) = true → u = t := by
      rintro ⟨b, k⟩ h
      obtain ⟨b', k'⟩ := t
      cases b <;> cases b' <;> simp [str_ne.1, str_ne.2] at h ⊢ <;> omega
    cases hf : (threadsL p e).find? (fun u => (if t.1 then ("end" : Str) else "pick") == (if u.1 then ("end" : Str) else "pick") && (t.2 : Int) == (u.2 : Int)) with
    | none =>
      have := List.find?_eq_none.mp hf t ht
      simp at this
    | some u =>
      have hu := List.find?_some hf
      rw [only u hu]
  unfold rowsD encT
  simp only
  rw [key]
theorem floats_ok (C : Cl p e c) (S : Store) : Pu m_floats [enc c] S (.tup (dueL p e c)) := by
  refine pu_of rfl fun S' r => ?_
  unfold d_floats
  refine wp_seq (wp_expr (ev_app (ev_cons (ev_var rfl) ev_nil) rfl (check_ok C _)) fun T1 r1 => ?_)
  have fl : ((threadsL p e).map encT).flatMap (rowsD p e c) = dueL p e c := by
    unfold dueL
    rw [List.flatMap_map]
    have : ∀ ts : List (Bool × Nat), (∀ t ∈ ts, t ∈ threadsL p e) → ts.flatMap (fun t => rowsD p e c (encT t)) = ts.flatMap fun t => rowsL t (lineOf c t) := by
      intro ts
      induction ts with
      | nil => intro _; rfl
      | cons t ts ih =>
        intro h
        rw [List.flatMap_cons, List.flatMap_cons, ih fun x hx => h x (List.mem_cons_of_mem _ hx), rowsD_of (h t (List.mem_cons_self ..))]
    exact this _ fun _ h => h
  refine wpe_ret (we_call (we_cons (we_comp2_id (rowsD p e c) (ev_iE (ev_app (ev_cons (ev_var rfl) ev_nil) rfl (threads_ok C _)) fun T _ => rfl) (fun d => by show 2 < 3; omega) ?_ (by rw [fl]; have := due_len C; omega) fun L T r2 _ k => we_nil ⟨.tup (dueL p e c), ?_, rfl, r1.trans r2⟩)))
  · intro d hd T rT
    obtain ⟨t, ht, rfl⟩ := List.mem_map.mp hd
    obtain ⟨l, T', e', p', l', k'⟩ := floats_of_ok C ht T
    rw [rowsD_of ht]
    refine ⟨l, T', ?_, p', l', k'⟩
    have he : fApp 2 m__floats_of (fCons (fVar 0) (fCons (fVar 1) fNil)) ((wipeR (startR N_floats.length [enc c]) [1, 2]).set 1 (some (encT t))) T = some (.ok (.ref l), T') := by
      show (if [enc c, encT t].length = 2 then m__floats_of [enc c, encT t] T else none) = _
      have h2 : [enc c, encT t].length = 2 := rfl
      rw [if_pos h2, e']
    simp only [iE, he, bindR_ok, walkOf, k']
  · rw [fl] at k
    simp only [p1L, pTuple, k]
end
end Lk36

set_option Elab.async false
set_option linter.all false
set_option maxRecDepth 100000
set_option maxHeartbeats 4000000
set_option autoImplicit false
namespace Lk36
open PySem L2 Sh
theorem pyD_bls (S : Store) (k : Nat) : ∀ l : List Bool, (l.map D.bl).mapM (pyD S k) = some (l.map PyData.bool)
  | [] => rfl
  | b :: l => by
    rw [List.map_cons, List.mapM_cons, pyD_bls S k l]
    cases k <;> rfl
theorem eqvAll_bls : ∀ l m : List Bool, PyData.eqvAll (l.map PyData.bool) (m.map PyData.bool) = decide (l = m)
  | [], [] => by simp [PyData.eqvAll]
  | [], b :: m => by simp [PyData.eqvAll]
  | b :: l, [] => by simp [PyData.eqvAll]
  | a :: l, b :: m => by
    simp only [List.map_cons, PyData.eqvAll, PyData.eqv, eqvAll_bls l m]
    cases a <;> cases b <;> simp
theorem pyD_ref {S : Store} {a : Nat} {l : List Bool} (h : S[a]? = some (.lst (l.map D.bl))) : pyD S 60 (.ref a) = some (.list (l.map PyData.bool)) := by
  simp only [pyD, h]
  rw [pyD_bls]
  rfl
theorem blsEq {S : Store} {a b : Nat} {l m : List Bool} (h1 : S[a]? = some (.lst (l.map D.bl))) (h2 : S[b]? = some (.lst (m.map D.bl))) : pEq (.ref a) (.ref b) S = okR (.bl (decide (l = m))) S := by
  show (match eqO S (.ref a) (.ref b) with | some b => okR (D.bl b) S | none => none) = _
  unfold eqO
  rw [pyD_ref h1, pyD_ref h2]
  simp only [PyData.eqv, eqvAll_bls]
theorem ev_rep {ρ : Rho} {S : Store} {f : EF (List D)} {g : EF D} {xs : List D} {k : Int} (a : Ev f ρ S xs) (b : Ev g ρ S (.int k)) (h : (-(2 ^ 63) ≤ k ∧ k < 2 ^ 63) ∧ xs.length * k.toNat ≤ 16777216) : Ev (fRep f g) ρ S (List.replicate k.toNat xs).flatten := fun T q => by
  obtain ⟨T1, q1, e1⟩ := a T q
  obtain ⟨T2, q2, e2⟩ := (b.up (q.trans q1)) T1 (pre_self T1)
  refine ⟨T2, q1.trans q2, ?_⟩
  simp only [fRep, e1, bindR_ok, e2]
  rw [if_pos h]
section
variable {p e : Nat} {c : List (List Bool)} {t : Bool × Nat}
theorem line_ok (C : Cl p e c) (ht : t ∈ threadsL p e) (S : Store) : ∃ (l : Nat) (T : Store), m__law_line [enc c, encT t] S = some (.ok (.ref l), T) ∧ S <+: T ∧ S.length ≤ l ∧ T[l]? = some (.lst ((lineOf c t).map D.bl)) := by
  suffices key : ∃ r T, m__law_line [enc c, encT t] S = some (r, T) ∧ ∃ l, r = .ok (.ref l) ∧ S <+: T ∧ S.length ≤ l ∧ T[l]? = some (.lst ((lineOf c t).map D.bl)) by
    obtain ⟨r, T, e, l, rfl, pr⟩ := key
    exact ⟨l, T, e, pr⟩
  refine mOf_wp rfl ?_
  unfold d__law_line
  have hc := C.picks
  have a0 : ∀ T, pIx (encT t) (.int 0) T = okR (.str (if t.1 then "end" else "pick")) T := fun T => rfl
  have a1 : ∀ T, pIx (encT t) (.int 1) T = okR (.int t.2) T := fun T => rfl
  rcases mem_threads ht with ⟨h1, h2⟩ | ⟨h1, h2⟩
  · simp only [h1, if_true] at a0
    refine wp_seq (wp_if (b := true) (ev_T (ev_bin (ev_bin (ev_var rfl) ev_C fun T r => a0 T) ev_C fun T r => strEq (x := "end") (y := "end") lay_end lay_end)) (fun _ T2 r2 => ?_) (fun z => by cases z))
    refine wp_retL (ev_map (p := (c.map row, [])) (ev_iE (ev_var rfl) fun T r => rfl) (fun q hq => by cases hq) (fun d => match d with | .tup bs => (match atI bs t.2 with | some (.int k) => .bl (k == 1) | _ => .non) | _ => .non) (by simp; have := C.p2; omega) fun d hd => ?_) fun T3 l3 r3 s3 e3 => ⟨l3, rfl, r2.trans r3, Nat.le_trans r2.length_le s3, ?_⟩
    · obtain ⟨r, hr, rfl⟩ := List.mem_map.mp hd
      have hk : t.2 < r.length := by rw [C.ends r hr]; exact h2
      refine ⟨_, fun T _ => rfl, ev_bin (ev_bin (ev_var rfl) (ev_bin (ev_var rfl) ev_C fun T _ => a1 T) fun T _ => ixT (atI_row hk)) ev_C fun T _ => ?_⟩
      simp only [atI_row hk, row, bit]
      exact eqI
    · rw [e3]
      simp only [lineOf, h1, if_true, List.map_map]
      congr 2
      refine List.map_congr_left fun r hr => ?_
      have hk : t.2 < r.length := by rw [C.ends r hr]; exact h2
      simp only [Function.comp, row, atI_row hk, bit]
      cases r.getD t.2 false <;> rfl
  · simp only [h1, Bool.false_eq_true, if_false] at a0
    refine wp_seq (wp_if (b := false) (ev_T (ev_bin (ev_bin (ev_var rfl) ev_C fun T r => a0 T) ev_C fun T r => strEq (x := "pick") (y := "end") lay_pick lay_end)) (fun z => by cases z) (fun _ T2 r2 => wp_nil ?_))
    have hk : t.2 < c.length := by omega
    refine wp_retL (ev_map (p := ((c.getD t.2 []).map bit, [])) (ev_iE (ev_bin (ev_var rfl) (ev_bin (ev_var rfl) ev_C fun T _ => a1 T) fun T _ => ixT (atI_rows hk)) fun T r => rfl) (fun q hq => by cases hq) (fun d => match d with | .int k => .bl (k == 0) | _ => .non) ?_ fun d hd => ?_) fun T3 l3 r3 s3 e3 => ⟨l3, rfl, r2.trans r3, Nat.le_trans r2.length_le s3, ?_⟩
    · have h3 := (line_pos C ht).2
      simp [lineOf, h1] at h3 ⊢
      omega
    · obtain ⟨b, hb, rfl⟩ := List.mem_map.mp hd
      exact ⟨_, fun T _ => rfl, ev_bin (ev_var rfl) ev_C fun T _ => eqI⟩
    · rw [e3]
      simp only [lineOf, h1, Bool.false_eq_true, if_false, List.map_map]
      congr 2
      refine List.map_congr_left fun b hb => ?_
      simp only [Function.comp, bit]
      cases b <;> rfl
/-- the threads, as the law makes them -/
theorem ev_threads (C : Cl p e c) {ρ : Rho} {S : Store} {v i j : Nat} (hv : ρ[v]? = some (some (enc c))) (hi : i < ρ.length) (hj : j < ρ.length) :
    Ev (fCat (fComp (iR1 (fCons (fCall (p1L pLen) (fCons (fBin pIx (fVar v) (fC (.int 0))) fNil)) fNil)) [i] (gN i) tTrue (fTup (fCons (fC (.str "end")) (fCons (fVar i) fNil)))) (fComp (iR1 (fCons (fCall (p1L pLen) (fCons (fVar v) fNil)) fNil)) [j] (gN j) tTrue (fTup (fCons (fC (.str "pick")) (fCons (fVar j) fNil))))) ρ S ((threadsL p e).map encT) := by
  have hp := C.picks
  have p1 := C.p1; have p2 := C.p2; have e1 := C.e1; have e2 := C.e2
  have h0 : 0 < c.length := by omega
  have hr0 := C.ends c[0] (List.getElem_mem h0)
  have at0 : atI (c.map row) 0 = some (row c[0]) := by
    have := atI_rows (c := c) (k := 0) h0
    simp only [List.getD_eq_getElem?_getD, List.getElem?_eq_getElem h0] at this
    exact this
  have len0 : (((c[0].map bit).length : Nat) : Int) = e := by simp [hr0]
  have lenp : (((c.map row).length : Nat) : Int) = p := by simp [hp]
  have tr : ∀ (n : Nat) (b : Bool) (x : Str), (if b then ("end" : Str) else "pick") = x → (dInts 0 (Int.toNat (n : Int))).map (fun d => D.tup [.str x, d]) = ((List.range n).map fun i => (b, i)).map encT := by
    intro n b x hx
    unfold dInts
    rw [Int.toNat_natCast, List.map_map, List.map_map]
    refine List.map_congr_left fun i _ => ?_
    simp only [Function.comp, encT, hx, Int.zero_add]
  have wl : ∀ k, k < ρ.length → ∀ d : D, ((wipeR ρ [k]).set k (some d))[k]? = some (some d) := fun k hk d => by simp [wipeR, hk]
  have A := ev_map (ρ := ρ) (S := S) (vs := [i]) (g := gN i) (f := fTup (fCons (fC (.str "end")) (fCons (fVar i) fNil))) (it := iR1 (fCons (fCall (p1L pLen) (fCons (fBin pIx (fVar v) (fC (.int 0))) fNil)) fNil)) (p := (dInts 0 (Int.toNat (e : Int)), [])) (ev_iR1 (ev_cons (ev_call (ev_cons (ev_bin (ev_var hv) ev_C fun T _ => ixT at0) ev_nil) fun T _ => (by rw [← len0]; rfl)) ev_nil) (by omega)) (fun q hq => by cases hq) (fun d => .tup [.str "end", d]) (by rw [dInts_length]; omega) fun d hd => ⟨_, fun T _ => rfl, ev_tup (ev_cons ev_C (ev_cons (ev_var (wl i hi d)) ev_nil)) (by show 2 ≤ 16777216; omega)⟩
  have B := ev_map (ρ := ρ) (S := S) (vs := [j]) (g := gN j) (f := fTup (fCons (fC (.str "pick")) (fCons (fVar j) fNil))) (it := iR1 (fCons (fCall (p1L pLen) (fCons (fVar v) fNil)) fNil)) (p := (dInts 0 (Int.toNat (p : Int)), [])) (ev_iR1 (ev_cons (ev_call (ev_cons (ev_var hv) ev_nil) fun T _ => (by rw [← lenp]; rfl)) ev_nil) (by omega)) (fun q hq => by cases hq) (fun d => .tup [.str "pick", d]) (by rw [dInts_length]; omega) fun d hd => ⟨_, fun T _ => rfl, ev_tup (ev_cons ev_C (ev_cons (ev_var (wl j hj d)) ev_nil)) (by show 2 ≤ 16777216; omega)⟩
  simp only at A B
  rw [tr e true "end" rfl] at A
  rw [tr p false "pick" rfl] at B
  have := ev_cat A B (by simp; omega)
  unfold threadsL
  rw [List.map_append]
  exact this
end
end Lk36

set_option Elab.async false
set_option linter.all false
set_option maxRecDepth 100000
set_option maxHeartbeats 4000000
set_option autoImplicit false
namespace Lk36
open PySem L2 Sh
theorem dInts_at {lo : Int} {n : Nat} {done rest : List D} {d : D} (h : done ++ d :: rest = dInts lo n) : d = .int (lo + (done.length : Nat)) ∧ done.length < n := by
  have hl := congrArg List.length h
  rw [dInts_length, List.length_append, List.length_cons] at hl
  have hlt : done.length < n := by omega
  have e : (done ++ d :: rest)[done.length]? = some d := by simp
  rw [h] at e
  unfold dInts at e
  simp [hlt] at e
  exact ⟨e.symm, hlt⟩
theorem lenBl {S : Store} {a : Nat} {l : List Bool} (h : S[a]? = some (.lst (l.map D.bl))) : p1L pLen [.ref a] S = okR (.int (l.length : Nat)) S := by rw [lenR h, List.length_map]
theorem ln_mod {l : List Bool} (q : Nat) : ln l (q % l.length) = ln l q := by unfold ln; rw [Nat.mod_mod]
theorem rep_bl (b : Bool) (n : Nat) : (List.replicate (Int.toNat (n : Int)) [D.bl b]).flatten = (List.replicate n b).map D.bl := by
  rw [Int.toNat_natCast]
  induction n with
  | zero => rfl
  | succ n ih => rw [List.replicate_succ, List.flatten_cons, ih]; rfl
section
variable {p e : Nat} {c : List (List Bool)} {t : Bool × Nat}
theorem ev_side {ρ : Rho} {S : Store} {f : EF D} {b : Bool} (h : Ev f ρ S (.bl b)) : Ev (fIf (fTru f) (fC (.str "face")) (fC (.str "back"))) ρ S (side b) := by
  refine ev_if (b := b) (ev_Tru h fun T _ => rfl) (fun hb => ?_) (fun hb => ?_)
  · subst hb; exact ev_C
  · subst hb; exact ev_C
theorem lawfloats_ok (C : Cl p e c) (S : Store) : ∃ (l : Nat) (T : Store), m__law_floats [enc c] S = some (.ok (.ref l), T) ∧ S <+: T ∧ S.length ≤ l ∧ T[l]? = some (.lst (dueL p e c)) := by
  suffices key : ∃ r T, m__law_floats [enc c] S = some (r, T) ∧ ∃ l, r = .ok (.ref l) ∧ S <+: T ∧ S.length ≤ l ∧ T[l]? = some (.lst (dueL p e c)) by
    obtain ⟨r, T, e, l, rfl, pr⟩ := key
    exact ⟨l, T, e, pr⟩
  refine mOf_wp rfl ?_
  unfold d__law_floats
  have dl := due_len C
  refine wp_seq (wp_setL (ev_threads C rfl (by show 6 < 9; omega) (by show 7 < 9; omega)) fun T1 l1 r1 s1 k1 => ?_)
  refine wp_seq (wp_setL (ev_lst ev_nil (by decide)) fun T2 l2 r2 s2 k2 => ?_)
  have s2' : S.length ≤ l2 := Nat.le_trans r1.length_le s2
  have l12 : l1 < l2 := Nat.lt_of_lt_of_le (List.getElem?_eq_some_iff.mp k1).1 s2
  refine wp_seq (wp_for (p := ((threadsL p e).map encT, [(l1, (threadsL p e).map encT)])) (ev_iE (ev_var rfl) fun T r => by simp only [walkOf, pre_get (r2.trans r) k1])
    (fun done ρ T => ∃ (a3 a4 a5 a8 : Option D) (ts : List (Bool × Nat)), ρ = [some (enc c), some (.ref l1), some (.ref l2), a3, a4, a5, none, none, a8] ∧ S <+: T ∧ T[l1]? = some (.lst ((threadsL p e).map encT)) ∧ done = ts.map encT ∧ T[l2]? = some (.lst (ts.flatMap fun t => rowsL t (lineOf c t)))) ?_ ?_ ?_ ?_)
  · rintro n ρ T ⟨_, _, _, _, _, _, _, z, _⟩ q hq
    cases List.mem_singleton.mp hq
    exact z
  · intro T r
    exact ⟨none, none, none, none, [], rfl, (r1.trans r2).trans r, pre_get (r2.trans r) k1, rfl, pre_get r k2⟩
  · rintro done d rest ρ T ed ⟨a3, a4, a5, a8, ts, rfl, rT, j1, hd, j2⟩
    -- the thread
    have hmem := mem_split ed
    obtain ⟨t, ht, rfl⟩ := List.mem_map.mp hmem
    have hb : (ts.flatMap fun t => rowsL t (lineOf c t)).length + (rowsL t (lineOf c t)).length ≤ 1152 := by
      subst hd
      obtain ⟨us, ws, e1, e2, e3⟩ := List.map_eq_append_iff.mp ed.symm
      obtain ⟨t', ws', rfl, e4, e5⟩ := List.map_eq_cons_iff.mp e3
      have inj : ∀ a b : Bool × Nat, encT a = encT b → a = b := by
        rintro ⟨a1, a2⟩ ⟨b1, b2⟩ h
        simp only [encT, D.tup.injEq, List.cons.injEq, D.str.injEq, D.int.injEq, and_true] at h
        obtain ⟨h1, h2⟩ := h
        have h3 : a1 = b1 := by
          cases a1 <;> cases b1
          · rfl
          · have := str_ne.2; simp at h1; rw [h1] at this; simp at this
          · have := str_ne.1; simp at h1; rw [h1] at this; simp at this
          · rfl
        rw [h3]
        congr 1
        omega
      have e6 : us = ts := (List.map_inj_right (f := encT) (fun a b h => inj a b h)).mp e2
      have e7 : t' = t := inj _ _ e4
      subst e6 e7
      have : (dueL p e c).length = ((us ++ t' :: ws').flatMap fun t => rowsL t (lineOf c t)).length := by unfold dueL; rw [e1]
      rw [List.flatMap_append, List.flatMap_cons, List.length_append, List.length_append] at this
      omega
    have done' : done ++ [encT t] = (ts ++ [t]).map encT := by subst hd; simp
    have fm : (ts ++ [t]).flatMap (fun t => rowsL t (lineOf c t)) = (ts.flatMap fun t => rowsL t (lineOf c t)) ++ rowsL t (lineOf c t) := by simp
    generalize (ts.flatMap fun t => rowsL t (lineOf c t)) = base at j2 hb fm
    obtain ⟨pos, le24⟩ := line_pos C ht
    refine ⟨_, T, rfl, wp_seq (wpe_set (we_app (we_ev (ev_cons (ev_var rfl) (ev_cons (ev_var rfl) ev_nil)) fun T3 r3 => ⟨rfl, ?_⟩)))⟩
    obtain ⟨l4, T4, e4, r4, s4, k4⟩ := line_ok C ht T3
    refine ⟨_, T4, e4, ?_⟩
    have r34 := r3.trans r4
    have l24 : l2 < l4 := by
      have := (List.getElem?_eq_some_iff.mp (pre_get r3 j2)).1
      omega
    have j1' := pre_get r34 j1
    have j2' := pre_get r34 j2
    have rT' := rT.trans r34
    -- behind the thread
    have fin : ∀ (ρ : Rho) (U : Store), (∃ a5 a8 : Option D, ρ = [some (enc c), some (.ref l1), some (.ref l2), some (encT t), some (.ref l4), a5, none, none, a8]) → S <+: U → U[l1]? = some (.lst ((threadsL p e).map encT)) → U[l2]? = some (.lst (base ++ rowsL t (lineOf c t))) →
        ∃ (a3 a4 a5 a8 : Option D) (ts : List (Bool × Nat)), ρ = [some (enc c), some (.ref l1), some (.ref l2), a3, a4, a5, none, none, a8] ∧ S <+: U ∧ U[l1]? = some (.lst ((threadsL p e).map encT)) ∧ done ++ [encT t] = ts.map encT ∧ U[l2]? = some (.lst (ts.flatMap fun t => rowsL t (lineOf c t))) := by
      rintro ρ U ⟨a5, a8, rfl⟩ h1 h2 h3
      exact ⟨_, _, a5, a8, ts ++ [t], rfl, h1, h2, done', by rw [fm]; exact h3⟩
    generalize lineOf c t = l at *
    have len : ((l.map D.bl).length : Int) = (l.length : Int) := by simp
    refine wp_if (b := decide (l = List.replicate l.length (ln l 0))) (ev_T (ev_bin_al (ev_var rfl) (ev_rep (k := (l.length : Int)) (ev_lst (ev_cons (ev_bin (ev_var rfl) ev_C fun T r => ixR (pre_get r k4) (atI_bl (q := 0) pos)) ev_nil) (by show 1 ≤ 16777216; omega)) (ev_call (ev_cons (ev_var rfl) ev_nil) fun T r => lenBl (pre_get r k4)) ⟨⟨by omega, by omega⟩, by rw [Int.toNat_natCast]; show 1 * l.length ≤ 16777216; omega⟩) fun T l' r k' => by rw [rep_bl] at k'; exact blsEq (pre_get r k4) k')) (fun hb2 T5 r5 => ?_) (fun hb2 T5 r5 => ?_)
    · -- all alike
      have hn : plc l 0 = [] := plc_flat (of_decide_eq_true hb2)
      have er : rowsL t l = [frow t 0 none (ln l 0)] := by unfold rowsL; rw [if_pos hn]
      refine wpe_expr (we_apd (we_var rfl ⟨rfl, ⟨_, pre_get r5 j2'⟩, we_ev (ev_tup (ev_cons (ev_var rfl) (ev_cons ev_C (ev_cons ev_C (ev_cons (ev_side (ev_bin (ev_var rfl) ev_C fun T r => ixR (pre_get (r5.trans r) k4) (atI_bl (q := 0) pos))) ev_nil)))) (by show 4 ≤ 16777216; omega)) fun T6 r6 => ⟨base, pre_get (r5.trans r6) j2', by omega, ?_⟩⟩))
      have hlt := (List.getElem?_eq_some_iff.mp (pre_get (r5.trans r6) j2')).1
      refine fin _ _ ⟨_, _, rfl⟩ (pre_set ((rT'.trans r5).trans r6) s2') (by rw [List.getElem?_set_ne (by omega)]; exact pre_get (r5.trans r6) j1') (by rw [List.getElem?_set_self hlt, er]; rfl)
    · have hn : plc l 0 ≠ [] := fun h0 => by
        have := flat_of pos h0
        rw [decide_eq_true this] at hb2
        cases hb2
      have er : rowsL t l = ((List.range l.length).filter (isPl l)).map fun q => frow t q (some (runL l q)) (ln l q) := by
        unfold rowsL
        rw [if_neg hn]
        unfold plc
        rw [Nat.sub_zero, ← List.range_eq_range']
      have fl : ∀ k, k ≤ l.length → (((List.range k).filter (isPl l)).map fun q => frow t q (some (runL l q)) (ln l q)).length ≤ 24 := fun k hk => by
        rw [List.length_map]
        refine Nat.le_trans (List.length_filter_le _ _) ?_
        rw [List.length_range]
        omega
      refine wp_for (p := (dInts 0 (Int.toNat (l.length : Int)), [])) (ev_iR1 (ev_cons (ev_call (ev_cons (ev_var rfl) ev_nil) fun T r => lenBl (pre_get (r5.trans r) k4)) ev_nil) (by omega))
        (fun done ρ T => ∃ a5 a8 : Option D, ρ = [some (enc c), some (.ref l1), some (.ref l2), some (encT t), some (.ref l4), a5, none, none, a8] ∧ S <+: T ∧ T[l1]? = some (.lst ((threadsL p e).map encT)) ∧ T[l4]? = some (.lst (l.map D.bl)) ∧ T[l2]? = some (.lst (base ++ ((List.range done.length).filter (isPl l)).map fun q => frow t q (some (runL l q)) (ln l q)))) (fun _ _ _ _ q hq => by cases hq) (fun T r => ⟨_, _, rfl, (rT'.trans r5).trans r, pre_get (r5.trans r) j1', pre_get (r5.trans r) k4, by rw [pre_get (r5.trans r) j2']; simp⟩) ?_ ?_
      · rintro dn d2 rest2 ρ U ed2 ⟨a5, a8, rfl, u0, u1, u4, u2⟩
        obtain ⟨rfl, hlt⟩ := dInts_at ed2
        rw [Int.toNat_natCast] at hlt
        generalize hq : dn.length = q at hlt u2
        have z : (0 : Int) + (q : Int) = q := by omega
        have rs : (List.range (q + 1)).filter (isPl l) = (List.range q).filter (isPl l) ++ if isPl l q = true then [q] else [] := by
          rw [List.range_succ, List.filter_append]
          congr 1
          cases hz : isPl l q <;> simp [hz]
        refine ⟨_, U, rfl, wp_if (b := isPl l q) (ev_T (ev_bin (ev_bin (ev_var rfl) (ev_var rfl) fun T r => ixR (pre_get r u4) (by rw [z]; exact atI_bl hlt)) (ev_bin (ev_var rfl) (ev_bin (ev_var rfl) ev_C fun T r => rfl) fun T r => ixR (pre_get r u4) (by rw [z]; exact atI_pred hlt)) fun T r => by rw [blNe]; rfl)) (fun hp U2 r6 => ?_) (fun hp U2 r6 => wp_nil ?_)⟩
        · have hpl : q ∈ plc l 0 := mem_plc.mpr ⟨by omega, hlt, hp⟩
          have run := runL_is pos hpl
          refine wp_seq (wp_set ev_C fun U3 r7 => ?_)
          have r67 := r6.trans r7
          -- the run's length
          refine wp_seq (wp_while (fun m ρ T => ∃ k : Nat, 1 ≤ k ∧ k ≤ runL l q ∧ m = runL l q - k ∧ ρ = [some (enc c), some (.ref l1), some (.ref l2), some (encT t), some (.ref l4), some (.int (0 + (q : Int))), none, none, some (.int k)] ∧ U3 <+: T) ?_ (runL l q - 1) _ U3 ⟨1, by omega, run.pos, rfl, rfl, pre_self U3⟩)
          rintro m ρ T ⟨k, k1, k2, rfl, rfl, rU⟩
          have v4 := pre_get (r67.trans rU) u4
          have im : ((0 + (q : Int)) + (k : Int)).fmod (l.length : Int) = (((q + k) % l.length : Nat) : Int) := by
            rw [show (0 : Int) + (q : Int) + (k : Int) = ((q + k : Nat) : Int) by omega, Int.fmod_eq_emod_of_nonneg _ (by omega)]
            omega
          refine ⟨decide (ln l (q + k) = ln l q), ev_T (ev_bin (ev_bin (ev_var rfl) (ev_bin (ev_call (ev_cons (ev_bin (ev_var rfl) (ev_var rfl) fun T _ => rfl) ev_nil) fun T _ => rfl) (ev_call (ev_cons (ev_var rfl) ev_nil) fun T r => lenBl (pre_get r v4)) fun T _ => modI (by omega)) fun T r => ixR (pre_get r v4) (by rw [im]; exact atI_bl (Nat.mod_lt _ pos))) (ev_bin (ev_var rfl) (ev_var rfl) fun T r => ixR (pre_get r v4) (by rw [z]; exact atI_bl hlt)) fun T r => by rw [blEq, ln_mod]; cases ln l (q + k) <;> cases ln l q <;> rfl), fun hx T2 r8 => ?_, fun hx T2 r8 => ?_⟩
          · -- the end of the run
            have hk : k = runL l q := by
              rcases Nat.lt_or_ge k (runL l q) with z2 | z2
              · rw [decide_eq_true (run.same k k1 z2)] at hx; cases hx
              · omega
            subst hk
            have r9 := (r67.trans rU).trans r8
            refine wpe_expr (we_apd (we_var rfl ⟨rfl, ⟨_, pre_get r9 u2⟩, we_ev (ev_tup (ev_cons (ev_var rfl) (ev_cons (ev_var rfl) (ev_cons (ev_var rfl) (ev_cons (ev_side (ev_bin (ev_var rfl) (ev_var rfl) fun T r => ixR (pre_get (r9.trans r) u4) (by rw [z]; exact atI_bl hlt))) ev_nil)))) (by show 4 ≤ 16777216; omega)) fun T6 r10 => ⟨_, pre_get (r9.trans r10) u2, by have := fl q (by omega); rw [List.length_append]; omega, ?_⟩⟩))
            have hlt2 := (List.getElem?_eq_some_iff.mp (pre_get (r9.trans r10) u2)).1
            refine ⟨_, _, rfl, pre_set ((u0.trans r9).trans r10) s2', by rw [List.getElem?_set_ne (by omega)]; exact pre_get (r9.trans r10) u1, by rw [List.getElem?_set_ne (by omega)]; exact pre_get (r9.trans r10) u4, ?_⟩
            rw [List.getElem?_set_self hlt2, List.length_append, hq, List.length_singleton, rs, if_pos hp, List.map_append, ← List.append_assoc]
            simp only [List.map_cons, List.map_nil, frow, z]
          · have hk : k < runL l q := by
              rcases Nat.lt_or_ge k (runL l q) with z2 | z2
              · exact z2
              · have : k = runL l q := by omega
                subst this
                exact absurd (of_decide_eq_true hx) run.diff
            exact wp_set (ev_bin (ev_var rfl) ev_C fun T _ => rfl) fun T3 r9 => ⟨runL l q - (k + 1), by omega, k + 1, by omega, by omega, rfl, rfl, (rU.trans r8).trans r9⟩
        · refine ⟨_, _, rfl, u0.trans r6, pre_get r6 u1, pre_get r6 u4, ?_⟩
          rw [List.length_append, hq, List.length_singleton, rs, if_neg (by rw [hp]; simp), List.append_nil]
          exact pre_get r6 u2
      · rintro ρ U ⟨a5, a8, rfl, u0, u1, u4, u2⟩
        rw [dInts_length, Int.toNat_natCast, ← er] at u2
        exact fin _ _ ⟨_, _, rfl⟩ u0 u1 u2
  · rintro ρ T ⟨a3, a4, a5, a8, ts, rfl, rT, j1, hd, j2⟩
    have inj : ∀ a b : Bool × Nat, encT a = encT b → a = b := by
      rintro ⟨a1, a2⟩ ⟨b1, b2⟩ h
      simp only [encT, D.tup.injEq, List.cons.injEq, D.str.injEq, D.int.injEq, and_true] at h
      obtain ⟨h1, h2⟩ := h
      have h3 : a1 = b1 := by
        cases a1 <;> cases b1
        · rfl
        · have := str_ne.2; simp at h1; rw [h1] at this; simp at this
        · have := str_ne.1; simp at h1; rw [h1] at this; simp at this
        · rfl
      rw [h3]
      congr 1
      omega
    have e6 : threadsL p e = ts := (List.map_inj_right (f := encT) (fun a b h => inj a b h)).mp hd
    subst e6
    exact wp_ret (ev_var rfl) fun T2 r => ⟨l2, rfl, rT.trans r, s2', pre_get r j2⟩
end
end Lk36

set_option Elab.async false
set_option linter.all false
set_option maxRecDepth 100000
set_option maxHeartbeats 4000000
set_option autoImplicit false
namespace Lk36
open PySem L2 Sh
/-! ### texts of values -/
mutual
def py : D → PyData
  | .non => .none
  | .bl b => .bool b
  | .int i => .int i
  | .str x => .str x
  | .tup xs => .tuple (pys xs)
  | .fl _ => .none
  | .ref _ => .none
def pys : List D → List PyData
  | [] => []
  | x :: xs => py x :: pys xs
end
/-- plain data k deep, of weight w, its numbers small -/
structure Pl (k w : Nat) (d : D) : Prop where
  rd : ∀ T, pyD T k d = some (py d)
  sh : (py d).showable = true
  lay : (py d).canLay0 = true
  sht : (py d).leavesShort 20 = true
  wt : (py d).weight ≤ w
theorem Pl.mono {k w v : Nat} {d : D} (h : Pl k w d) (hv : w ≤ v) : Pl k v d := ⟨h.rd, h.sh, h.lay, h.sht, Nat.le_trans h.wt hv⟩
theorem pl_non {k : Nat} : Pl k 0 .non := ⟨fun T => by cases k <;> rfl, by simp [py, PyData.showable], by simp [py, PyData.canLay0], by simp [py, PyData.leavesShort], by simp [py, PyData.weight]⟩
theorem short_ints : ((List.range 1001).all fun i => decide ((PyData.shown (.int (i : Nat))).length ≤ 20)) = true := by decide +kernel
theorem log_ints : ((List.range 1001).all fun i => decide ((PyData.int (i : Nat)).weight ≤ 10)) = true := by decide +kernel
theorem pl_int {k : Nat} {i : Nat} (h : i ≤ 1000) : Pl k 10 (.int i) := by
  have h1 := List.all_eq_true.mp short_ints i (List.mem_range.mpr (by omega))
  have h2 := List.all_eq_true.mp log_ints i (List.mem_range.mpr (by omega))
  refine ⟨fun T => by cases k <;> rfl, ?_, by simp [py, PyData.canLay0], ?_, of_decide_eq_true h2⟩
  · simp only [py, PyData.showable, Int.natAbs_natCast, decide_eq_true_eq]
    have : i.log2 ≤ i := Nat.log2_le_self i
    omega
  · simp only [py, PyData.leavesShort]
    exact h1
theorem pl_str {k : Nat} {x : Str} (h1 : PyData.canLay0 (.str x) = true) (h2 : (x.cps.toList.all fun c => decide (c < 16 ^ 8)) = true) (h3 : x.cps.size ≤ 10) : Pl k 10 (.str x) :=
  ⟨fun T => by cases k <;> simp [pyD, h1, py], by simp [py, PyData.showable], by simpa [py] using h1, by simp only [py, PyData.leavesShort]; exact h2, by simpa [py, PyData.weight] using h3⟩
theorem pls {k w : Nat} : ∀ {xs : List D}, (∀ x ∈ xs, Pl k w x) → (∀ T, xs.mapM (pyD T k) = some (pys xs)) ∧ PyData.showableAll (pys xs) = true ∧ PyData.canLayAll0 (pys xs) = true ∧ PyData.leavesShortAll 20 (pys xs) = true ∧ PyData.weightAll (pys xs) ≤ xs.length * (w + 1)
  | [], _ => ⟨fun T => rfl, by simp [pys, PyData.showableAll], by simp [pys, PyData.canLayAll0], by simp [pys, PyData.leavesShortAll], by simp [pys, PyData.weightAll]⟩
  | x :: xs, h => by
    have hx := h x (List.mem_cons_self ..)
    obtain ⟨h1, h2, h3, h4, h5⟩ := pls (xs := xs) fun y hy => h y (List.mem_cons_of_mem _ hy)
    refine ⟨fun T => ?_, by simp [pys, PyData.showableAll, hx.sh, h2], by simp [pys, PyData.canLayAll0, hx.lay, h3], by simp [pys, PyData.leavesShortAll, hx.sht, h4], ?_⟩
    · rw [List.mapM_cons, hx.rd T, h1 T]
      rfl
    · have := hx.wt
      simp only [pys, PyData.weightAll, List.length_cons]
      rw [Nat.succ_mul]
      omega
theorem pl_tup {k w : Nat} {xs : List D} (h : ∀ x ∈ xs, Pl k w x) : Pl (k + 1) (xs.length * (w + 1)) (.tup xs) := by
  obtain ⟨h1, h2, h3, h4, h5⟩ := pls h
  exact ⟨fun T => by simp only [pyD, h1 T, py]; rfl, by simpa [py, PyData.showable] using h2, by simpa [py, PyData.canLay0] using h3, by simpa [py, PyData.leavesShort] using h4, by simpa [py, PyData.weight] using h5⟩
theorem repr_ok {w : Nat} {d : D} (h : Pl 60 w d) (hw : w ≤ 700000) (T : Store) : reprO d T = some (py d).shown := by
  unfold reprO
  rw [h.rd T]
  have h1 := PyData.shown_le 20 (by decide) _ h.sht
  have h2 := h.wt
  have h3 := PyData.hasDict_of_canLay _ h.lay
  have h4 : (py d).shown.length ≤ 16777216 := by omega
  simp only [h.sh, h3, h4, and_self, if_true]
theorem ev_repr {ρ : Rho} {S : Store} {f : EF D} {d : D} {w : Nat} (a : Ev f ρ S d) (h : Pl 60 w d) (hw : w ≤ 700000) : Ev (fCall (p1L pRepr) (fCons f fNil)) ρ S (.str (py d).shown) :=
  ev_call (ev_cons a ev_nil) fun T _ => by simp only [p1L, pRepr, repr_ok h hw T]
theorem ev_reprs {ρ : Rho} {S : Store} {f g : EF D} {d : D} {w : Nat} (a : Ev f ρ S d) (b : Ev g ρ S d) (h : Pl 60 w d) (hw : w ≤ 700000) : Ev (fT (fBin pNe (fCall (p1L pRepr) (fCons f fNil)) (fCall (p1L pRepr) (fCons g fNil)))) ρ S false :=
  ev_T (ev_bin (ev_repr a h hw) (ev_repr b h hw) fun T _ => by rw [strNe]; simp)
section
variable {p e : Nat} {c : List (List Bool)} {t : Bool × Nat}
theorem pl_endS {k : Nat} (b : Bool) : Pl k 10 (.str (if b then "end" else "pick")) := by
  cases b
  · exact pl_str lay_pick (by decide) (by decide)
  · exact pl_str lay_end (by decide) (by decide)
theorem pl_side {k : Nat} (b : Bool) : Pl k 10 (side b) := by
  cases b
  · exact pl_str lay_back (by decide) (by decide)
  · exact pl_str lay_face (by decide) (by decide)
theorem pl_thread {k : Nat} (ht : t.2 ≤ 24) : Pl (k + 1) 22 (encT t) := pl_tup (xs := [_, _]) (w := 10) fun x hx => by
  simp only [List.mem_cons, List.not_mem_nil, or_false] at hx
  rcases hx with rfl | rfl
  · exact pl_endS _
  · exact pl_int (by omega)
theorem pl_frow {k q : Nat} {L : Option Nat} {b : Bool} (ht : t.2 ≤ 24) (hq : q ≤ 24) (hL : ∀ n, L = some n → n ≤ 24) : Pl (k + 2) 92 (frow t q L b) := pl_tup (xs := [_, _, _, _]) (w := 22) fun x hx => by
  simp only [List.mem_cons, List.not_mem_nil, or_false] at hx
  rcases hx with rfl | rfl | rfl | rfl
  · exact pl_thread ht
  · exact (pl_int (by omega)).mono (by decide)
  · cases L with
    | none => exact pl_non.mono (by decide)
    | some n => exact (pl_int (by have := hL n rfl; omega)).mono (by decide)
  · exact (pl_side b).mono (by decide)
theorem mem_due (C : Cl p e c) {d : D} (h : d ∈ dueL p e c) : ∃ (t : Bool × Nat) (q : Nat) (L : Option Nat) (b : Bool), d = frow t q L b ∧ t ∈ threadsL p e ∧ t.2 ≤ 24 ∧ q ≤ 24 ∧ ∀ n, L = some n → n ≤ 24 := by
  unfold dueL at h
  obtain ⟨t, ht, hd⟩ := List.mem_flatMap.mp h
  obtain ⟨pos, le⟩ := line_pos C ht
  have h24 : t.2 ≤ 24 := by
    have := C.p2; have := C.e2
    rcases mem_threads ht with ⟨_, h⟩ | ⟨_, h⟩ <;> omega
  unfold rowsL at hd
  split at hd
  · cases List.mem_singleton.mp hd
    exact ⟨t, 0, none, _, rfl, ht, h24, by omega, fun n z => by cases z⟩
  · obtain ⟨q, hq, rfl⟩ := List.mem_map.mp hd
    have := runL_le pos hq
    obtain ⟨_, h2, _⟩ := mem_plc.mp hq
    exact ⟨t, q, _, _, rfl, ht, h24, by omega, fun n z => by cases z; omega⟩
theorem pl_due (C : Cl p e c) {k : Nat} {ds : List D} (h : ∀ d ∈ ds, d ∈ dueL p e c) (hl : ds.length ≤ 1152) : Pl (k + 3) 107136 (.tup ds) := by
  refine (pl_tup (w := 92) fun x hx => ?_).mono (Nat.le_trans (Nat.mul_le_mul_right _ hl) (by decide))
  obtain ⟨t, q, L, b, rfl, _, h1, h2, h3⟩ := mem_due C (h x hx)
  exact pl_frow h1 h2 h3
end
end Lk36

set_option Elab.async false
set_option linter.all false
set_option maxRecDepth 100000
set_option maxHeartbeats 4000000
set_option autoImplicit false
namespace Lk36
open PySem L2 Sh
def rowLen : D → D
  | .tup [_, _, L, _] => L
  | _ => .non
def isN (d : D) : Bool := isNonD (rowLen d)
def lenEq (m : Int) (d : D) : Bool := match rowLen d with
  | .int i => i == m
  | _ => false
def maxOf (ds : List D) : Int := ((allI (ds.map rowLen)).bind greatest).getD 0
def longV (ds : List D) : D := if ds.any isN = true then .tup [.non, (ds.filter isN).headD .non] else .tup [.int (maxOf ds), (ds.filter (lenEq (maxOf ds))).headD .non]
/-- rows of floats -/
def Rows (ds : List D) : Prop := ∀ d ∈ ds, ∃ (t : Bool × Nat) (q : Nat) (L : Option Nat) (b : Bool), d = frow t q L b ∧ t.2 ≤ 24 ∧ q ≤ 24 ∧ ∀ n, L = some n → n ≤ 24
theorem Rows.tail {d : D} {ds : List D} (h : Rows (d :: ds)) : Rows ds := fun x hx => h x (List.mem_cons_of_mem _ hx)
theorem rowLen_frow {t : Bool × Nat} {q : Nat} {L : Option Nat} {b : Bool} : rowLen (frow t q L b) = (match L with | none => .non | some n => .int n) := rfl
theorem row_kind {ds : List D} (h : Rows ds) {d : D} (hd : d ∈ ds) : (rowLen d = .non ∧ isN d = true) ∨ ∃ n : Nat, rowLen d = .int n ∧ isN d = false ∧ n ≤ 24 := by
  obtain ⟨t, q, L, b, rfl, _, _, h3⟩ := h d hd
  cases L with
  | none => exact .inl ⟨rfl, rfl⟩
  | some n => exact .inr ⟨n, rfl, rfl, h3 n rfl⟩
theorem pl_rows {k : Nat} : ∀ {ds : List D}, Rows ds → ∀ d ∈ ds, Pl (k + 2) 92 d := fun h d hd => by
  obtain ⟨t, q, L, b, rfl, h1, h2, h3⟩ := h d hd
  exact pl_frow h1 h2 h3
theorem pl_len {k : Nat} {ds : List D} (h : Rows ds) {d : D} (hd : d ∈ ds) : Pl k 10 (rowLen d) := by
  rcases row_kind h hd with ⟨e, _⟩ | ⟨n, e, _, hn⟩
  · rw [e]; exact pl_non.mono (by decide)
  · rw [e]; exact pl_int (by omega)
theorem allI_rows : ∀ {ds : List D}, Rows ds → ds.any isN = false → ∃ ns : List Int, allI (ds.map rowLen) = some ns ∧ ns.length = ds.length ∧ ds.map rowLen = ns.map D.int
  | [], _, _ => ⟨[], rfl, rfl, rfl⟩
  | d :: ds, h, hn => by
    simp only [List.any_cons, Bool.or_eq_false_iff] at hn
    obtain ⟨ns, e1, e2, e3⟩ := allI_rows h.tail hn.2
    rcases row_kind h (List.mem_cons_self ..) with ⟨_, e⟩ | ⟨n, e, _, _⟩
    · rw [e] at hn; cases hn.1
    · exact ⟨n :: ns, by simp [allI, e, e1], by simp [e2], by simp [e, e3]⟩
theorem max_rows {ds : List D} (h : Rows ds) (hn : ds.any isN = false) (h0 : ds ≠ []) (S : Store) : qMax (ds.map rowLen) S = okR (.int (maxOf ds)) S ∧ ∃ d ∈ ds, lenEq (maxOf ds) d = true := by
  obtain ⟨ns, e1, e2, e3⟩ := allI_rows h hn
  cases ns with
  | nil => cases ds with
    | nil => exact absurd rfl h0
    | cons d ds => simp at e2
  | cons n ns =>
    have em : maxOf ds = ns.foldl max n := by simp [maxOf, e1, greatest]
    refine ⟨by simp only [qMax, e1, greatest, em], ?_⟩
    have hm : ns.foldl max n ∈ n :: ns := by
      rcases (foldl_max_ge ns n).2.2 with z | z
      · rw [z]; exact List.mem_cons_self ..
      · exact List.mem_cons_of_mem _ z
    have hmem : D.int (maxOf ds) ∈ ds.map rowLen := by rw [e3, em]; exact List.mem_map.mpr ⟨_, hm, rfl⟩
    obtain ⟨d, hd, ed⟩ := List.mem_map.mp hmem
    exact ⟨d, hd, by simp [lenEq, ed]⟩
/-- the first of its kind -/
theorem find_first (P : D → Bool) (a : PyData) : ∀ (ds : List D) (k : Nat), (∀ d ∈ ds, PyData.eqv (py (rowLen d)) a = P d) → (∃ d ∈ ds, P d = true) → ∃ j, findEq a (pys (ds.map rowLen)) k = some (k + j) ∧ ds[j]? = some ((ds.filter P).headD .non)
  | [], _, _, h => by obtain ⟨d, hd, _⟩ := h; cases hd
  | d :: ds, k, hP, h => by
    simp only [List.map_cons, pys, findEq, hP d (List.mem_cons_self ..)]
    cases e : P d with
    | true => exact ⟨0, by simp, by simp [List.filter_cons, e]⟩
    | false =>
      obtain ⟨x, hx, hpx⟩ := h
      have hx' : x ∈ ds := by
        rcases List.mem_cons.mp hx with rfl | hx
        · rw [e] at hpx; cases hpx
        · exact hx
      obtain ⟨j, h1, h2⟩ := find_first P a ds (k + 1) (fun y hy => hP y (List.mem_cons_of_mem _ hy)) ⟨x, hx', hpx⟩
      refine ⟨j + 1, ?_, ?_⟩
      · simp only [Bool.false_eq_true, if_false, h1]
        congr 1
        omega
      · simp [List.filter_cons, e, h2]
theorem eqv_n {ds : List D} (h : Rows ds) {d : D} (hd : d ∈ ds) : PyData.eqv (py (rowLen d)) .none = isN d := by
  rcases row_kind h hd with ⟨e, e2⟩ | ⟨n, e, e2, _⟩
  · rw [e, e2]; simp [py, PyData.eqv]
  · rw [e, e2]; simp [py, PyData.eqv]
theorem eqv_m {ds : List D} (h : Rows ds) {d : D} (hd : d ∈ ds) (m : Int) : PyData.eqv (py (rowLen d)) (.int m) = lenEq m d := by
  rcases row_kind h hd with ⟨e, e2⟩ | ⟨n, e, e2, _⟩
  · simp [lenEq, e, py, PyData.eqv]
  · simp [lenEq, e, py, PyData.eqv]
theorem ev_idx {ρ : Rho} {S : Store} {f g : EF D} {l : Nat} {d : D} {xs : List D} {as : List PyData} {a : PyData} {j : Nat} (h1 : Ev f ρ S (.ref l)) (h2 : Ev g ρ S d) (h3 : S[l]? = some (.lst xs)) (h4 : ∀ T, S <+: T → pyD T 60 (.ref l) = some (.list as)) (h5 : ∀ T, pyD T 60 d = some a) (h6 : findEq a as 0 = some j) : Ev (fIdx f g) ρ S (.int j) :=
  ev_bind h1 fun T q => (h2.up q) T (pre_self T) |>.elim fun T' ⟨q', e⟩ => ⟨T', q', by
    simp only [pre_get q h3, e, bindR_ok, h4 T' (q.trans q'), h5 T', h6]⟩
theorem pyD_refl {S : Store} {l w : Nat} {xs : List D} (h : S[l]? = some (.lst xs)) (hx : ∀ x ∈ xs, Pl 59 w x) : pyD S 60 (.ref l) = some (.list (pys xs)) := by
  simp only [pyD, h]
  rw [(pls hx).1 S]
  rfl
end Lk36

set_option Elab.async false
set_option linter.all false
set_option maxRecDepth 100000
set_option maxHeartbeats 4000000
set_option autoImplicit false
namespace Lk36
open PySem L2 Sh
theorem any_pys {ds : List D} (h : Rows ds) : (pys (ds.map rowLen)).any (fun z => PyData.eqv z .none) = ds.any isN := by
  induction ds with
  | nil => rfl
  | cons d ds ih =>
    simp only [List.map_cons, pys, List.any_cons, ih h.tail, eqv_n h (List.mem_cons_self ..)]
theorem pls_len {ds : List D} (h : Rows ds) : ∀ x ∈ ds.map rowLen, Pl 59 10 x := fun x hx => by
  obtain ⟨d, hd, rfl⟩ := List.mem_map.mp hx
  exact pl_len h hd
theorem ix2 {ds : List D} (h : Rows ds) {d : D} (hd : d ∈ ds) (T : Store) : pIx d (.int 2) T = okR (rowLen d) T := by
  obtain ⟨t, q, L, b, rfl, _⟩ := h d hd
  rfl
section
variable {p e : Nat} {c : List (List Bool)}
theorem due_rows (C : Cl p e c) : Rows (dueL p e c) := fun d hd => by
  obtain ⟨t, q, L, b, h1, _, h2, h3, h4⟩ := mem_due C hd
  exact ⟨t, q, L, b, h1, h2, h3, h4⟩
theorem rowsL_ne (t : Bool × Nat) (l : List Bool) : rowsL t l ≠ [] := by
  unfold rowsL
  split
  · simp
  · rename_i h
    simp [h]
theorem due_ne (C : Cl p e c) : dueL p e c ≠ [] := by
  have := C.e1
  unfold dueL threadsL
  cases e with
  | zero => omega
  | succ n =>
    rw [List.range_succ_eq_map]
    simp only [List.map_cons, List.cons_append, List.flatMap_cons]
    intro h
    exact rowsL_ne _ _ (List.append_eq_nil_iff.mp h).1
theorem longest_ok (C : Cl p e c) (S : Store) : Pu m_longest [enc c] S (longV (dueL p e c)) := by
  have hR := due_rows C
  have hl := due_len C
  have hne := due_ne C
  have hf := floats_ok C
  refine pu_of rfl fun S' r => ?_
  unfold d_longest
  refine wp_seq (wp_set (ev_app (ev_cons (ev_var rfl) ev_nil) rfl (hf _)) fun T1 r1 => ?_)
  generalize dueL p e c = ds at hR hl hne
  refine wp_seq (wp_setL (ev_map (p := (ds, [])) (ev_iE (ev_var rfl) fun T r => rfl) (fun q hq => by cases hq) rowLen (by show ds.length ≤ _; omega) fun d hd => ?_) fun T2 l2 r2 s2 k2 => ?_)
  · obtain ⟨t, q, L, b, rfl, _⟩ := hR d hd
    exact ⟨_, fun T _ => rfl, ev_var rfl⟩
  have pl2 : ∀ T, T2 <+: T → pyD T 60 (.ref l2) = some (.list (pys (ds.map rowLen))) := fun T r3 => pyD_refl (pre_get r3 k2) (pls_len hR)
  have cond : ∀ {ρ : Rho} {T : Store}, T2 <+: T → ρ[2]? = some (some (.ref l2)) → Ev (fT (fBin pInL (fC .non) (fVar 2))) ρ T (ds.any isN) := fun {ρ T} r3 hv => ev_T (ev_bin ev_C (ev_var hv) fun U r4 => by
    unfold pInL inO
    rw [pl2 U (r3.trans r4)]
    simp only [pyD]
    rw [any_pys hR])
  cases hn : ds.any isN with
  | true =>
    refine wp_seq (wp_set (ev_if (b := true) (by rw [← hn]; exact cond (pre_self _) rfl) (fun _ => ev_C) (fun z => by cases z)) fun T3 r3 => ?_)
    obtain ⟨j, h1, h2⟩ := find_first isN .none ds 0 (fun d hd => eqv_n hR hd) (List.any_eq_true.mp hn)
    rw [Nat.zero_add] at h1
    have hj : j < ds.length := (List.getElem?_eq_some_iff.mp h2).1
    refine wp_ret (ev_tup (ev_cons (ev_var rfl) (ev_cons (ev_bin (ev_var rfl) (ev_idx (ev_var rfl) (ev_var rfl) (pre_get r3 k2) (fun T r4 => pl2 T (r3.trans r4)) (fun T => rfl) h1) fun T _ => ixT (atI_nat h2)) ev_nil)) (by show 2 ≤ 16777216; omega)) fun T4 r4 => ⟨?_, ((r1.trans r2).trans r3).trans r4⟩
    simp only [longV, hn, if_true]
  | false =>
    obtain ⟨hm, hx⟩ := max_rows hR hn hne T2
    refine wp_seq (wp_set (d := .int (maxOf ds)) (ev_if (b := false) (by rw [← hn]; exact cond (pre_self _) rfl) (fun z => by cases z) (fun _ => ev_call (ev_cons (ev_var rfl) ev_nil) fun T r3 => ?_)) fun T3 r3 => ?_)
    · simp only [p1L, pSeq, seqOf, pre_get r3 k2]
      exact (max_rows hR hn hne T).1
    obtain ⟨j, h1, h2⟩ := find_first (lenEq (maxOf ds)) (.int (maxOf ds)) ds 0 (fun d hd => eqv_m hR hd _) hx
    rw [Nat.zero_add] at h1
    refine wp_ret (ev_tup (ev_cons (ev_var rfl) (ev_cons (ev_bin (ev_var rfl) (ev_idx (ev_var rfl) (ev_var rfl) (pre_get r3 k2) (fun T r4 => pl2 T (r3.trans r4)) (fun T => rfl) h1) fun T _ => ixT (atI_nat h2)) ev_nil)) (by show 2 ≤ 16777216; omega)) fun T4 r4 => ⟨?_, ((r1.trans r2).trans r3).trans r4⟩
    simp only [longV, hn, Bool.false_eq_true, if_false]
theorem head_at {α : Type} {xs : List α} {x : α} (h : xs ≠ []) : atI xs 0 = some (xs.headD x) := by
  cases xs with
  | nil => exact absurd rfl h
  | cons a b => exact atI_nat (j := 0) rfl
theorem lawlongest_ok {ds : List D} (hR : Rows ds) (hl : ds.length ≤ 1152) (hne : ds ≠ []) {l : Nat} {S : Store} (k : S[l]? = some (.lst ds)) : Pu m__law_longest [.ref l] S (longV ds) := by
  refine pu_of rfl fun S' r => ?_
  unfold d__law_longest
  have k' := pre_get r k
  have chk : ∀ q ∈ [(l, ds)], S'[q.1]? = some (.lst q.2) := fun q hq => by cases List.mem_singleton.mp hq; exact k'
  refine wp_seq (wp_setL (ev_comp (p := (ds, [(l, ds)])) (ev_iE (ev_var rfl) fun T r => by simp only [walkOf, pre_get r k']) chk isN (fun d => d) (by show ds.length ≤ _; omega) fun d hd => ⟨_, fun T _ => rfl, ev_T (ev_bin (ev_bin (ev_var rfl) ev_C fun T _ => ix2 hR hd T) ev_C fun T _ => rfl), fun _ => ev_var rfl⟩) fun T1 l1 r1 s1 k1 => ?_)
  rw [List.map_id'] at k1
  have hRf : Rows (ds.filter isN) := fun d hd => hR d (List.mem_filter.mp hd).1
  have hcond : Ev (fT (fBin pNe (fVar 1) (fAl (fLst fNil)))) ((startR N__law_longest.length [.ref l]).set 1 (some (.ref l1))) T1 (ds.any isN) := by
    refine ev_T (ev_bin_al (ev_var rfl) (ev_lst ev_nil (by decide)) fun T l' r2 k2 => ?_)
    show (match eqO T (.ref l1) (.ref l') with | some b => okR (D.bl (!b)) T | none => none) = _
    unfold eqO
    rw [pyD_refl (pre_get r2 k1) fun x hx => pl_rows hRf x hx, pyD_refl (w := 0) k2 fun x hx => by cases hx]
    simp only [PyData.eqv]
    cases hf : ds.filter isN with
    | nil =>
      have : ds.any isN = false := by
        rw [List.any_eq_false]
        intro d hd
        have := List.filter_eq_nil_iff.mp hf d hd
        simpa using this
      rw [this]
      simp [pys, PyData.eqvAll]
    | cons d rest =>
      have : ds.any isN = true := by
        rw [List.any_eq_true]
        have hm : d ∈ ds.filter isN := by rw [hf]; exact List.mem_cons_self ..
        exact ⟨d, (List.mem_filter.mp hm).1, (List.mem_filter.mp hm).2⟩
      rw [this]
      simp [pys, PyData.eqvAll]
  refine wp_seq (wp_if hcond (fun hn T2 r2 => ?_) (fun hn T2 r2 => wp_nil ?_))
  · have hfne : ds.filter isN ≠ [] := by
      obtain ⟨d, hd, hd2⟩ := List.any_eq_true.mp hn
      intro h0
      have := List.filter_eq_nil_iff.mp h0 d hd
      exact this hd2
    refine wp_ret (ev_tup (ev_cons ev_C (ev_cons (ev_bin (ev_var rfl) ev_C fun T r3 => ixR (pre_get (r2.trans r3) k1) (head_at (x := D.non) hfne)) ev_nil)) (by show 2 ≤ 16777216; omega)) fun T3 r3 => ⟨?_, (r1.trans r2).trans r3⟩
    simp only [longV, hn, if_true]
  · obtain ⟨_, hx⟩ := max_rows hR hn hne T2
    have r12 := r1.trans r2
    have chk2 : ∀ q ∈ [(l, ds)], T2[q.1]? = some (.lst q.2) := fun q hq => by cases List.mem_singleton.mp hq; exact pre_get r12 k'
    refine wp_seq (wp_set (ev_new (ev_map (p := (ds, [(l, ds)])) (ev_iE (ev_var rfl) fun T r => by simp only [walkOf, pre_get (r12.trans r) k']) chk2 rowLen (by show ds.length ≤ _; omega) fun d hd => ⟨_, fun T _ => rfl, ev_bin (ev_var rfl) ev_C fun T _ => ix2 hR hd T⟩) fun T _ => (max_rows hR hn hne T).1) fun T3 r3 => ?_)
    have r13 := r12.trans r3
    have chk3 : ∀ q ∈ [(l, ds)], T3[q.1]? = some (.lst q.2) := fun q hq => by cases List.mem_singleton.mp hq; exact pre_get r13 k'
    have hfne : ds.filter (lenEq (maxOf ds)) ≠ [] := by
      obtain ⟨d, hd, hd2⟩ := hx
      intro h0
      exact List.filter_eq_nil_iff.mp h0 d hd hd2
    refine wp_ret (ev_tup (ev_cons (ev_var rfl) (ev_cons (ev_al_bin (ds := ds.filter (lenEq (maxOf ds))) ?_ ev_C fun T l' r4 k4 => ixR k4 (head_at (x := D.non) hfne)) ev_nil)) (by show 2 ≤ 16777216; omega)) fun T4 r4 => ⟨?_, r13.trans r4⟩
    · have := ev_comp (f := fVar 3) (p := (ds, [(l, ds)])) (ρ := (((startR N__law_longest.length [.ref l]).set 1 (some (.ref l1))).set 2 (some (.int (maxOf ds))))) (S := T3) (it := iE (fVar 0)) (vs := [3]) (g := gN 3) (t := fT (fBin pEq (fBin pIx (fVar 3) (fC (.int 2))) (fVar 2))) (ev_iE (ev_var rfl) fun T r => by simp only [walkOf, pre_get (r13.trans r) k']) chk3 (lenEq (maxOf ds)) (fun d => d) (by show ds.length ≤ _; omega) fun d hd => ⟨_, fun T _ => rfl, ev_T (ev_bin (ev_bin (ev_var rfl) ev_C fun T _ => ix2 hR hd T) (ev_var rfl) fun T _ => ?_), fun _ => ev_var rfl⟩
      · rw [List.map_id'] at this
        exact this
      · rcases row_kind hR hd with ⟨e, _⟩ | ⟨n, e, _, _⟩
        · rw [e]; simp [lenEq, e, pEq, eqO, pyD, PyData.eqv]
        · rw [e, eqI]; simp [lenEq, e]
    · simp only [longV, hn, Bool.false_eq_true, if_false]
theorem pl_long {k : Nat} {ds : List D} (hR : Rows ds) (hne : ds ≠ []) : Pl (k + 3) 186 (longV ds) := by
  have hd : ∀ P : D → Bool, (∃ d ∈ ds, P d = true) → (ds.filter P).headD .non ∈ ds := by
    intro P ⟨d, h1, h2⟩
    cases hf : ds.filter P with
    | nil => exact absurd h2 (List.filter_eq_nil_iff.mp hf d h1)
    | cons x xs =>
      have hm : x ∈ ds.filter P := by rw [hf]; exact List.mem_cons_self ..
      exact (List.mem_filter.mp hm).1
  unfold longV
  split
  · rename_i h
    refine pl_tup (xs := [_, _]) (w := 92) fun x hx => ?_
    simp only [List.mem_cons, List.not_mem_nil, or_false] at hx
    rcases hx with rfl | rfl
    · exact pl_non.mono (by decide)
    · exact pl_rows hR _ (hd isN (List.any_eq_true.mp h))
  · rename_i h
    have hn : ds.any isN = false := by simpa using h
    obtain ⟨_, hx⟩ := max_rows hR hn hne []
    have hm := hd _ hx
    refine pl_tup (xs := [_, _]) (w := 92) fun x hx2 => ?_
    simp only [List.mem_cons, List.not_mem_nil, or_false] at hx2
    rcases hx2 with rfl | rfl
    · obtain ⟨d, hd1, hd2⟩ := hx
      rcases row_kind hR hd1 with ⟨e, _⟩ | ⟨n, e, _, hn2⟩
      · simp [lenEq, e] at hd2
      · have : maxOf ds = n := by simp [lenEq, e] at hd2; omega
        rw [this]
        exact (pl_int (by omega)).mono (by decide)
    · exact pl_rows hR _ hm
end
end Lk36

set_option Elab.async false
set_option linter.all false
set_option maxRecDepth 100000
set_option maxHeartbeats 4000000
set_option autoImplicit false
namespace Lk36
open PySem L2 Sh
theorem wp_try {b : SF} {mt : List (Str × Bool)} {i : Nat} {f : Ex → EF D} {ρ : Rho} {S : Store} {Q : Fl → Store → Prop} (h : Wp b ρ S fun fl T => match fl with
    | .exn e ρ' => mt.lookup e.1 = some true ∧ i < ρ'.length ∧ ∃ d T2, f e (ρ'.set i none) T = some (.ok d, T2) ∧ Q (.ret d) T2
    | x => Q x T) : Wp (sTry b mt i f) ρ S Q := by
  obtain ⟨fl, T, e, q⟩ := h
  cases fl with
  | exn x ρ' =>
    obtain ⟨h1, h2, d, T2, h3, q⟩ := q
    exact ⟨_, T2, by simp only [sTry, e, h1, if_pos h2, h3], q⟩
  | nx ρ' => exact ⟨_, T, by simp only [sTry, e], q⟩
  | ret d => exact ⟨_, T, by simp only [sTry, e], q⟩
  | bk ρ' => exact ⟨_, T, by simp only [sTry, e], q⟩
  | ct ρ' => exact ⟨_, T, by simp only [sTry, e], q⟩
def gtD (m : Int) (d : D) : Bool := match rowLen d with
  | .int i => decide (m < i)
  | _ => false
def tooL (m : Int) (d : D) : Bool := isN d || gtD m d
theorem ev_tooL {ds : List D} (hR : Rows ds) {d : D} (hd : d ∈ ds) {ρ : Rho} {S : Store} {i j : Nat} {m : Int} (hi : ρ[i]? = some (some d)) (hj : ρ[j]? = some (some (.int m))) :
    Ev (tOrF (fT (fBin pIsN (fBin pIx (fVar i) (fC (.int 2))) (fC .non))) (fT (fBin (pI2 gGt) (fBin pIx (fVar i) (fC (.int 2))) (fVar j)))) ρ S (tooL m d) := by
  refine ev_or (ev_T (ev_bin (ev_bin (ev_var hi) ev_C fun T _ => ix2 hR hd T) ev_C fun T _ => rfl)) fun hn => ev_T (ev_bin (ev_bin (ev_var hi) ev_C fun T _ => ix2 hR hd T) (ev_var hj) fun T _ => ?_)
  rcases row_kind hR hd with ⟨_, e⟩ | ⟨n, e, _, _⟩
  · rw [e] at hn; cases hn
  · simp only [e, gtD]; rfl
section
variable {p e : Nat} {c : List (List Bool)}
theorem toolong_ok (C : Cl p e c) {m : Int} (h1 : 1 ≤ m) (h2 : m ≤ 24) (S : Store) : Pu m_too_long [enc c, .int m] S (.tup ((dueL p e c).filter (tooL m))) := by
  have hR := due_rows C
  have hl := due_len C
  refine pu_of rfl fun S' r => ?_
  unfold d_too_long
  refine wp_seq (wp_expr (ev_app (ev_cons (ev_var rfl) ev_nil) rfl (check_ok C _)) fun T1 r1 => ?_)
  have hn : (decide (1 ≤ m) && decide (m ≤ 24)) = true := by rw [decide_eq_true h1, decide_eq_true h2]; rfl
  refine wp_seq (wp_if (b := !true) (ev_not (ev_Tru (ev_app (ev_cons (ev_var rfl) (ev_cons ev_C (ev_cons ev_C ev_nil))) rfl (hn ▸ num_ok m 1 24 T1)) fun T _ => rfl)) (fun z => by cases z) (fun _ T2 r2 => wp_nil ?_))
  refine wp_ret (ev_new (ev_comp (p := (dueL p e c, [])) (ev_iE (ev_app (ev_cons (ev_var rfl) ev_nil) rfl (floats_ok C _)) fun T _ => rfl) (fun q hq => by cases hq) (tooL m) (fun d => d) (by show (dueL p e c).length ≤ _; omega) fun d hd => ⟨_, fun T _ => rfl, ev_tooL hR hd rfl rfl, fun _ => ev_var rfl⟩) fun T _ => rfl) fun T3 r3 => ⟨?_, (r1.trans r2).trans r3⟩
  rw [List.map_id']
def badE : Ex := ("ArgumentError", [("reason", .str "most")])
theorem toolong_bad (C : Cl p e c) {d : D} (hb : ∀ S, Pu m_is_number [d, .int 1, .int 24] S (.bl false)) (S : Store) : ∃ T, S <+: T ∧ m_too_long [enc c, d] S = some (.error badE, T) := by
  suffices key : ∃ r T, m_too_long [enc c, d] S = some (r, T) ∧ r = .error badE ∧ S <+: T by
    obtain ⟨r, T, e, rfl, pr⟩ := key
    exact ⟨T, pr, e⟩
  refine mOf_wp rfl ?_
  unfold d_too_long
  refine wp_seq (wp_expr (ev_app (ev_cons (ev_var rfl) ev_nil) rfl (check_ok C _)) fun T1 r1 => ?_)
  refine wp_seq (wp_if (b := !false) (ev_not (ev_Tru (ev_app (ev_cons (ev_var rfl) (ev_cons ev_C (ev_cons ev_C ev_nil))) rfl (hb _)) fun T _ => rfl)) (fun _ T2 r2 => ?_) (fun z => by cases z))
  exact ⟨_, T2, rfl, rfl, r1.trans r2⟩
theorem told_ok (C : Cl p e c) {m : Int} (h1 : 1 ≤ m) (h2 : m ≤ 24) (S : Store) : Pu m__law_told [enc c, .int m] S (.tup ((dueL p e c).filter (tooL m))) := by
  refine pu_of rfl fun S' r => ?_
  unfold d__law_told
  exact wp_try (wp_ret (ev_app (ev_cons (ev_var rfl) (ev_cons (ev_var rfl) ev_nil)) rfl (toolong_ok C h1 h2 _)) fun T r => ⟨rfl, r⟩)
theorem told_bad (C : Cl p e c) {d : D} (hb : ∀ S, Pu m_is_number [d, .int 1, .int 24] S (.bl false)) (S : Store) : Pu m__law_told [enc c, d] S (.str "most") := by
  refine pu_of rfl fun S' r => ?_
  unfold d__law_told
  obtain ⟨T, r1, e1⟩ := toolong_bad C hb S'
  refine wp_try ⟨.exn badE (startR N__law_told.length [enc c, d]), T, ?_, ?_⟩
  · have h : fApp 2 m_too_long (fCons (fVar 0) (fCons (fVar 1) fNil)) (startR N__law_told.length [enc c, d]) S' = some (.error badE, T) := by
      show (if [enc c, d].length = 2 then m_too_long [enc c, d] S' else none) = _
      have h2 : [enc c, d].length = 2 := rfl
      rw [if_pos h2, e1]
    simp only [sRet, h, toS_error]
  · exact ⟨by decide, by show 2 < 3; omega, .str "most", T, rfl, rfl, r1⟩
/-! ### the crossings on top -/
def onesR (r : List Bool) : Int := (r.map fun b => if b then (1 : Int) else 0).sum
def ones (c : List (List Bool)) : Int := (c.map onesR).sum
theorem allI_map : ∀ ns : List Int, allI (ns.map D.int) = some ns
  | [] => rfl
  | n :: ns => by simp [allI, allI_map ns]
theorem sum_row (r : List Bool) (S : Store) : qSum (r.map bit) S = okR (.int (onesR r)) S := by
  have : r.map bit = (r.map fun b => if b then (1 : Int) else 0).map D.int := by rw [List.map_map]; rfl
  rw [this]
  simp only [qSum, allI_map, onesR]
def sumD (d : D) : D := match d with
  | .tup xs => match qSum xs [] with
    | some (.ok z, _) => z
    | _ => .non
  | _ => .non
theorem ev_ones (hc : c.length ≤ 24) {ρ : Rho} {S : Store} {v i : Nat} (hv : ρ[v]? = some (some (enc c))) (hi : i < ρ.length) : Ev (fNew qSum (fComp (iE (fVar v)) [i] (gN i) tTrue (fCall (p1L (pSeq qSum)) (fCons (fVar i) fNil)))) ρ S (.int (ones c)) := by
  have wl : ∀ d : D, ((wipeR ρ [i]).set i (some d))[i]? = some (some d) := fun d => by simp [wipeR, hi]
  refine ev_new (ev_map (p := (c.map row, [])) (ev_iE (ev_var hv) fun T _ => rfl) (fun q hq => by cases hq) sumD (by show (c.map row).length ≤ _; simp; omega) fun d hd => ?_) fun T _ => ?_
  · obtain ⟨r, hr, rfl⟩ := List.mem_map.mp hd
    refine ⟨_, fun T _ => rfl, ev_call (ev_cons (ev_var (wl _)) ev_nil) fun T _ => ?_⟩
    simp only [p1L, pSeq, seqOf, row, sum_row, sumD]
  · have : (c.map row).map sumD = (c.map onesR).map D.int := by
      rw [List.map_map, List.map_map]
      refine List.map_congr_left fun r _ => ?_
      simp only [Function.comp, sumD, row, sum_row]
    simp only [this, qSum, allI_map, ones]
def faceV (p e : Nat) (c : List (List Bool)) : D := .tup [.int (ones c), .int ((p : Int) * e - ones c)]
theorem at0_ok (C : Cl p e c) : ∃ r0, atI (c.map row) 0 = some (row r0) ∧ (((r0.map bit).length : Nat) : Int) = e := by
  have hp := C.picks
  have p1 := C.p1
  have h0 : 0 < c.length := by omega
  have hr0 := C.ends c[0] (List.getElem_mem h0)
  refine ⟨c[0], ?_, by simp [hr0]⟩
  have := atI_rows (c := c) (k := 0) h0
  simp only [List.getD_eq_getElem?_getD, List.getElem?_eq_getElem h0] at this
  exact this
theorem ev_face (C : Cl p e c) {ρ : Rho} {S : Store} {v i : Nat} (hv : ρ[v]? = some (some (enc c))) (hi : ρ[i]? = some (some (.int (ones c)))) :
    Ev (fTup (fCons (fVar i) (fCons (fBin (pI2 gSub) (fBin (pI2 gMul) (fCall (p1L pLen) (fCons (fVar v) fNil)) (fCall (p1L pLen) (fCons (fBin pIx (fVar v) (fC (.int 0))) fNil))) (fVar i)) fNil))) ρ S (faceV p e c) := by
  obtain ⟨r0, at0, len0⟩ := at0_ok C
  have lenp : (((c.map row).length : Nat) : Int) = p := by simp [C.picks]
  have e2 := C.e2
  refine ev_tup (ev_cons (ev_var hi) (ev_cons (ev_bin (ev_bin (d := .int p) (e := .int e) (z := .int ((p : Int) * e)) (ev_call (ev_cons (ev_var hv) ev_nil) fun T _ => ?_) (ev_call (ev_cons (ev_bin (ev_var hv) ev_C fun T _ => ixT at0) ev_nil) fun T _ => ?_) fun T _ => mulR (by omega)) (ev_var hi) fun T _ => rfl) ev_nil)) (by show 2 ≤ 16777216; omega)
  · rw [← lenp]; rfl
  · rw [← len0]; rfl
theorem face_ok (C : Cl p e c) (S : Store) : Pu m_face_of [enc c] S (faceV p e c) := by
  refine pu_of rfl fun S' r => ?_
  unfold d_face_of
  refine wp_seq (wp_expr (ev_app (ev_cons (ev_var rfl) ev_nil) rfl (check_ok C _)) fun T1 r1 => ?_)
  refine wp_seq (wp_set (ev_ones (by have := C.picks; have := C.p2; omega) rfl (by show 2 < 3; omega)) fun T2 r2 => ?_)
  exact wp_ret (ev_face C rfl rfl) fun T3 r3 => ⟨rfl, (r1.trans r2).trans r3⟩
theorem onesR_le : ∀ r : List Bool, 0 ≤ onesR r ∧ onesR r ≤ r.length
  | [] => ⟨by simp [onesR], by simp [onesR]⟩
  | b :: r => by
    have := onesR_le r
    simp only [onesR, List.map_cons, List.sum_cons, List.length_cons] at this ⊢
    cases b <;> simp <;> omega
theorem ones_le : ∀ c : List (List Bool), (∀ r ∈ c, r.length = e) → 0 ≤ ones c ∧ ones c ≤ c.length * e
  | [], _ => ⟨by simp [ones], by simp [ones]⟩
  | r :: c, h => by
    have h1 := ones_le c fun x hx => h x (List.mem_cons_of_mem _ hx)
    have h2 := onesR_le r
    rw [h r (List.mem_cons_self ..)] at h2
    simp only [ones, List.map_cons, List.sum_cons, List.length_cons] at h1 ⊢
    have : ((c.length + 1 : Nat) : Int) * (e : Int) = (c.length : Int) * e + e := by
      rw [Int.natCast_add, Int.add_mul]; simp
    rw [this]
    omega
theorem pl_face (C : Cl p e c) {k : Nat} : Pl (k + 1) 22 (faceV p e c) := by
  have h := ones_le c C.ends
  rw [C.picks] at h
  have hm : p * e ≤ 24 * 24 := Nat.mul_le_mul C.p2 C.e2
  have hz : ((p * e : Nat) : Int) = (p : Int) * e := by simp
  refine pl_tup (xs := [_, _]) (w := 10) fun x hx => ?_
  simp only [List.mem_cons, List.not_mem_nil, or_false] at hx
  rcases hx with rfl | rfl
  · obtain ⟨n, hn⟩ := Int.eq_ofNat_of_zero_le h.1
    rw [hn] at h ⊢
    exact pl_int (by omega)
  · obtain ⟨n, hn⟩ := Int.eq_ofNat_of_zero_le (show 0 ≤ (p : Int) * e - ones c by omega)
    rw [hn]
    exact pl_int (by omega)
end
end Lk36

set_option Elab.async false
set_option linter.all false
set_option maxRecDepth 100000
set_option maxHeartbeats 4000000
set_option autoImplicit false
namespace Lk36
open PySem L2 Sh
def isT (t : Bool × Nat) (d : D) : Bool := match d with
  | .tup (.tup [.str x, .int i] :: _) => x == (if t.1 then ("end" : Str) else "pick") && i == (t.2 : Int)
  | _ => false
theorem sT_eq (a b : Bool) : (((if a then ("end" : Str) else "pick") == (if b then ("end" : Str) else "pick")) : Bool) = (a == b) := by
  cases a <;> cases b <;> simp [str_ne.1, str_ne.2]
theorem isT_frow {t u : Bool × Nat} {q : Nat} {L : Option Nat} {b : Bool} : isT t (frow u q L b) = decide (u = t) := by
  obtain ⟨u1, u2⟩ := u
  obtain ⟨t1, t2⟩ := t
  simp only [isT, frow, encT, sT_eq, Prod.mk.injEq]
  by_cases h1 : u1 = t1
  · by_cases h2 : u2 = t2
    · simp [h1, h2]
    · have : ¬ ((u2 : Int) = (t2 : Int)) := by omega
      simp [h1, h2, this]
  · have : (u1 == t1) = false := by simpa using h1
    simp [h1, this]
theorem thEq {a b : Bool × Nat} (ha : a.2 ≤ 24) (hb : b.2 ≤ 24) (T : Store) : pEq (encT a) (encT b) T = okR (.bl (decide (a = b))) T := by
  show (match eqO T (encT a) (encT b) with | some b => okR (D.bl b) T | none => none) = _
  unfold eqO
  rw [(pl_thread (k := 59) ha).rd T, (pl_thread (k := 59) hb).rd T]
  have : PyData.eqv (py (encT a)) (py (encT b)) = decide (a = b) := by
    have h := isT_frow (t := b) (u := a) (q := 0) (L := none) (b := true)
    rw [← h]
    simp [encT, frow, py, pys, PyData.eqv, PyData.eqvAll, isT]
  simp only [this]
theorem ix0 {t : Bool × Nat} {q : Nat} {L : Option Nat} {b : Bool} (T : Store) : pIx (frow t q L b) (.int 0) T = okR (encT t) T := rfl
theorem nodup_threads (p e : Nat) : (threadsL p e).Nodup := by
  unfold threadsL
  rw [List.nodup_append]
  refine ⟨?_, ?_, ?_⟩
  · exact List.Pairwise.map _ (fun a b h z => h (by simpa using z)) List.nodup_range
  · exact List.Pairwise.map _ (fun a b h z => h (by simpa using z)) List.nodup_range
  · intro a ha b hb z
    obtain ⟨i, _, rfl⟩ := List.mem_map.mp ha
    obtain ⟨j, _, rfl⟩ := List.mem_map.mp hb
    simp at z
theorem filter_one {F : Bool × Nat → List D} {P : D → Bool} {t : Bool × Nat} : ∀ {ts : List (Bool × Nat)}, ts.Nodup → t ∈ ts → (∀ u ∈ ts, ∀ d ∈ F u, isT t d = decide (u = t)) → (ts.flatMap F).filter (fun d => isT t d && P d) = (F t).filter P
  | [], _, h, _ => by cases h
  | u :: ts, hn, hm, hF => by
    obtain ⟨h1, h2⟩ := List.nodup_cons.mp hn
    have hF' := fun x hx => hF x (List.mem_cons_of_mem _ hx)
    rw [List.flatMap_cons, List.filter_append]
    by_cases hu : u = t
    · subst hu
      have e1 : (F u).filter (fun d => isT u d && P d) = (F u).filter P := by
        refine List.filter_congr fun d hd => ?_
        rw [hF u (List.mem_cons_self ..) d hd]
        simp
      have e2 : (ts.flatMap F).filter (fun d => isT u d && P d) = [] := by
        rw [List.filter_eq_nil_iff]
        intro d hd
        obtain ⟨x, hx, hdx⟩ := List.mem_flatMap.mp hd
        have hne : x ≠ u := fun z => h1 (z ▸ hx)
        rw [hF' x hx d hdx]
        simp [hne]
      rw [e1, e2, List.append_nil]
    · have e1 : (F u).filter (fun d => isT t d && P d) = [] := by
        rw [List.filter_eq_nil_iff]
        intro d hd
        rw [hF u (List.mem_cons_self ..) d hd]
        simp [hu]
      have hm' : t ∈ ts := by
        rcases List.mem_cons.mp hm with z | z
        · exact absurd z.symm hu
        · exact z
      rw [e1, List.nil_append, filter_one h2 hm' hF']
section
variable {p e : Nat} {c : List (List Bool)}
theorem isT_rows {t u : Bool × Nat} {l : List Bool} {d : D} (hd : d ∈ rowsL u l) : isT t d = decide (u = t) := by
  unfold rowsL at hd
  split at hd
  · cases List.mem_singleton.mp hd; exact isT_frow
  · obtain ⟨q, _, rfl⟩ := List.mem_map.mp hd; exact isT_frow
theorem due_filter (P : D → Bool) {t : Bool × Nat} (ht : t ∈ threadsL p e) : (dueL p e c).filter (fun d => isT t d && P d) = (rowsL t (lineOf c t)).filter P :=
  filter_one (nodup_threads p e) ht fun u _ d hd => isT_rows hd
def cnt (l : List Bool) : Nat := (plc l 0).length
theorem rows_cnt {t : Bool × Nat} {l : List Bool} : ((rowsL t l).filter fun d => !isN d).length = cnt l := by
  unfold rowsL cnt
  split
  · rename_i h
    rw [h]
    rfl
  · have : ((plc l 0).map fun q => frow t q (some (runL l q)) (ln l q)).filter (fun d => !isN d) = (plc l 0).map fun q => frow t q (some (runL l q)) (ln l q) := by
      rw [List.filter_eq_self]
      intro d hd
      obtain ⟨q, _, rfl⟩ := List.mem_map.mp hd
      rfl
    rw [this, List.length_map]
noncomputable def interV (p e : Nat) (c : List (List Bool)) : D := .tup ((threadsL p e).map fun t => .int (cnt (lineOf c t) : Nat))
inductive RF (T : Store) (c : List (List Bool)) : List D → List (Bool × Nat) → Prop
  | nil : RF T c [] []
  | cons {l : Nat} {t : Bool × Nat} {ys : List D} {ts : List (Bool × Nat)} : T[l]? = some (.lst (rowsL t (lineOf c t))) → RF T c ys ts → RF T c (.ref l :: ys) (t :: ts)
theorem RF.mono {T U : Store} (g : T <+: U) : ∀ {ys : List D} {ts : List (Bool × Nat)}, RF T c ys ts → RF U c ys ts
  | _, _, .nil => .nil
  | _, _, .cons a r => .cons (pre_get g a) (r.mono g)
theorem RF.snoc {T : Store} {l : Nat} {t : Bool × Nat} (a : T[l]? = some (.lst (rowsL t (lineOf c t)))) : ∀ {ys : List D} {ts : List (Bool × Nat)}, RF T c ys ts → RF T c (ys ++ [.ref l]) (ts ++ [t])
  | _, _, .nil => .cons a .nil
  | _, _, .cons a' r => .cons a' (r.snoc a)
def cntD (T : Store) (d : D) : D := match d with
  | .ref l => match T[l]? with
    | some (.lst xs) => if isN (xs.headD .non) = true then .int 0 else .int xs.length
    | _ => .non
  | _ => .non
theorem head_isN {t : Bool × Nat} {l : List Bool} : isN ((rowsL t l).headD .non) = decide (plc l 0 = []) := by
  unfold rowsL
  split
  · rename_i h; simp [h]; rfl
  · rename_i h
    cases h0 : plc l 0 with
    | nil => exact absurd h0 h
    | cons a b => simp; rfl
theorem RF.cnts {T : Store} : ∀ {ys : List D} {ts : List (Bool × Nat)}, RF T c ys ts → ys.map (cntD T) = ts.map fun t => .int (cnt (lineOf c t) : Nat)
  | _, _, .nil => rfl
  | _, _, .cons (t := t) a r => by
    rw [List.map_cons, List.map_cons, r.cnts]
    simp only [cntD, a, head_isN]
    by_cases h : plc (lineOf c t) 0 = []
    · simp [h, cnt]
    · have e1 : (rowsL t (lineOf c t)).length = (plc (lineOf c t) 0).length := by
        unfold rowsL
        rw [if_neg h, List.length_map]
      simp [h, cnt, e1]
theorem RF.mem {T : Store} : ∀ {ys : List D} {ts : List (Bool × Nat)} {d : D}, RF T c ys ts → d ∈ ys → ∃ l t, d = .ref l ∧ T[l]? = some (.lst (rowsL t (lineOf c t))) ∧ t ∈ ts
  | _, _, _, .cons a r, h => by
    rcases List.mem_cons.mp h with rfl | h
    · exact ⟨_, _, rfl, a, List.mem_cons_self ..⟩
    · obtain ⟨l, t, h1, h2, h3⟩ := r.mem h
      exact ⟨l, t, h1, h2, List.mem_cons_of_mem _ h3⟩
theorem inter_ok (C : Cl p e c) (S : Store) : Pu m_interlacings [enc c] S (interV p e c) := by
  have nth : (threadsL p e).length ≤ 48 := by
    have := C.p2; have := C.e2
    simp [threadsL]; omega
  refine pu_of rfl fun S' r => ?_
  unfold d_interlacings
  refine wp_seq (wp_expr (ev_app (ev_cons (ev_var rfl) ev_nil) rfl (check_ok C _)) fun T1 r1 => ?_)
  refine wp_seq (wpe_set (we_al (we_comp (we_iE (we_ev (ev_app (ev_cons (ev_var rfl) ev_nil) rfl (threads_ok C _)) fun T2 r2 => ⟨_, rfl, fun done acc T => (∃ ts, done = ts.map encT ∧ RF T c acc ts) ∧ acc.length = done.length ∧ S' <+: T, fun _ _ _ _ q hq => (by cases hq), ⟨⟨[], rfl, .nil⟩, rfl, r1.trans r2⟩, ?_, ?_⟩)))))
  · rintro done d rest acc T ed ⟨⟨ts, hd, hr⟩, hl, hT⟩
    obtain ⟨t, ht, rfl⟩ := List.mem_map.mp (mem_split ed)
    have hlen : acc.length < 48 := by
      have := congrArg List.length ed
      simp only [List.length_append, List.length_cons, List.length_map] at this
      omega
    refine ⟨_, T, rfl, true, T, rfl, fun _ => we_app (we_ev (ev_cons (ev_var rfl) (ev_cons (ev_var rfl) ev_nil)) fun T3 r3 => ⟨rfl, ?_⟩), fun z => by cases z⟩
    obtain ⟨l, T4, e4, r4, _, k4⟩ := floats_of_ok C ht T3
    exact ⟨_, T4, e4, by omega, ⟨ts ++ [t], by rw [hd]; simp, (hr.mono (r3.trans r4)).snoc k4⟩, by simp [hl], (hT.trans r3).trans r4⟩
  · rintro acc T ⟨⟨ts, hd, hr⟩, hl, hT⟩
    have inj : ∀ a b : Bool × Nat, encT a = encT b → a = b := by
      intro a b h
      have h2 := isT_frow (t := b) (u := a) (q := 0) (L := none) (b := true)
      have h3 := isT_frow (t := b) (u := b) (q := 0) (L := none) (b := true)
      unfold frow at h2 h3
      rw [h] at h2
      have h4 := h2.symm.trans h3
      simpa using h4
    have e6 : threadsL p e = ts := (List.map_inj_right (f := encT) (fun a b h => inj a b h)).mp hd
    subst e6
    rw [List.length_map] at hl
    generalize hl1 : T.length = l1
    have k1 : (T ++ [SO.lst acc])[l1]? = some (.lst acc) := by subst hl1; simp
    replace hr := hr.mono (pre_new T (.lst acc))
    replace hT := hT.trans (pre_new T (.lst acc))
    generalize T ++ [SO.lst acc] = U at k1 hr hT
    refine wp_ret (ev_new (ev_map (p := (acc, [(l1, acc)])) (ev_iE (ev_var rfl) fun T r => by simp only [walkOf, pre_get r k1]) (fun q hq => by cases List.mem_singleton.mp hq; exact k1) (cntD U) (by show acc.length ≤ _; omega) fun d hd => ?_) fun T _ => rfl) fun T3 r3 => ⟨by rw [hr.cnts]; rfl, hT.trans r3⟩
    obtain ⟨l, t, rfl, k, ht⟩ := hr.mem hd
    have hR : Rows (rowsL t (lineOf c t)) := fun x hx => due_rows C x (by unfold dueL; exact List.mem_flatMap.mpr ⟨t, ht, hx⟩)
    have hh : (rowsL t (lineOf c t)).headD .non ∈ rowsL t (lineOf c t) := by
      cases h0 : rowsL t (lineOf c t) with
      | nil => exact absurd h0 (rowsL_ne _ _)
      | cons a b => simp
    refine ⟨_, fun T _ => rfl, ev_if (b := isN ((rowsL t (lineOf c t)).headD .non)) (ev_T (ev_bin (ev_bin (ev_bin (ev_var rfl) ev_C fun T r => ixR (pre_get r k) (head_at (x := D.non) (rowsL_ne _ _))) ev_C fun T _ => ix2 hR hh T) ev_C fun T _ => rfl)) (fun h => ?_) (fun h => ?_)⟩
    · have : cntD U (.ref l) = .int 0 := by simp only [cntD, k, h, if_true]
      rw [this]
      exact ev_C
    · have : cntD U (.ref l) = .int ((rowsL t (lineOf c t)).length : Nat) := by simp only [cntD, k, h, Bool.false_eq_true, if_false]
      rw [this]
      exact ev_call (ev_cons (ev_var rfl) ev_nil) fun T r => lenR (pre_get r k)
theorem pl_inter (C : Cl p e c) {k : Nat} : Pl (k + 1) 528 (interV p e c) := by
  have nth : (threadsL p e).length ≤ 48 := by
    have := C.p2; have := C.e2
    simp [threadsL]; omega
  refine (pl_tup (w := 10) fun x hx => ?_).mono (Nat.le_trans (Nat.mul_le_mul_right _ (by rw [List.length_map]; exact nth)) (by decide))
  obtain ⟨t, ht, rfl⟩ := List.mem_map.mp hx
  have := (line_pos C ht).2
  have h2 : cnt (lineOf c t) ≤ (lineOf c t).length := by
    unfold cnt plc
    refine Nat.le_trans (List.length_filter_le _ _) ?_
    rw [List.length_range']
    omega
  exact pl_int (by omega)
end
end Lk36

set_option Elab.async false
set_option linter.all false
set_option maxRecDepth 100000
set_option maxHeartbeats 8000000
set_option autoImplicit false
namespace Lk36
open PySem L2 Sh
def sameT (a b : D) : Bool := match a, b with
  | .tup [.str x, .int i], .tup [.str y, .int j] => x == y && i == j
  | _, _ => false
def fstT (d x : D) : Bool := match x with
  | .tup (h :: _) => sameT h d
  | _ => false
theorem fstT_frow {t u : Bool × Nat} {q : Nat} {L : Option Nat} {b : Bool} : fstT (encT t) (frow u q L b) = isT t (frow u q L b) := rfl
theorem bad_ok {x : D} (h : x ∈ [D.non, .int 0, .int 25, .bl true, .str "1", .tup []]) (S : Store) : Pu m_is_number [x, .int 1, .int 24] S (.bl false) := by
  simp only [List.mem_cons, List.not_mem_nil, or_false] at h
  rcases h with rfl | rfl | rfl | rfl | rfl | rfl
  · exact num_not (K := "NoneType") (fun T _ => rfl) (by decide) _ _
  · exact num_ok 0 1 24 S
  · exact num_ok 25 1 24 S
  · exact num_not (K := "bool") (fun T _ => rfl) (by decide) _ _
  · exact num_not (K := "str") (fun T _ => rfl) (by decide) _ _
  · exact num_not (K := "tuple") (fun T _ => rfl) (by decide) _ _
section
variable {p e : Nat} {c : List (List Bool)}
/-- the last look: the lengths of a thread -/
theorem lens_ok (C : Cl p e c) {t : Bool × Nat} (ht : t ∈ threadsL p e) {ρ : Rho} {S : Store} {l13 : Nat} (h13 : ρ[13]? = some (some (.ref l13))) (h12 : ρ[12]? = some (some (.int ((lineOf c t).length : Nat)))) (k : S[l13]? = some (.lst ((rowsL t (lineOf c t)).map rowLen))) :
    Ev (tAndF (fT (fBin pNe (fVar 13) (fAl (fLst (fCons (fC .non) fNil))))) (fT (fBin pNe (fCall (p1L (pSeq qSum)) (fCons (fVar 13) fNil)) (fVar 12)))) ρ S false := by
  obtain ⟨pos, le⟩ := line_pos C ht
  have hR : Rows (rowsL t (lineOf c t)) := fun x hx => due_rows C x (by unfold dueL; exact List.mem_flatMap.mpr ⟨t, ht, hx⟩)
  generalize lineOf c t = l at *
  have ne : ∀ T l', S <+: T → T[l']? = some (.lst [D.non]) → pNe (.ref l13) (.ref l') T = okR (.bl (!(PyData.eqvAll (pys ((rowsL t l).map rowLen)) (pys [D.non])))) T := fun T l' r k' => by
    show (match eqO T (.ref l13) (.ref l') with | some b => okR (D.bl (!b)) T | none => none) = _
    unfold eqO
    rw [pyD_refl (pre_get r k) (pls_len hR), pyD_refl (w := 0) k' fun x hx => by cases List.mem_singleton.mp hx; exact pl_non]
    simp only [PyData.eqv]
  by_cases h : plc l 0 = []
  · have er : (rowsL t l).map rowLen = [D.non] := by unfold rowsL; rw [if_pos h]; rfl
    refine ev_and (b := false) (ev_T (ev_bin_al (ev_var h13) (ev_lst (ev_cons ev_C ev_nil) (by show 1 ≤ 16777216; omega)) fun T l' r k' => ?_)) (fun z => by cases z) (c := false)
    rw [ne T l' r k', er]
    simp [pys, py, PyData.eqvAll, PyData.eqv]
  · have er : (rowsL t l).map rowLen = (plc l 0).map fun q => D.int (runL l q : Nat) := by
      unfold rowsL
      rw [if_neg h, List.map_map]
      rfl
    refine ev_and (b := true) (ev_T (ev_bin_al (ev_var h13) (ev_lst (ev_cons ev_C ev_nil) (by show 1 ≤ 16777216; omega)) fun T l' r k' => ?_)) (fun _ => ev_T (ev_bin (d := .int (l.length : Nat)) (ev_call (ev_cons (ev_var h13) ev_nil) fun T r => ?_) (ev_var h12) fun T _ => ?_)) (c := false)
    · rw [ne T l' r k', er]
      cases h0 : plc l 0 with
      | nil => exact absurd h0 h
      | cons a b => simp [pys, py, PyData.eqvAll, PyData.eqv]
    · simp only [p1L, pSeq, seqOf, pre_get r k, er]
      have e2 : ((plc l 0).map fun q => D.int (runL l q : Nat)) = ((plc l 0).map fun q => ((runL l q : Nat) : Int)).map D.int := by rw [List.map_map]; rfl
      have e3 : ∀ xs : List Nat, (xs.map fun q => ((runL l q : Nat) : Int)).sum = ((xs.map (runL l)).sum : Nat) := by
        intro xs
        induction xs with
        | nil => rfl
        | cons x xs ih => simp only [List.map_cons, List.sum_cons, ih]; omega
      rw [e2]
      simp only [qSum, allI_map, e3, run_sum pos h]
    · rw [neI]; simp
end
theorem law_true (cells : List Int) (_ : cells.length ≤ 63) : ∃ S1, m_law [.fl (cells.map D.int)] [] = some (.ok (.bl true), S1) := by
  suffices key : ∃ r T, m_law [.fl (cells.map D.int)] [] = some (r, T) ∧ r = .ok (.bl true) by
    obtain ⟨r, T, e, rfl⟩ := key
    exact ⟨T, e⟩
  refine mOf_wp rfl ?_
  unfold d_law
  refine wp_seq (wpe_set (we_app (we_cons (we_var rfl (we_nil ⟨rfl, ?_⟩)))))
  obtain ⟨ld, ns, T1, e1, _, k1⟩ := draws_ok cells []
  refine ⟨_, T1, e1, ?_⟩
  refine wp_seq (wp_setL (ev_lst (ev_cons ev_C ev_nil) (by show 1 ≤ 16777216; omega)) fun T2 la r2 s2 k2 => ?_)
  have hD : Dr ld la ns T2 := ⟨pre_get r2 k1, ⟨0, k2⟩, by have := (List.getElem?_eq_some_iff.mp k1).1; omega⟩
  refine wp_seq (wp_for (ev_iR1 (ev_cons ev_C ev_nil) (by decide)) (fun done ρ T => ∃ (a3 a4 a5 a6 a7 a8 a9 a10 a11 a12 a13 : Option D), ρ = [some (.fl (cells.map D.int)), some (.ref ld), some (.ref la), a3, a4, a5, a6, a7, a8, a9, a10, a11, a12, a13, none, none, none] ∧ Dr ld la ns T ∧ (done ≠ [] → ∃ p e c, Cl p e c ∧ a4 = some (enc c)))
    (fun _ _ _ _ q hq => by cases hq) (fun T r => ⟨none, none, none, none, none, none, none, none, none, none, none, rfl, hD.pre r, fun z => absurd rfl z⟩) ?_ ?_)
  · rintro done d rest ρ T ed ⟨a3, a4, a5, a6, a7, a8, a9, a10, a11, a12, a13, rfl, hT, _⟩
    refine ⟨_, T, rfl, ?_⟩
    -- the cloth
    refine wp_seq (wpe_set (we_app (we_cons (we_bin (we_al (we_ev (ev_lst (ev_cons ev_C (ev_cons ev_C (ev_cons ev_C ev_nil))) (by show 3 ≤ 16777216; omega)) fun T3 r3 => we_take (by decide) ((hT.pre r3).put) (fun T => ev_var rfl) (fun T => ev_var rfl) (fun T => ev_C) fun k T4 k0 k1 h4 g4 => ?_))))))
    have hla3 : T3.length ≠ la := by
      have := (hT.lt (l := T3.length) r3.length_le).2
      exact this
    have kl : T4[T3.length]? = some (.lst [D.int 2, .int 6, .int 24]) := g4.get (by simp) hla3
    obtain ⟨x, x1, x2, _⟩ := atI_in (xs := [D.int 2, .int 6, .int 24]) k0 (by exact k1)
    refine ⟨x, ixR kl x1, we_ev (ev_cons (ev_var rfl) (ev_cons (ev_var rfl) ev_nil)) fun T5 r5 => ⟨rfl, ?_⟩⟩
    obtain ⟨most, hm, h0, h24⟩ : ∃ m : Nat, x = .int m ∧ 0 < m ∧ m ≤ 24 := by
      simp only [List.mem_cons, List.not_mem_nil, or_false] at x2
      rcases x2 with rfl | rfl | rfl
      · exact ⟨2, rfl, by omega, by omega⟩
      · exact ⟨6, rfl, by omega, by omega⟩
      · exact ⟨24, rfl, by omega, by omega⟩
    subst hm
    obtain ⟨p, e, c, T6, e6, hp, he, gd, h6, _⟩ := cloth_ok (h4.pre r5) most h0 h24
    refine ⟨_, T6, e6, ?_⟩
    have C : Cl p e c := { gd with p1 := hp.1, p2 := hp.2, e1 := he.1, e2 := he.2 }
    have hR := due_rows C
    have hl := due_len C
    have hne := due_ne C
    -- the floats
    refine wp_seq (wpe_set (we_app (we_ev (ev_cons (ev_var rfl) ev_nil) fun T7 r7 => ⟨rfl, ?_⟩)))
    obtain ⟨l5, T8, e8, r8, s8, k5⟩ := lawfloats_ok C T7
    refine ⟨_, T8, e8, ?_⟩
    have h8 := h6.pre (r7.trans r8)
    have n5 : l5 ≠ la := (h6.lt (Nat.le_trans r7.length_le s8)).2
    refine wp_seq (wp_set (ev_app (ev_cons (ev_var rfl) ev_nil) rfl (floats_ok C _)) fun T9 r9 => ?_)
    have k5' := pre_get r9 k5
    refine wp_seq (wp_if (b := false || false) (ev_or (ev_reprs (ev_var rfl) (ev_call (ev_cons (ev_var rfl) ev_nil) fun T r => by simp only [p1L, pTuple, pre_get r k5']) (pl_due (k := 57) C (fun d hd => hd) hl) (by decide)) fun _ => ev_reprs (ev_app (ev_cons (ev_var rfl) ev_nil) rfl (longest_ok C _)) (ev_app (ev_cons (ev_var rfl) ev_nil) rfl (lawlongest_ok hR hl hne k5')) (pl_long (k := 57) hR hne) (by decide)) (fun z => by cases z) (fun _ T10 r10 => wp_nil ?_))
    have k5'' := pre_get r10 k5'
    have h10 := h8.pre (r9.trans r10)
    -- the bound
    refine wp_seq (wpe_set (we_app (we_cons (we_al (we_ev (ev_lst (ev_cons ev_C (ev_cons ev_C (ev_cons ev_C (ev_cons ev_C (ev_cons ev_C ev_nil))))) (by show 5 ≤ 16777216; omega)) fun T11 r11 => we_ev (ev_cons (ev_var rfl) (ev_cons (ev_var rfl) ev_nil)) fun T12 r12 => ⟨rfl, ?_⟩)))))
    have hla11 : T11.length ≠ la := (h10.lt (l := T11.length) r11.length_le).2
    have kl2 : T12[T11.length]? = some (.lst [D.int 1, .int 2, .int 3, .int 24, .int 5]) := pre_get r12 (by simp)
    have h12 : Dr ld la ns T12 := ((h10.pre r11).put).pre r12
    obtain ⟨x, T13, e13, x3, h13, g13⟩ := one_ok h12 kl2 hla11 (by show 0 < 5; omega)
    refine ⟨_, T13, e13, ?_⟩
    have k13 : T13[l5]? = some (.lst (dueL p e c)) := g13.get (pre_get (r11.trans ((pre_new _ _).trans r12)) k5'') n5
    obtain ⟨m, hm, m1, m24⟩ : ∃ m : Int, x = .int m ∧ 1 ≤ m ∧ m ≤ 24 := by
      simp only [List.mem_cons, List.not_mem_nil, or_false] at x3
      rcases x3 with rfl | rfl | rfl | rfl | rfl
      · exact ⟨1, rfl, by omega, by omega⟩
      · exact ⟨2, rfl, by omega, by omega⟩
      · exact ⟨3, rfl, by omega, by omega⟩
      · exact ⟨24, rfl, by omega, by omega⟩
      · exact ⟨5, rfl, by omega, by omega⟩
    subst hm
    have chk5 : ∀ q ∈ [(l5, dueL p e c)], T13[q.1]? = some (.lst q.2) := fun q hq => by cases List.mem_singleton.mp hq; exact k13
    refine wp_seq (wp_if (b := false) (ev_reprs (ev_app (ev_cons (ev_var rfl) (ev_cons (ev_var rfl) ev_nil)) rfl (told_ok C m1 m24 _)) (ev_new (ev_comp (p := (dueL p e c, [(l5, dueL p e c)])) (ev_iE (ev_var rfl) fun T r => by simp only [walkOf, pre_get r k13]) chk5 (tooL m) (fun d => d) (by show (dueL p e c).length ≤ _; omega) fun d hd => ⟨_, fun T _ => rfl, ev_tooL hR hd rfl rfl, fun _ => ev_var rfl⟩) fun T _ => by rw [List.map_id']; rfl) (pl_due (k := 57) C (fun d hd => (List.mem_filter.mp hd).1) (Nat.le_trans (List.length_filter_le _ _) hl)) (by decide)) (fun z => by cases z) (fun _ T14 r14 => wp_nil ?_))
    -- the crossings on top
    have cl : c.length ≤ 24 := by have := C.picks; have := C.p2; omega
    refine wp_seq (wp_set (ev_ones cl rfl (by show 14 < 17; omega)) fun T15 r15 => ?_)
    refine wp_seq (wp_if (b := false) (ev_reprs (ev_app (ev_cons (ev_var rfl) ev_nil) rfl (face_ok C _)) (ev_face C rfl rfl) (pl_face (k := 59) C) (by decide)) (fun z => by cases z) (fun _ T16 r16 => wp_nil ?_))
    -- the threads
    refine wp_seq (wp_setL (ev_threads C rfl (by show 15 < 17; omega) (by show 16 < 17; omega)) fun T17 l9 r17 s17 k9 => ?_)
    have r1317 := ((r14.trans r15).trans r16).trans r17
    have h17 := h13.pre r1317
    have k17 := pre_get r1317 k13
    have chk9 : ∀ q ∈ [(l9, (threadsL p e).map encT)], T17[q.1]? = some (.lst q.2) := fun q hq => by cases List.mem_singleton.mp hq; exact k9
    have nth : (threadsL p e).length ≤ 48 := by
      have := C.p2; have := C.e2
      simp [threadsL]; omega
    have rowf : ∀ d ∈ dueL p e c, ∀ t : Bool × Nat, fstT (encT t) d = isT t d := fun d hd t => by
      obtain ⟨u, q, L, b, rfl, _⟩ := hR d hd
      rfl
    have cntz : ∀ t ∈ threadsL p e, ((dueL p e c).filter fun x => fstT (encT t) x && !isN x).length = cnt (lineOf c t) := fun t ht => by
      rw [show ((dueL p e c).filter fun x => fstT (encT t) x && !isN x) = (dueL p e c).filter fun x => isT t x && !isN x from List.filter_congr fun d hd => by rw [rowf d hd t], due_filter _ ht, rows_cnt]
    have eqT : ∀ {t : Bool × Nat}, t ∈ threadsL p e → ∀ d ∈ dueL p e c, ∀ {ρ : Rho} {S : Store} {i j : Nat}, ρ[i]? = some (some d) → ρ[j]? = some (some (encT t)) → Ev (fT (fBin pEq (fBin pIx (fVar i) (fC (.int 0))) (fVar j))) ρ S (isT t d) := by
      intro t ht d hd ρ S i j hi hj
      obtain ⟨u, q, L, b, rfl, hu, h24u, _, _⟩ := mem_due C hd
      have h24 : t.2 ≤ 24 := by
        have := C.p2; have := C.e2
        rcases mem_threads ht with ⟨_, h⟩ | ⟨_, h⟩ <;> omega
      exact ev_T (ev_bin (ev_bin (ev_var hi) ev_C fun T _ => ix0 T) (ev_var hj) fun T _ => by rw [thEq h24u h24, isT_frow])
    refine wp_seq (wp_setL (ev_map (p := ((threadsL p e).map encT, [(l9, (threadsL p e).map encT)])) (ev_iE (ev_var rfl) fun T r => by simp only [walkOf, pre_get r k9]) chk9 (fun d => .int (((dueL p e c).filter fun x => fstT d x && !isN x).length : Nat)) (by show ((threadsL p e).map encT).length ≤ _; rw [List.length_map]; omega) fun d hd => ?_) fun T18 l10 r18 s18 k10 => ?_)
    · obtain ⟨t, ht, rfl⟩ := List.mem_map.mp hd
      have chk5b : ∀ q ∈ [(l5, dueL p e c)], T17[q.1]? = some (.lst q.2) := fun q hq => by cases List.mem_singleton.mp hq; exact k17
      refine ⟨_, fun T _ => rfl, ev_new (ev_comp (p := (dueL p e c, [(l5, dueL p e c)])) (ev_iE (ev_var rfl) fun T r => by simp only [walkOf, pre_get r k17]) chk5b (fun x => fstT (encT t) x && !isN x) (fun d => d) (by show (dueL p e c).length ≤ _; omega) fun x hx => ⟨_, fun T _ => rfl, ev_and (b := fstT (encT t) x) ?_ fun _ => ev_T (ev_bin (ev_bin (ev_var rfl) ev_C fun T _ => ix2 hR hx T) ev_C fun T _ => rfl), fun _ => ev_var rfl⟩) fun T _ => by rw [List.map_id']; rfl⟩
      rw [rowf x hx t]
      exact eqT ht x hx rfl rfl
    have k10' : T18[l10]? = some (.lst ((threadsL p e).map fun t => D.int (cnt (lineOf c t) : Nat))) := by
      rw [k10, List.map_map]
      congr 2
      refine List.map_congr_left fun t ht => ?_
      simp only [Function.comp, cntz t ht]
    refine wp_seq (wp_if (b := false) (ev_reprs (d := interV p e c) (ev_app (ev_cons (ev_var rfl) ev_nil) rfl (inter_ok C _)) (ev_call (ev_cons (ev_var rfl) ev_nil) fun T r => by simp only [p1L, pTuple, pre_get r k10']; rfl) (pl_inter (k := 59) C) (by decide)) (fun z => by cases z) (fun _ T19 r19 => wp_nil ?_))
    have h19 := h17.pre (r18.trans r19)
    have k9' := pre_get (r18.trans r19) k9
    -- each thread
    refine wp_for (p := ((threadsL p e).map encT, [(l9, (threadsL p e).map encT)])) (ev_iE (ev_var rfl) fun T r => by simp only [walkOf, pre_get r k9'])
      (fun _ ρ T => ∃ (b11 b12 b13 : Option D), ρ = [some (.fl (cells.map D.int)), some (.ref ld), some (.ref la), some d, some (enc c), some (.ref l5), some (.tup (dueL p e c)), some (.int m), some (.int (ones c)), some (.ref l9), some (.ref l10), b11, b12, b13, none, none, none] ∧ T19 <+: T) ?_ (fun T r => ⟨_, _, _, rfl, r⟩) ?_ ?_
    · rintro n ρ T ⟨_, _, _, _, r⟩ q hq
      cases List.mem_singleton.mp hq
      exact pre_get r k9'
    · rintro dn d2 rest2 ρ U ed2 ⟨b11, b12, b13, rfl, rU⟩
      obtain ⟨t, ht, rfl⟩ := List.mem_map.mp (mem_split ed2)
      refine ⟨_, U, rfl, wp_seq (wpe_set (we_call (we_cons (we_app (we_ev (ev_cons (ev_var rfl) (ev_cons (ev_var rfl) ev_nil)) fun U2 q2 => ⟨rfl, ?_⟩)))))⟩
      obtain ⟨ll, U3, e3, q3, _, kk⟩ := line_ok C ht U2
      refine ⟨_, U3, e3, we_nil ⟨.int ((lineOf c t).length : Nat), lenBl kk, ?_⟩⟩
      refine wp_seq (wp_setL (ev_comp (p := (dueL p e c, [])) (ev_iE (ev_var rfl) fun T _ => rfl) (fun q hq => by cases hq) (isT t) rowLen (by show (dueL p e c).length ≤ _; omega) fun x hx => ⟨_, fun T _ => rfl, eqT ht x hx rfl rfl, fun _ => ev_bin (ev_var rfl) ev_C fun T _ => ix2 hR hx T⟩) fun U4 l13 q4 s4 k4 => ?_)
      have e13 : (dueL p e c).filter (isT t) = rowsL t (lineOf c t) := by
        have := due_filter (p := p) (e := e) (c := c) (fun _ => true) ht
        simp only [Bool.and_true] at this
        rw [this]
        simp
      rw [e13] at k4
      exact wp_if (b := false) (lens_ok C ht rfl rfl k4) (fun z => by cases z) (fun _ U5 q5 => wp_nil ⟨_, _, _, rfl, (((rU.trans q2).trans q3).trans q4).trans q5⟩)
    · rintro ρ U ⟨b11, b12, b13, rfl, rU⟩
      exact ⟨_, _, _, _, _, _, _, _, _, _, _, rfl, h19.pre rU, fun _ => ⟨p, e, c, C, rfl⟩⟩
  · rintro ρ T ⟨a3, a4, a5, a6, a7, a8, a9, a10, a11, a12, a13, rfl, hT, hc⟩
    obtain ⟨p, e, c, C, rfl⟩ := hc (by unfold dInts; decide)
    refine wpe_ret (we_bin (we_app (we_cons (we_var rfl (we_cons (we_app (we_cons (we_al (we_ev (ev_lst (ev_cons ev_C (ev_cons ev_C (ev_cons ev_C (ev_cons ev_C (ev_cons ev_C (ev_cons (ev_tup ev_nil (by show 0 ≤ 16777216; omega)) ev_nil)))))) (by show 6 ≤ 16777216; omega)) fun T3 r3 => we_ev (ev_cons (ev_var rfl) (ev_cons (ev_var rfl) ev_nil)) fun T4 r4 => ⟨rfl, ?_⟩)))))))))
    have hla : T3.length ≠ la := (hT.lt (l := T3.length) r3.length_le).2
    have kl : T4[T3.length]? = some (.lst [D.non, .int 0, .int 25, .bl true, .str "1", .tup []]) := pre_get r4 (by simp)
    obtain ⟨x, T5, e5, x3, _, _⟩ := one_ok (((hT.pre r3).put).pre r4) kl hla (by show 0 < 6; omega)
    refine ⟨x, T5, e5, we_nil ⟨rfl, ?_⟩⟩
    obtain ⟨T6, _, e6⟩ := told_bad C (bad_ok x3) T5 T5 (pre_self T5)
    exact ⟨_, T6, e6, we_C ⟨_, strEq (x := "most") (y := "most") lay_most lay_most, rfl⟩⟩
end Lk36

set_option Elab.async false
set_option linter.all false
open PySem PySem.W PyProof.Rows
set_option maxRecDepth 100000 in
set_option maxHeartbeats 0 in
theorem PySem.Challenge.cw_hangstogether_k36_whole_floats_holds : PySem.Challenge.rw_hangstogether_k36_whole_floats.Holds := by
  w_on; o_law; k_head; (case hw => w_witness2)
  k_fill
  refine Sh.law_walk (l := PySem.Challenge.rw_hangstogether_k36_whole_floats) (n := 63) (k := 8) (x := "script") (C := fun _ _ _ => False) (m := Lk36.m_law) rfl (by decide) rfl ⟨rfl, by decide, by decide⟩ (fun w h Y => PySem.W.kIn_of Y) ?F Lk36.law_true
  case F =>
    intro w mg fa h KX G hmg
    refine' Lk36.all_mk KX G hmg Lk36.law_g ?c_MAX_ENDS ?c_MAX_PICKS ?z_abs ?z_all ?z_int ?z_isinstance ?z_len ?z_list ?z_max ?z_range ?z_repr ?z_sum ?z_tuple ?z_type ?z_zip ?a0 ?l0 ?co0 ?ke0 ?a1 ?l1 ?co1 ?ke1 ?a2 ?l2 ?co2 ?ke2 ?a3 ?l3 ?co3 ?ke3 ?a4 ?l4 ?co4 ?ke4 ?a5 ?l5 ?co5 ?ke5 ?a6 ?l6 ?co6 ?ke6 ?a7 ?l7 ?co7 ?ke7 ?a8 ?l8 ?co8 ?ke8 ?a9 ?l9 ?co9 ?ke9 ?a10 ?l10 ?co10 ?ke10 ?a11 ?l11 ?co11 ?ke11 ?a12 ?l12 ?co12 ?ke12 ?a13 ?l13 ?co13 ?ke13 ?a14 ?l14 ?co14 ?ke14 ?a15 ?l15 ?co15 ?ke15 ?a16 ?l16 ?co16 ?ke16 ?a17 ?l17 ?co17 ?ke17 ?a18 ?l18 ?co18 ?ke18 ?a19 ?l19 ?co19 ?ke19 ?a20 ?l20 ?co20 ?ke20 ?a21 ?l21 ?co21 ?ke21 ?a22 ?l22 ?co22 ?ke22 ?a23 ?l23 ?co23 ?ke23 ?a24 ?l24 ?co24 ?ke24 ?a25 ?l25 ?co25 ?ke25 ?xa_ClothError ?xl_ClothError ?xr_ClothError ?xs_ClothError ?xg_ClothError ?xh_ClothError ?xn_ClothError ?xi_ClothError ?xt_ClothError ?yl_ClothError ?yc_ClothError ?yk_ClothError ?xk_ClothError ?xe_ClothError ?xy_ClothError ?xd_ClothError ?xa_ArgumentError ?xl_ArgumentError ?xr_ArgumentError ?xs_ArgumentError ?xg_ArgumentError ?xh_ArgumentError ?xn_ArgumentError ?xi_ArgumentError ?xt_ArgumentError ?yl_ArgumentError ?yc_ArgumentError ?yk_ArgumentError ?xk_ArgumentError ?xe_ArgumentError ?xy_ArgumentError ?xd_ArgumentError ?xc_ArgumentError ?xq_ClothError_ArgumentError ?xq_ArgumentError_ArgumentError
    (case c_MAX_ENDS => k_is)
    (case c_MAX_PICKS => k_is)
    (case z_abs => k_is)
    (case z_all => k_is)
    (case z_int => k_is)
    (case z_isinstance => k_is)
    (case z_len => k_is)
    (case z_list => k_is)
    (case z_max => k_is)
    (case z_range => k_is)
    (case z_repr => k_is)
    (case z_sum => k_is)
    (case z_tuple => k_is)
    (case z_type => k_is)
    (case z_zip => k_is)
    (case a0 => k_is)
    (case l0 => k_is)
    (case co0 => k_is)
    (case ke0 => k_is)
    (case a1 => k_is)
    (case l1 => k_is)
    (case co1 => k_is)
    (case ke1 => k_is)
    (case a2 => k_is)
    (case l2 => k_is)
    (case co2 => k_is)
    (case ke2 => k_is)
    (case a3 => k_is)
    (case l3 => k_is)
    (case co3 => k_is)
    (case ke3 => k_is)
    (case a4 => k_is)
    (case l4 => k_is)
    (case co4 => k_is)
    (case ke4 => k_is)
    (case a5 => k_is)
    (case l5 => k_is)
    (case co5 => k_is)
    (case ke5 => k_is)
    (case a6 => k_is)
    (case l6 => k_is)
    (case co6 => k_is)
    (case ke6 => k_is)
    (case a7 => k_is)
    (case l7 => k_is)
    (case co7 => k_is)
    (case ke7 => k_is)
    (case a8 => k_is)
    (case l8 => k_is)
    (case co8 => k_is)
    (case ke8 => k_is)
    (case a9 => k_is)
    (case l9 => k_is)
    (case co9 => k_is)
    (case ke9 => k_is)
    (case a10 => k_is)
    (case l10 => k_is)
    (case co10 => k_is)
    (case ke10 => k_is)
    (case a11 => k_is)
    (case l11 => k_is)
    (case co11 => k_is)
    (case ke11 => k_is)
    (case a12 => k_is)
    (case l12 => k_is)
    (case co12 => k_is)
    (case ke12 => k_is)
    (case a13 => k_is)
    (case l13 => k_is)
    (case co13 => k_is)
    (case ke13 => k_is)
    (case a14 => k_is)
    (case l14 => k_is)
    (case co14 => k_is)
    (case ke14 => k_is)
    (case a15 => k_is)
    (case l15 => k_is)
    (case co15 => k_is)
    (case ke15 => k_is)
    (case a16 => k_is)
    (case l16 => k_is)
    (case co16 => k_is)
    (case ke16 => k_is)
    (case a17 => k_is)
    (case l17 => k_is)
    (case co17 => k_is)
    (case ke17 => k_is)
    (case a18 => k_is)
    (case l18 => k_is)
    (case co18 => k_is)
    (case ke18 => k_is)
    (case a19 => k_is)
    (case l19 => k_is)
    (case co19 => k_is)
    (case ke19 => k_is)
    (case a20 => k_is)
    (case l20 => k_is)
    (case co20 => k_is)
    (case ke20 => k_is)
    (case a21 => k_is)
    (case l21 => k_is)
    (case co21 => k_is)
    (case ke21 => k_is)
    (case a22 => k_is)
    (case l22 => k_is)
    (case co22 => k_is)
    (case ke22 => k_is)
    (case a23 => k_is)
    (case l23 => k_is)
    (case co23 => k_is)
    (case ke23 => k_is)
    (case a24 => k_is)
    (case l24 => k_is)
    (case co24 => k_is)
    (case ke24 => k_is)
    (case a25 => k_is)
    (case l25 => k_is)
    (case co25 => k_is)
    (case ke25 => k_is)
    (case xa_ClothError => k_is)
    (case xl_ClothError => k_is)
    (case xr_ClothError => rfl)
    (case xs_ClothError => k_is)
    (case xg_ClothError => k_is)
    (case xh_ClothError => k_is)
    (case xn_ClothError => k_is)
    (case xi_ClothError => k_is)
    (case xt_ClothError => k_is)
    (case yl_ClothError => k_is)
    (case yc_ClothError => k_is)
    (case yk_ClothError => k_is)
    (case xk_ClothError => k_is)
    (case xe_ClothError => k_is)
    (case xy_ClothError => k_is)
    (case xd_ClothError => k_is)
    (case xa_ArgumentError => k_is)
    (case xl_ArgumentError => k_is)
    (case xr_ArgumentError => rfl)
    (case xs_ArgumentError => k_is)
    (case xg_ArgumentError => k_is)
    (case xh_ArgumentError => k_is)
    (case xn_ArgumentError => k_is)
    (case xi_ArgumentError => k_is)
    (case xt_ArgumentError => k_is)
    (case yl_ArgumentError => k_is)
    (case yc_ArgumentError => k_is)
    (case yk_ArgumentError => k_is)
    (case xk_ArgumentError => k_is)
    (case xe_ArgumentError => k_is)
    (case xy_ArgumentError => k_is)
    (case xd_ArgumentError => k_is)
    (case xc_ArgumentError => k_is)
    (case xq_ClothError_ArgumentError => first | rfl | k_is)
    (case xq_ArgumentError_ArgumentError => first | rfl | k_is)
