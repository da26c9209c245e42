import PyProof.Rows.All
import KE.KMathGC
import Wide.All
import OpenK.AllK
import Wide.FinOn
import HandS.ForExc
import HandS.ForMost
import HandS.Deep
import HandS.Conv
import KE.KeyNested
import KE.KDictWalk
import KE.KTabLook
import HandS.Star
import HandS.Flow
import HandS.Iter
import HandS.Zip
import HandS.IsInst
import HandS.TupAny
import HandS.More
import HandS.ExcInit
import HandS.ExcField
import HandS.Style
import HandS.ExcIs
import KE.GoesEnum
import HandS.TupMul
import PyProof.StrOps2
import HandS.Gcd
import KE.DataMinMax
import KE.KDictList
import HandS.DictComp
import HandS.Zip0
import KE.KItemsList
import HandS.RevTup
import HandS.DictTup
import HandS.SortKw
import HandS.Dict
import HandS.Small
import HandS.WordsDict
import HandS.TupLen
import KE.KDictKeyed
import KE.KDictPairs
import HandS.RevRange
import HandS.RaiseMore
import KE.KTops
import PySem.Challenge.RW_hangstogether_k11_whole_threadings_told
import PyProof.ReprLen
import PyProof.P3Eq
set_option Elab.async false
set_option linter.all false
set_option maxRecDepth 100000
set_option maxHeartbeats 4000000
set_option autoImplicit false
/-! A layer over the hand layer: values without addresses, a store of what can change, and for each piece of the text
a plain function of both. -/
namespace Sh
open PySem PySem.Spec PyProof.Rows L2

/-- a value: tuples stand as they are, what can change stands in the store -/
inductive D where
  | non | bl (b : Bool) | int (i : Int) | str (x : Str) | tup (xs : List D) | ref (l : Nat) | fl (xs : List D) | rng (lo hi st : Int) | gd (kvs : List (Str × Int))

/-- a dict's key: an int or a text; a tuple of data -/
abbrev DKey := Sum Key NestedKey
abbrev NK := NestedKey × Addr
mutual
def dNK : NestedKey → D
  | .none => .non
  | .num i => .int i
  | .text x => .str x
  | .tup ks => .tup (dNKs ks)
def dNKs : List NestedKey → List D
  | [] => []
  | k :: ks => dNK k :: dNKs ks
end
/-- what stands in the store -/
inductive SO where
  | lst (xs : List D)
  | ins (c : Str) (fs : List (Str × D))
  | dic (ks : List DKey) (ds : List D)
  | fdic (ks : List DKey) (ds : List D)
abbrev Store := List SO
abbrev Rho := List (Option D)
/-- an exception: its class, its fields -/
abbrev Ex := Str × List (Str × D)

/-- a list that stands still: it is read, never written -/
def FzL (K : PySem.W.Frag) (H : Hp) (a : Addr) (vs : List V) : Prop := (∃ o, H a = some (.frz o (.lst vs))) ∨
  ∃ (o : Obj) (its : Array Value) (n : Nat), K.lookup a = some o ∧ o.cls = .type "list" ∧ o.dict = none ∧ o.data = .seq its n ∧ its.size ≤ sizeLine ∧ Vals vs its.toList
theorem FzL.seq {K : PySem.W.Frag} {H : Hp} {a : Addr} {vs : List V} (h : FzL K H a vs) : SqL K H a vs := by
  rcases h with ⟨o, h⟩ | h
  · exact .inl (.inr ⟨o, h⟩)
  · exact .inr h
/-- a range object -/
def rgF (a : Addr) (lo hi st : Int) : Heap → Prop := fun h => ∃ t u v, h.get? a = some { cls := .type "range", data := .fields #[.int lo t, .int hi u, .int st v] }
def RgV (H : Hp) (a : Addr) (lo hi st : Int) : Prop := H a = some (.ext (rgF a lo hi st))
/-- a module's own dict: texts to ints -/
def GTab (K : PySem.W.Frag) (a : Addr) (kvs : List (Str × Int)) : Prop := PyProof.Rows.KTD.tabLook PyProof.Rows.KTD.flatLooks (fun b => K.lookup b) a (kvs.map fun p => (p.1, PyData.int p.2)) = true ∧ (kvs.map (·.1)).Nodup
mutual
inductive RD (K : PySem.W.Frag) (mu : Nat → Addr) (n : Nat) (H : Hp) : V → D → Prop
  | non : RD K mu n H .non .non
  | bl (b : Bool) : RD K mu n H (.bl b) (.bl b)
  | int (i : Int) : RD K mu n H (.int i) (.int i)
  | str (x : Str) : RD K mu n H (.str x) (.str x)
  | tup {a : Addr} {vs : List V} {ds : List D} : SqT K H a vs → RDs K mu n H vs ds → RD K mu n H (.ref a) (.tup ds)
  | ref {l : Nat} : l < n → RD K mu n H (.ref (mu l)) (.ref l)
  | fl {a : Addr} {vs : List V} {ds : List D} : FzL K H a vs → RDs K mu n H vs ds → RD K mu n H (.ref a) (.fl ds)
  | rng {a : Addr} {lo hi st : Int} : RgV H a lo hi st → RD K mu n H (.ref a) (.rng lo hi st)
  | gd {a : Addr} {kvs : List (Str × Int)} : GTab K a kvs → RD K mu n H (.ref a) (.gd kvs)
inductive RDs (K : PySem.W.Frag) (mu : Nat → Addr) (n : Nat) (H : Hp) : List V → List D → Prop
  | nil : RDs K mu n H [] []
  | cons {v : V} {vs : List V} {d : D} {ds : List D} : RD K mu n H v d → RDs K mu n H vs ds → RDs K mu n H (v :: vs) (d :: ds)
end

/-- where the classes stand; the world -/
structure Cls0 where
  cl : Str → Addr → Prop
  w : World
instance : CoeFun Cls0 fun _ => Str → Addr → Prop := ⟨Cls0.cl⟩
/-- the dict at a, by its entries; the keys are tuples -/
def nkEs (w : World) (qs : List NK) (us : List Value) : List DictEntry := List.zipWith (fun q u => ⟨q.1.hash w, .ref q.2, u⟩) qs us
def dTF (w : World) (a : Addr) (qs : List NK) (vs : List V) : Heap → Prop := fun h => (a == sysModules) = false ∧ qs.length ≤ sizeLine ∧ ∃ us, Vals vs us ∧ us.length = qs.length ∧ ∃ es ep, h.DictRaw a es ep ∧ es.toList = nkEs w qs us
theorem rg_ne_d {w : World} {a b : Addr} {lo hi st : Int} {qs : List NK} {vs : List V} : rgF b lo hi st ≠ dTF w a qs vs := by
  intro e
  let r : Obj := { cls := .type "range", data := .fields #[.int lo 0, .int hi 0, .int st 0] }
  let h : Heap := { objs := (Array.replicate b { cls := .none }).push r }
  have hb : h.get? b = some r := by
    have e0 : h.objs[b]? = some r := by simp only [h, Array.getElem?_push, Array.size_replicate, if_true]
    unfold Heap.get?
    rw [e0]
  have h1 : rgF b lo hi st h := ⟨0, 0, 0, hb⟩
  rw [e] at h1
  obtain ⟨_, _, _, _, _, es, ep, ⟨o, ho, hx, hd⟩, _⟩ := h1
  have all : ∀ x o, h.get? x = some o → ∀ es ep, o.data ≠ .dict es ep := by
    intro x o e1 es ep
    have e2 : h.objs[x]? = some o := by
      unfold Heap.get? at e1
      split at e1
      · cases e1
      · exact e1
    simp only [h, Array.getElem?_push, Array.size_replicate, Array.getElem?_replicate] at e2
    split at e2
    · cases e2; intro z; cases z
    · split at e2
      · cases e2; intro z; cases z
      · cases e2
  exact all _ _ ho _ _ hd
/-- a dict lies so -/
inductive DObj (K : PySem.W.Frag) (w : World) (mu : Nat → Addr) (n : Nat) (H : Hp) (a : Addr) : HO → List DKey → List V → Prop
  | pl (js : List Key) (vs : List V) : DObj K w mu n H a (.dK (js.zip vs)) (js.map .inl) vs
  | ne (qs : List NK) (vs : List V) : qs ≠ [] → (∀ q ∈ qs, q.1.depth ≤ 8) → (qs.map (·.1)).Nodup → RDs K mu n H (qs.map fun q => .ref q.2) (qs.map fun q => dNK q.1) → DObj K w mu n H a (.ext (dTF w a qs vs)) (qs.map fun q => .inr q.1) vs

/-- fields -/
inductive RFs (K : PySem.W.Frag) (mu : Nat → Addr) (n : Nat) (H : Hp) : List (Str × V) → List (Str × D) → Prop
  | nil : RFs K mu n H [] []
  | cons {f : Str} {v : V} {d : D} {vs : List (Str × V)} {ds : List (Str × D)} : RD K mu n H v d → RFs K mu n H vs ds → RFs K mu n H ((f, v) :: vs) ((f, d) :: ds)

def RO (K : PySem.W.Frag) (C : Cls0) (mu : Nat → Addr) (n : Nat) (H : Hp) (a : Addr) : SO → Prop
  | .lst ds => ∃ vs, H a = some (.lst vs) ∧ RDs K mu n H vs ds
  | .ins c fs => ∃ A dx vs, C c A ∧ H a = some (.ins A dx vs) ∧ RFs K mu n H vs fs
  | .dic ks ds => ∃ u vs, H a = some u ∧ DObj K C.w mu n H a u ks vs ∧ ks.length = ds.length ∧ RDs K mu n H vs ds
  | .fdic ks ds => ∃ ob u vs, H a = some (.frz ob u) ∧ DObj K C.w mu n H a u ks vs ∧ ks.length = ds.length ∧ RDs K mu n H vs ds
/-- what a dict of the store is -/
def IsDO (u : HO) : Prop := (∃ kvs, u = .dK kvs) ∨ ∃ w a qs vs, u = .ext (dTF w a qs vs)
theorem DObj.is {K : PySem.W.Frag} {w : World} {mu : Nat → Addr} {n : Nat} {H : Hp} {a : Addr} {u : HO} {ks : List DKey} {vs : List V} (d : DObj K w mu n H a u ks vs) : IsDO u := by
  cases d with
  | pl => exact .inl ⟨_, rfl⟩
  | ne => exact .inr ⟨_, _, _, _, rfl⟩
theorem IsDO.lst {u : HO} {xs : List V} (h : IsDO u) : u ≠ .lst xs := by
  rcases h with ⟨_, rfl⟩ | ⟨_, _, _, _, rfl⟩ <;> intro z <;> cases z
theorem IsDO.tup {u : HO} {xs : List V} (h : IsDO u) : u ≠ .tup xs := by
  rcases h with ⟨_, rfl⟩ | ⟨_, _, _, _, rfl⟩ <;> intro z <;> cases z
theorem IsDO.frz {u u' : HO} {o : Obj} (h : IsDO u) : u ≠ .frz o u' := by
  rcases h with ⟨_, rfl⟩ | ⟨_, _, _, _, rfl⟩ <;> intro z <;> cases z
theorem IsDO.ins {u : HO} {A dx : Addr} {fs : List (Str × V)} (h : IsDO u) : u ≠ .ins A dx fs := by
  rcases h with ⟨_, rfl⟩ | ⟨_, _, _, _, rfl⟩ <;> intro z <;> cases z
theorem IsDO.rg {u : HO} {a : Addr} {i j k : Int} (h : IsDO u) : u ≠ .ext (rgF a i j k) := by
  rcases h with ⟨_, rfl⟩ | ⟨_, _, _, _, rfl⟩ <;> intro z
  · cases z
  · exact rg_ne_d (HO.ext.inj z).symm
theorem DObj.rg {K : PySem.W.Frag} {w : World} {mu : Nat → Addr} {n : Nat} {H : Hp} {a : Addr} {u : HO} {ks : List DKey} {vs : List V} {i j k : Int} (d : DObj K w mu n H a u ks vs) : u ≠ .ext (rgF a i j k) := by
  cases d with
  | pl => intro z; cases z
  | ne => intro z; exact rg_ne_d (HO.ext.inj z).symm

structure Rel (K : PySem.W.Frag) (C : Cls0) (mu : Nat → Addr) (S : Store) (H : Hp) : Prop where
  inj : ∀ i j, i < S.length → j < S.length → mu i = mu j → i = j
  obj : ∀ l o, S[l]? = some o → RO K C mu S.length H (mu l) o

structure Ext (mu : Nat → Addr) (n : Nat) (H : Hp) (mu' : Nat → Addr) (n' : Nat) (H' : Hp) : Prop where
  le : n ≤ n'
  same : ∀ l, l < n → mu' l = mu l
  frame : ∀ a o, H a = some o → (∀ l, l < n → mu l ≠ a) → H' a = some o
  keep : ∀ a o, H a = some o → ∃ o', H' a = some o'
  fresh : ∀ l, n ≤ l → l < n' → H (mu' l) = none
  fz : ∀ a ob u, H a = some (.frz ob u) → H' a = some (.frz ob u)

section
variable {K : PySem.W.Frag} {C : Cls0} {mu mu' mu2 : Nat → Addr} {n n' n2 : Nat} {H H' H2 : Hp} {S S' S2 : Store}

theorem Ext.refl : Ext mu n H mu n H := ⟨Nat.le_refl _, fun _ _ => rfl, fun _ _ e _ => e, fun _ o e => ⟨o, e⟩, fun _ h1 h2 => absurd (Nat.lt_of_lt_of_le h2 h1) (Nat.lt_irrefl _), fun _ _ _ e => e⟩
theorem Ext.trans (a : Ext mu n H mu' n' H') (b : Ext mu' n' H' mu2 n2 H2) : Ext mu n H mu2 n2 H2 where
  le := Nat.le_trans a.le b.le
  same := fun l h => (b.same l (Nat.lt_of_lt_of_le h a.le)).trans (a.same l h)
  frame := fun x o e h => by
    refine b.frame x o (a.frame x o e h) fun l hl q => ?_
    by_cases hn : l < n
    · exact h l hn ((a.same l hn).symm.trans q)
    · have z := a.fresh l (Nat.le_of_not_lt hn) hl
      rw [q, e] at z; cases z
  keep := fun x o e => by
    obtain ⟨o', e'⟩ := a.keep x o e
    exact b.keep x o' e'
  fz := fun x ob k e => b.fz x ob k (a.fz x ob k e)
  fresh := fun l h1 h2 => by
    by_cases hn : l < n'
    · rw [b.same l hn]; exact a.fresh l h1 hn
    · have z := b.fresh l (Nat.le_of_not_lt hn) h2
      cases q : H (mu2 l) with
      | none => rfl
      | some o =>
        obtain ⟨o', e'⟩ := a.keep _ o q
        rw [z] at e'; cases e'

theorem RO.some {o : SO} {a : Addr} (r : RO K C mu n H a o) : ∃ u, H a = some u ∧ (∀ xs, u ≠ .tup xs) ∧ ∀ ob u', u = .frz ob u' → IsDO u' := by
  cases o with
  | lst ds => obtain ⟨vs, e, _⟩ := r; exact ⟨_, e, (fun _ z => by cases z), (fun _ _ z => by cases z)⟩
  | ins c fs => obtain ⟨A, dx, vs, _, e, _⟩ := r; exact ⟨_, e, (fun _ z => by cases z), (fun _ _ z => by cases z)⟩
  | dic ks ds => obtain ⟨u, vs, e, d, _⟩ := r; exact ⟨_, e, (fun _ => d.is.tup), (fun _ _ z => absurd z d.is.frz)⟩
  | fdic ks ds => obtain ⟨ob, u, vs, e, d, _⟩ := r; exact ⟨_, e, (fun _ z => by cases z), (fun _ _ z => by cases z; exact d.is)⟩
theorem Rel.at {l : Nat} (R : Rel K C mu S H) (h : l < S.length) : ∃ u, H (mu l) = some u ∧ (∀ xs, u ≠ .tup xs) ∧ ∀ ob u', u = .frz ob u' → IsDO u' :=
  (R.obj l S[l] (List.getElem?_eq_getElem h)).some
/-- a tuple, a thing that is known, stands -/
theorem Ext.rd {a : Addr} {u : HO} (R : Rel K C mu S H) (x : Ext mu S.length H mu' n' H') (hu : ∀ xs, u ≠ .lst xs) (hi : ∀ A dx vs, u ≠ .ins A dx vs) (h : Rd H a u) (hdk : ∀ kvs, u ≠ .dK kvs := by intro _ z; cases z) (hfz : ∀ ob u', u ≠ .frz ob u' := by intro _ _ z; cases z) (hex : ∀ F, u ≠ .ext F := by intro _ z; cases z) : Rd H' a u := by
  have hdo : ¬ IsDO u := fun z => by
    rcases z with ⟨_, z⟩ | ⟨_, _, _, _, z⟩
    · exact hdk _ z
    · exact hex _ z
  rcases h with h | ⟨o, h⟩
  · refine .inl (x.frame a u h fun l hl q => ?_)
    have r := R.obj l S[l] (List.getElem?_eq_getElem hl)
    rw [q] at r
    cases e : S[l] with
    | lst ds => rw [e] at r; obtain ⟨vs, e1, _⟩ := r; rw [h] at e1; exact hu _ (Option.some.inj e1)
    | ins c fs => rw [e] at r; obtain ⟨A, dx, vs, _, e1, _⟩ := r; rw [h] at e1; exact hi _ _ _ (Option.some.inj e1)
    | dic ks ds => rw [e] at r; obtain ⟨u1, vs, e1, d, _⟩ := r; rw [h] at e1; exact hdo (Option.some.inj e1 ▸ d.is)
    | fdic ks ds => rw [e] at r; obtain ⟨ob, u1, vs, e1, _⟩ := r; rw [h] at e1; exact hfz _ _ (Option.some.inj e1)
  · refine .inr ⟨o, x.frame a _ h fun l hl q => ?_⟩
    obtain ⟨u', e1, _, h2⟩ := R.at hl
    rw [q, h] at e1
    exact hdo (h2 _ _ (Option.some.inj e1).symm)
theorem Ext.sqT {a : Addr} {vs : List V} (R : Rel K C mu S H) (x : Ext mu S.length H mu' n' H') (h : SqT K H a vs) : SqT K H' a vs := by
  rcases h with h | h
  · exact .inl (x.rd R (fun _ z => nomatch z) (fun _ _ _ z => nomatch z) h)
  · exact .inr h
theorem Ext.fzL {a : Addr} {vs : List V} (R : Rel K C mu S H) (x : Ext mu S.length H mu' n' H') (h : FzL K H a vs) : FzL K H' a vs := by
  rcases h with ⟨o, h⟩ | h
  · refine .inl ⟨o, x.frame a _ h fun l hl q => ?_⟩
    obtain ⟨u', e1, _, h2⟩ := R.at hl
    rw [q, h] at e1
    exact absurd rfl (h2 _ _ (Option.some.inj e1).symm).lst
  · exact .inr h
theorem Ext.rgV {a : Addr} {i j k : Int} (R : Rel K C mu S H) (x : Ext mu S.length H mu' n' H') (h : RgV H a i j k) : RgV H' a i j k := by
  unfold RgV at h ⊢
  refine x.frame a _ h fun l hl q => ?_
  have r := R.obj l S[l] (List.getElem?_eq_getElem hl)
  rw [q] at r
  cases e : S[l] with
  | lst ds => rw [e] at r; obtain ⟨vs, e1, _⟩ := r; rw [h] at e1; cases e1
  | ins c fs => rw [e] at r; obtain ⟨A, dx, vs, _, e1, _⟩ := r; rw [h] at e1; cases e1
  | dic ks ds => rw [e] at r; obtain ⟨u1, vs, e1, d, _⟩ := r; rw [h] at e1; exact absurd (Option.some.inj e1).symm d.rg
  | fdic ks ds => rw [e] at r; obtain ⟨ob, u1, vs, e1, _⟩ := r; rw [h] at e1; cases e1
mutual
theorem RD.mv (ht : ∀ a vs, SqT K H a vs → SqT K H' a vs) (hf : ∀ a vs, FzL K H a vs → FzL K H' a vs) (hg : ∀ a i j k, RgV H a i j k → RgV H' a i j k) (hm : ∀ l, l < n → mu' l = mu l) (hn : n ≤ n') : ∀ {d : D} {v : V}, RD K mu n H v d → RD K mu' n' H' v d
  | .non, _, h => by cases h; exact .non
  | .bl b, _, h => by cases h; exact .bl b
  | .int i, _, h => by cases h; exact .int i
  | .str z, _, h => by cases h; exact .str z
  | .tup ds, _, h => by
    cases h with
    | tup hs hd => exact .tup (ht _ _ hs) (RDs.mv ht hf hg hm hn hd)
  | .fl ds, _, h => by
    cases h with
    | fl hs hd => exact .fl (hf _ _ hs) (RDs.mv ht hf hg hm hn hd)
  | .rng lo hi st, _, h => by
    cases h with
    | rng hs => exact .rng (hg _ _ _ _ hs)
  | .gd _, _, h => by
    cases h with
    | gd hs => exact .gd hs
  | .ref l, _, h => by
    cases h with
    | ref hl => rw [← hm l hl]; exact .ref (Nat.lt_of_lt_of_le hl hn)
theorem RDs.mv (ht : ∀ a vs, SqT K H a vs → SqT K H' a vs) (hf : ∀ a vs, FzL K H a vs → FzL K H' a vs) (hg : ∀ a i j k, RgV H a i j k → RgV H' a i j k) (hm : ∀ l, l < n → mu' l = mu l) (hn : n ≤ n') : ∀ {ds : List D} {vs : List V}, RDs K mu n H vs ds → RDs K mu' n' H' vs ds
  | [], _, h => by cases h; exact .nil
  | d :: ds, _, h => by
    cases h with
    | cons h1 h2 => exact .cons (RD.mv ht hf hg hm hn h1) (RDs.mv ht hf hg hm hn h2)
end
theorem RFs.mv (ht : ∀ a vs, SqT K H a vs → SqT K H' a vs) (hf : ∀ a vs, FzL K H a vs → FzL K H' a vs) (hg : ∀ a i j k, RgV H a i j k → RgV H' a i j k) (hm : ∀ l, l < n → mu' l = mu l) (hn : n ≤ n') : ∀ {ds : List (Str × D)} {vs : List (Str × V)}, RFs K mu n H vs ds → RFs K mu' n' H' vs ds
  | [], _, h => by cases h; exact .nil
  | _ :: ds, _, h => by
    cases h with
    | cons h1 h2 => exact .cons (h1.mv ht hf hg hm hn) (RFs.mv ht hf hg hm hn h2)
theorem RD.mono (R : Rel K C mu S H) (x : Ext mu S.length H mu' n' H') {d : D} {v : V} (h : RD K mu S.length H v d) : RD K mu' n' H' v d := h.mv (fun _ _ z => x.sqT R z) (fun _ _ z => x.fzL R z) (fun _ _ _ _ z => x.rgV R z) x.same x.le
theorem RDs.mono (R : Rel K C mu S H) (x : Ext mu S.length H mu' n' H') {ds : List D} {vs : List V} (h : RDs K mu S.length H vs ds) : RDs K mu' n' H' vs ds := h.mv (fun _ _ z => x.sqT R z) (fun _ _ z => x.fzL R z) (fun _ _ _ _ z => x.rgV R z) x.same x.le
theorem RFs.mono (R : Rel K C mu S H) (x : Ext mu S.length H mu' n' H') {ds : List (Str × D)} {vs : List (Str × V)} (h : RFs K mu S.length H vs ds) : RFs K mu' n' H' vs ds := h.mv (fun _ _ z => x.sqT R z) (fun _ _ z => x.fzL R z) (fun _ _ _ _ z => x.rgV R z) x.same x.le
/-- more is known of the map, nothing changes -/
theorem RD.wk (hm : ∀ l, l < n → mu' l = mu l) (hn : n ≤ n') {d : D} {v : V} (h : RD K mu n H v d) : RD K mu' n' H v d := h.mv (fun _ _ z => z) (fun _ _ z => z) (fun _ _ _ _ z => z) hm hn
theorem RDs.wk (hm : ∀ l, l < n → mu' l = mu l) (hn : n ≤ n') {d : List D} {v : List V} (h : RDs K mu n H v d) : RDs K mu' n' H v d := h.mv (fun _ _ z => z) (fun _ _ z => z) (fun _ _ _ _ z => z) hm hn
theorem DObj.mv {w : World} (hm : ∀ l, l < n → mu' l = mu l) (hn : n ≤ n') (ht : ∀ a vs, SqT K H a vs → SqT K H' a vs) (hf : ∀ a vs, FzL K H a vs → FzL K H' a vs) (hg : ∀ a i j k, RgV H a i j k → RgV H' a i j k) {a : Addr} {u : HO} {ks : List DKey} {vs : List V} (h : DObj K w mu n H a u ks vs) : DObj K w mu' n' H' a u ks vs := by
  cases h with
  | pl js vs => exact .pl js vs
  | ne qs vs h1 h0 h3 h2 => exact .ne qs vs h1 h0 h3 (h2.mv ht hf hg hm hn)
theorem RO.mv (hm : ∀ l, l < n → mu' l = mu l) (hn : n ≤ n') (ht : ∀ a vs, SqT K H a vs → SqT K H' a vs) (hf : ∀ a vs, FzL K H a vs → FzL K H' a vs) (hg : ∀ a i j k, RgV H a i j k → RgV H' a i j k) {a : Addr} (he : H' a = H a) {o : SO} (h : RO K C mu n H a o) : RO K C mu' n' H' a o := by
  cases o with
  | lst ds => obtain ⟨vs, e, r⟩ := h; exact ⟨vs, he.trans e, r.mv ht hf hg hm hn⟩
  | ins c fs => obtain ⟨A, dx, vs, c', e, r⟩ := h; exact ⟨A, dx, vs, c', he.trans e, r.mv ht hf hg hm hn⟩
  | dic ks ds => obtain ⟨u, vs, e, d, hl, r⟩ := h; exact ⟨u, vs, he.trans e, d.mv hm hn ht hf hg, hl, r.mv ht hf hg hm hn⟩
  | fdic ks ds => obtain ⟨ob, u, vs, e, d, hl, r⟩ := h; exact ⟨ob, u, vs, he.trans e, d.mv hm hn ht hf hg, hl, r.mv ht hf hg hm hn⟩
theorem RDs.length : ∀ {ds : List D} {vs : List V}, RDs K mu n H vs ds → vs.length = ds.length
  | [], _, h => by cases h; rfl
  | _ :: ds, _, h => by
    cases h with
    | cons _ h2 => simp [RDs.length h2]
theorem RDs.get : ∀ {ds : List D} {vs : List V} {i : Nat} {d : D}, RDs K mu n H vs ds → ds[i]? = some d → ∃ v, vs[i]? = some v ∧ RD K mu n H v d
  | [], _, _, _, _, e => by simp at e
  | d :: ds, _, 0, d', h, e => by
    cases h with
    | cons h1 _ => simp at e; subst e; exact ⟨_, rfl, h1⟩
  | d :: ds, _, i + 1, d', h, e => by
    cases h with
    | cons _ h2 =>
      obtain ⟨v, e1, r⟩ := RDs.get (i := i) h2 (by simpa using e)
      exact ⟨v, by simpa using e1, r⟩
theorem RDs.get' : ∀ {ds : List D} {vs : List V} {i : Nat} {v : V}, RDs K mu n H vs ds → vs[i]? = some v → ∃ d, ds[i]? = some d ∧ RD K mu n H v d
  | [], _, _, _, h, e => by cases h; simp at e
  | d :: ds, _, 0, d', h, e => by
    cases h with
    | cons h1 _ => simp at e; subst e; exact ⟨_, rfl, h1⟩
  | d :: ds, _, i + 1, d', h, e => by
    cases h with
    | cons _ h2 =>
      obtain ⟨v, e1, r⟩ := RDs.get' (i := i) h2 (by simpa using e)
      exact ⟨v, by simpa using e1, r⟩
theorem RDs.append : ∀ {xs : List D} {vs : List V} {ys : List D} {ws : List V}, RDs K mu n H vs xs → RDs K mu n H ws ys → RDs K mu n H (vs ++ ws) (xs ++ ys)
  | [], _, _, _, h, s => by cases h; exact s
  | _ :: _, _, _, _, h, s => by
    cases h with
    | cons h1 h2 => exact .cons h1 (RDs.append h2 s)
theorem RDs.take : ∀ {xs : List D} {vs : List V} (m : Nat), RDs K mu n H vs xs → RDs K mu n H (vs.take m) (xs.take m)
  | _, _, 0, _ => by simp; exact .nil
  | [], _, m + 1, h => by cases h; exact .nil
  | _ :: _, _, m + 1, h => by
    cases h with
    | cons h1 h2 => exact .cons h1 (RDs.take m h2)
theorem RDs.drop : ∀ {xs : List D} {vs : List V} (m : Nat), RDs K mu n H vs xs → RDs K mu n H (vs.drop m) (xs.drop m)
  | _, _, 0, h => by simpa using h
  | [], _, m + 1, h => by cases h; exact .nil
  | _ :: _, _, m + 1, h => by
    cases h with
    | cons _ h2 => exact RDs.drop m h2
theorem RDs.set {d : D} {v : V} (r : RD K mu n H v d) : ∀ {xs : List D} {vs : List V} (i : Nat), RDs K mu n H vs xs → RDs K mu n H (vs.set i v) (xs.set i d)
  | [], _, _, h => by cases h; exact .nil
  | _ :: _, _, 0, h => by cases h with | cons _ h2 => exact .cons r h2
  | _ :: _, _, i + 1, h => by cases h with | cons h1 h2 => exact .cons h1 (RDs.set r i h2)
theorem RDs.reverse : ∀ {xs : List D} {vs : List V}, RDs K mu n H vs xs → RDs K mu n H vs.reverse xs.reverse
  | [], _, h => by cases h; exact .nil
  | _ :: _, _, h => by
    cases h with
    | cons h1 h2 => simp only [List.reverse_cons]; exact (RDs.reverse h2).append (.cons h1 .nil)

/-- the frame's slots -/
structure RE (K : PySem.W.Frag) (mu : Nat → Addr) (n : Nat) (H : Hp) (σ : L2.St) (ρ : Rho) : Prop where
  len : σ.length = ρ.length
  get : ∀ (i : Nat) (d : D), ρ[i]? = some (some d) → ∃ v : V, σ[i]? = some (some v) ∧ RD K mu n H v d
theorem RE.mono {σ : L2.St} {ρ : Rho} (r : RE K mu S.length H σ ρ) (R : Rel K C mu S H) (x : Ext mu S.length H mu' n' H') : RE K mu' n' H' σ ρ :=
  ⟨r.len, fun i d e => let ⟨v, e1, h⟩ := r.get i d e; ⟨v, e1, h.mono R x⟩⟩
theorem RE.set {σ : L2.St} {ρ : Rho} {v : V} {d : D} (r : RE K mu n H σ ρ) (h : RD K mu n H v d) (i : Nat) : RE K mu n H (σ.set i (some v)) (ρ.set i (some d)) := by
  refine ⟨by simp [r.len], fun j e q => ?_⟩
  by_cases hj : i = j
  · subst hj
    by_cases hl : i < ρ.length
    · rw [List.getElem?_set_self hl] at q
      cases q
      exact ⟨v, List.getElem?_set_self (by rw [r.len]; exact hl), h⟩
    · rw [List.getElem?_eq_none (by simpa using hl)] at q; cases q
  · rw [List.getElem?_set_ne hj] at q
    obtain ⟨w, e1, h1⟩ := r.get j e q
    exact ⟨w, by rw [List.getElem?_set_ne hj]; exact e1, h1⟩
theorem RE.unset {σ : L2.St} {ρ : Rho} (r : RE K mu n H σ ρ) (i : Nat) : RE K mu n H (σ.set i none) (ρ.set i none) := by
  refine ⟨by simp [r.len], fun j e q => ?_⟩
  by_cases hj : i = j
  · subst hj
    by_cases hl : i < ρ.length
    · rw [List.getElem?_set_self hl] at q; cases q
    · rw [List.getElem?_eq_none (by simpa using hl)] at q; cases q
  · rw [List.getElem?_set_ne hj] at q
    obtain ⟨w, e1, h1⟩ := r.get j e q
    exact ⟨w, by rw [List.getElem?_set_ne hj]; exact e1, h1⟩
end

/-! ### what is wanted behind a piece -/
abbrev Rs (α : Type) := Option (Except Ex α × Store)
abbrev EF (α : Type) := Rho → Store → Rs α
def bindR {α β : Type} (r : Rs α) (k : α → Store → Rs β) : Rs β :=
  match r with
  | none => none
  | some (.ok a, S) => k a S
  | some (.error e, S) => some (.error e, S)
@[simp] theorem bindR_none {α β : Type} (k : α → Store → Rs β) : bindR none k = none := rfl
@[simp] theorem bindR_ok {α β : Type} (a : α) (S : Store) (k : α → Store → Rs β) : bindR (some (.ok a, S)) k = k a S := rfl
@[simp] theorem bindR_error {α β : Type} (e : Ex) (S : Store) (k : α → Store → Rs β) : bindR (some (.error e, S)) k = some (.error e, S) := rfl
abbrev okR {α : Type} (a : α) (S : Store) : Rs α := some (.ok a, S)

/-- what is told of a start holds of an earlier one -/
class Anti {α β : Type} (RA : Hp → (Nat → Addr) → Nat → Hp → β → α → Prop) : Prop where
  anti : ∀ {H H1 : Hp} {mu : Nat → Addr} {n : Nat} {H' : Hp} {v : β} {a : α}, (∀ b o, H b = some o → ∃ o', H1 b = some o') → RA H1 mu n H' v a → RA H mu n H' v a
section
variable (K : PySem.W.Frag) (C : Cls0) (XW : Value → Option Addr → Hp → Prop) (mu : Nat → Addr) (n : Nat) (H : Hp)
/-- an exception lies so -/
def PostX (e : Ex) (S' : Store) : Prop :=
  ∀ mu' H' A dx vs, Rel K C mu' S' H' → Ext mu n H mu' S'.length H' → C e.1 A → H' dx = some (.xd vs) → RFs K mu' S'.length H' vs e.2 → XW (.ref A) (some dx) H'
/-- behind what hands on an α, told by RA -/
def PostG {α β : Type} (RA : Hp → (Nat → Addr) → Nat → Hp → β → α → Prop) (res : Rs α) (Q : β → Hp → Prop) : Prop :=
  match res with
  | none => False
  | some (.ok a, S') => ∀ mu' H' v, Rel K C mu' S' H' → Ext mu n H mu' S'.length H' → RA H mu' S'.length H' v a → Q v H'
  | some (.error e, S') => PostX K C XW mu n H e S'
end
section
variable {K : PySem.W.Frag} {C : Cls0} {XW : Value → Option Addr → Hp → Prop} {mu mu1 : Nat → Addr} {n n1 : Nat} {H H1 : Hp} {α β γ δ : Type}
  {RA : Hp → (Nat → Addr) → Nat → Hp → β → α → Prop} {RB : Hp → (Nat → Addr) → Nat → Hp → δ → γ → Prop}
theorem PostX.trans {e : Ex} {S' : Store} (x : Ext mu n H mu1 n1 H1) (h : PostX K C XW mu n H e S') : PostX K C XW mu1 n1 H1 e S' :=
  fun mu' H' A dx vs r y c hd rf => h mu' H' A dx vs r (x.trans y) c hd rf
theorem PostG.trans [Anti RA] {res : Rs α} {Q : β → Hp → Prop} (x : Ext mu n H mu1 n1 H1) (h : PostG K C XW mu n H RA res Q) : PostG K C XW mu1 n1 H1 RA res Q := by
  cases res with
  | none => exact h
  | some p =>
    obtain ⟨r, S'⟩ := p
    cases r with
    | ok a => exact fun mu' H' v R y rd => h mu' H' v R (x.trans y) (Anti.anti x.keep rd)
    | error e => exact PostX.trans x h
theorem PostG.mono {res : Rs α} {Q Q' : β → Hp → Prop} (h : PostG K C XW mu n H RA res Q) (k : ∀ v H', Q v H' → Q' v H') : PostG K C XW mu n H RA res Q' := by
  cases res with
  | none => exact h
  | some p =>
    obtain ⟨r, S'⟩ := p
    cases r with
    | ok a => exact fun mu' H' v R y rd => k _ _ (h mu' H' v R y rd)
    | error e => exact h
theorem PostG.bind [Anti RB] {res : Rs α} {k : α → Store → Rs γ} {Q : δ → Hp → Prop} (h : PostG K C XW mu n H RB (bindR res k) Q) :
    PostG K C XW mu n H RA res fun v H1 => ∃ mu1 S1 a, Rel K C mu1 S1 H1 ∧ Ext mu n H mu1 S1.length H1 ∧ RA H mu1 S1.length H1 v a ∧ PostG K C XW mu1 S1.length H1 RB (k a S1) Q := by
  cases res with
  | none => exact h
  | some p =>
    obtain ⟨r, S'⟩ := p
    cases r with
    | ok a => exact fun mu' H' v R y rd => ⟨mu', S', a, R, y, rd, PostG.trans y h⟩
    | error e => exact h
theorem PostG.ok {S : Store} {a : α} {v : β} {Q : β → Hp → Prop} (h : PostG K C XW mu S.length H RA (okR a S) Q) (R : Rel K C mu S H) (r : RA H mu S.length H v a) : Q v H := h mu H v R .refl r
end

/-! ### judgements -/
/-- a value; several; a test's value; a new list that nobody else holds -/
abbrev QD (K : PySem.W.Frag) : Hp → (Nat → Addr) → Nat → Hp → V → D → Prop := fun _ mu n H v d => RD K mu n H v d
abbrev QDs (K : PySem.W.Frag) : Hp → (Nat → Addr) → Nat → Hp → List V → List D → Prop := fun _ mu n H v d => RDs K mu n H v d
def RB0 : Hp → (Nat → Addr) → Nat → Hp → Bool → Bool → Prop := fun _ _ _ _ b c => b = c
def RL (K : PySem.W.Frag) : Hp → (Nat → Addr) → Nat → Hp → V → List D → Prop := fun H0 mu n H v ds => ∃ p vs, v = .ref p ∧ H p = some (.lst vs) ∧ RDs K mu n H vs ds ∧ (∀ l, l < n → mu l ≠ p) ∧ H0 p = none
instance {K : PySem.W.Frag} : Anti (QD K) := ⟨fun _ h => h⟩
instance {K : PySem.W.Frag} : Anti (QDs K) := ⟨fun _ h => h⟩
instance : Anti RB0 := ⟨fun _ h => h⟩
instance {K : PySem.W.Frag} : Anti (RL K) := ⟨fun {H H1 mu n H' v a} k h => by
  obtain ⟨p, vs, e1, e2, r, f, q⟩ := h
  refine ⟨p, vs, e1, e2, r, f, ?_⟩
  cases e : H p with
  | none => rfl
  | some o =>
    obtain ⟨o', e'⟩ := k p o e
    rw [q] at e'; cases e'⟩
abbrev Wx := WX
section
variable (K : PySem.W.Frag) (C : Cls0) (W : Wx)
def TE' (f : EF D) : TE := fun σ H Q => ∃ mu S ρ, Rel K C mu S H ∧ RE K mu S.length H σ ρ ∧ PostG K C (fun c d H' => W c d σ H') mu S.length H (QD K) (f ρ S) Q
def TA' (f : EF (List D)) : TA := fun σ H Q => ∃ mu S ρ, Rel K C mu S H ∧ RE K mu S.length H σ ρ ∧ PostG K C (fun c d H' => W c d σ H') mu S.length H (QDs K) (f ρ S) Q
def TL' (f : EF (List D)) : TE := fun σ H Q => ∃ mu S ρ, Rel K C mu S H ∧ RE K mu S.length H σ ρ ∧ PostG K C (fun c d H' => W c d σ H') mu S.length H (RL K) (f ρ S) Q
def TT' (f : EF Bool) : TT := fun σ H Q => ∃ mu S ρ, Rel K C mu S H ∧ RE K mu S.length H σ ρ ∧ PostG K C (fun c d H' => W c d σ H') mu S.length H RB0 (f ρ S) Q
end
structure SE (X : Cx) (C : Cls0) (W : Wx) (e : Expr) (f : EF D) : Prop where
  pe : PE X e (TE' X.K C W f)
/-- an expression that makes a new list -/
structure SL (X : Cx) (C : Cls0) (W : Wx) (e : Expr) (f : EF (List D)) : Prop where
  pe : PE X e (TL' X.K C W f)
structure SA (X : Cx) (C : Cls0) (W : Wx) (es : List Expr) (f : EF (List D)) : Prop where
  pa : PA X es (TA' X.K C W f)
structure ST (X : Cx) (C : Cls0) (W : Wx) (e : Expr) (f : EF Bool) : Prop where
  pt : PT X e (TT' X.K C W f)

theorem PE.imp {X : Cx} {e : Expr} {t t' : TE} (h : PE X e t) (k : ∀ σ H Q, t' σ H Q → t σ H Q) : PE X e t' := ⟨fun pins s σ H Q I q => h.run pins s σ H Q I (k σ H Q q)⟩
theorem PT.imp {X : Cx} {e : Expr} {t t' : TT} (h : PT X e t) (k : ∀ σ H Q, t' σ H Q → t σ H Q) : PT X e t' := ⟨fun pins s σ H Q I q => h.run pins s σ H Q I (k σ H Q q)⟩
theorem PA.imp {X : Cx} {es : List Expr} {t t' : TA} (h : PA X es t) (k : ∀ σ H Q, t' σ H Q → t σ H Q) : PA X es t' := ⟨fun pos pins s σ H Q I q => h.run pos pins s σ H Q I (k σ H Q q)⟩
theorem PS.imp {X : Cx} {st : Stmt} {t t' : TS} (h : PS X st t) (k : ∀ D σ H, t' D σ H → t D σ H) : PS X st t' := ⟨fun pins s σ H D I q => h.run pins s σ H D I (k D σ H q)⟩
theorem PSs.imp {X : Cx} {st : List Stmt} {t t' : TS} (h : PSs X st t) (k : ∀ D σ H, t' D σ H → t D σ H) : PSs X st t' := ⟨fun pins s σ H D I q => h.run pins s σ H D I (k D σ H q)⟩

section
variable {X : Cx} {C : Cls0} {W : Wx}
/-! ### names, constants -/
def fVar (i : Nat) : EF D := fun ρ S => match ρ[i]? with
  | some (some d) => okR d S
  | _ => none
def fC (d : D) : EF D := fun _ S => okR d S
theorem se_var (i : Nat) {x : Str} {pos : Pos} (hN : X.N[i]? = some x := by rfl) (hv : Vis X.env.scope x := by first | exact Or.inl rfl | exact Or.inr (Or.inl rfl) | exact Or.inr (Or.inr rfl)) (hd : (x == ("__debug__" : Str)) = false := by decide)
    (hcd : (x == ("__classdict__" : Str)) = false := by decide) : SE X C W (.Name x pos) (fVar i) := by
  refine ⟨PE.imp (pe_var hN hv hd hcd) ?_⟩
  rintro σ H Q ⟨mu, S, ρ, R, re, h⟩
  unfold fVar at h
  split at h
  · rename_i d e
    obtain ⟨v, e1, r⟩ := re.get i d e
    exact ⟨v, e1, h.ok R r⟩
  · exact h.elim
theorem se_int {i : Int} {j pos} : SE X C W (.Constant (.int i) j pos) (fC (.int i)) := ⟨PE.imp pe_int fun σ H Q ⟨mu, S, ρ, R, re, h⟩ => h.ok R (.int i)⟩
theorem se_bl {b : Bool} {j pos} : SE X C W (.Constant (.bool b) j pos) (fC (.bl b)) := ⟨PE.imp pe_bl fun σ H Q ⟨mu, S, ρ, R, re, h⟩ => h.ok R (.bl b)⟩
theorem se_non {j pos} : SE X C W (.Constant .none j pos) (fC .non) := ⟨PE.imp pe_non fun σ H Q ⟨mu, S, ρ, R, re, h⟩ => h.ok R .non⟩
theorem se_str {x : Str} {j pos} : SE X C W (.Constant (.str x) j pos) (fC (.str x)) := ⟨PE.imp pe_str fun σ H Q ⟨mu, S, ρ, R, re, h⟩ => h.ok R (.str x)⟩
/-- a module's int -/
theorem se_gint {x : Str} {i : Int} {pos : Pos} (hm : ∃ t, X.mg x = some (.int i t)) (hg : Gl X x := by rfl) (hd : (x == ("__debug__" : Str)) = false := by decide) : SE X C W (.Name x pos) (fC (.int i)) := by
  obtain ⟨t, hm⟩ := hm
  exact ⟨PE.imp (pe_glob (v := .int i) hg hm ⟨t, rfl⟩ hd) fun σ H Q ⟨mu, S, ρ, R, re, h⟩ => h.ok R (.int i)⟩

/-! ### lists of arguments -/
def fNil : EF (List D) := fun _ S => okR [] S
def fCons (f : EF D) (g : EF (List D)) : EF (List D) := fun ρ S => bindR (f ρ S) fun d S1 => bindR (g ρ S1) fun ds S2 => okR (d :: ds) S2
theorem sa_nil : SA X C W [] fNil := ⟨PA.imp pa_nil fun σ H Q ⟨mu, S, ρ, R, re, h⟩ => h.ok R .nil⟩
theorem sa_cons {e : Expr} {es : List Expr} {f : EF D} {g : EF (List D)} (a : SE X C W e f) (b : SA X C W es g) (hs : starEach (e :: es) X.env = (false, eval e X.env) :: starEach es X.env := by rfl) : SA X C W (e :: es) (fCons f g) := by
  refine ⟨PA.imp (pa_cons a.pe b.pa hs) ?_⟩
  rintro σ H Q ⟨mu, S, ρ, R, re, h⟩
  refine ⟨mu, S, ρ, R, re, h.bind.mono ?_⟩
  rintro v H1 ⟨mu1, S1, d1, R1, x1, r1, h1⟩
  refine ⟨mu1, S1, ρ, R1, re.mono R x1, h1.bind.mono ?_⟩
  rintro vs H2 ⟨mu2, S2, d2, R2, x2, r2, h2⟩
  exact h2.ok R2 (.cons (r1.mono R1 x2) r2)

/-! ### values alone: what a built-in operation makes of values -/
abbrev P2 := D → D → Store → Rs D
abbrev P1 := D → Store → Rs D
abbrev PL := List D → Store → Rs D
/-- the hand layer's rule r serves the function p -/
def Srv1 (K : PySem.W.Frag) (C : Cls0) (r : V → Hp → VK → Prop) (p : P1) : Prop :=
  ∀ (XW : Value → Option Addr → Hp → Prop) (mu : Nat → Addr) (S : Store) (H : Hp) (x : V) (d : D) (Q : VK), Rel K C mu S H → RD K mu S.length H x d → PostG K C XW mu S.length H (QD K) (p d S) Q → r x H Q
def Srv2 (K : PySem.W.Frag) (C : Cls0) (r : R2) (p : P2) : Prop :=
  ∀ (XW : Value → Option Addr → Hp → Prop) (mu : Nat → Addr) (S : Store) (H : Hp) (x y : V) (d e : D) (Q : VK), Rel K C mu S H → RD K mu S.length H x d → RD K mu S.length H y e → PostG K C XW mu S.length H (QD K) (p d e S) Q → r x y H Q
def SrvL (K : PySem.W.Frag) (C : Cls0) (r : List V → Hp → VK → Prop) (p : PL) : Prop :=
  ∀ (XW : Value → Option Addr → Hp → Prop) (mu : Nat → Addr) (S : Store) (H : Hp) (xs : List V) (ds : List D) (Q : VK), Rel K C mu S H → RDs K mu S.length H xs ds → PostG K C XW mu S.length H (QD K) (p ds S) Q → r xs H Q
def fUn (p : P1) (f : EF D) : EF D := fun ρ S => bindR (f ρ S) p
def fBin (p : P2) (f g : EF D) : EF D := fun ρ S => bindR (f ρ S) fun d S1 => bindR (g ρ S1) fun e S2 => p d e S2
def fCall (p : PL) (g : EF (List D)) : EF D := fun ρ S => bindR (g ρ S) p

theorem bin' {e1 e2 : Expr} {f g : EF D} {p : P2} {r : R2} (hr : Srv2 X.K C r p) {σ : L2.St} {H : Hp} {Q : VK} (h : TE' X.K C W (fBin p f g) σ H Q) : tOp r (TE' X.K C W f) (TE' X.K C W g) σ H Q := by
  obtain ⟨mu, S, ρ, R, re, h⟩ := h
  refine ⟨mu, S, ρ, R, re, h.bind.mono ?_⟩
  rintro v H1 ⟨mu1, S1, d1, R1, x1, r1, h1⟩
  refine ⟨mu1, S1, ρ, R1, re.mono R x1, h1.bind.mono ?_⟩
  rintro v2 H2 ⟨mu2, S2, d2, R2, x2, r2, h2⟩
  exact hr _ mu2 S2 H2 v v2 d1 d2 Q R2 (r1.mono R1 x2) r2 h2
theorem se_op {a b : Expr} {op : Operator} {f g : EF D} {p : P2} {r : R2} {pos : Pos} (ho : OpR X (binaryOp op) r) (hr : Srv2 X.K C r p) (ha : SE X C W a f) (hb : SE X C W b g) : SE X C W (.BinOp a op b pos) (fBin p f g) :=
  ⟨PE.imp (pe_op ho ha.pe hb.pe) fun σ H Q h => bin' (e1 := a) (e2 := b) hr h⟩
theorem se_cmp {a b : Expr} {op : CmpOp} {f g : EF D} {p : P2} {r : R2} {pos : Pos} (ho : OpR X (compareOp op) r) (hr : Srv2 X.K C r p) (ha : SE X C W a f) (hb : SE X C W b g) (hm : behindInMarks op b = false := by first | exact nomark _ | rfl) : SE X C W (.Compare a [op] [b] pos) (fBin p f g) :=
  ⟨PE.imp (pe_cmpR ho ha.pe hb.pe hm) fun σ H Q h => bin' (e1 := a) (e2 := b) hr h⟩
theorem se_un {a : Expr} {op : UnaryOp} {f : EF D} {p : P1} {r : V → Hp → VK → Prop} {pos : Pos} (ho : UnR X (unaryOp op) r) (hr : Srv1 X.K C r p) (ha : SE X C W a f) : SE X C W (.UnaryOp op a pos) (fUn p f) := by
  refine ⟨PE.imp (pe_un ho ha.pe) ?_⟩
  rintro σ H Q ⟨mu, S, ρ, R, re, h⟩
  refine ⟨mu, S, ρ, R, re, h.bind.mono ?_⟩
  rintro v H1 ⟨mu1, S1, d1, R1, x1, r1, h1⟩
  exact hr _ mu1 S1 H1 v d1 Q R1 r1 h1
/-- a built-in function, a type, called -/
theorem se_blt {x : Str} {p pos : Pos} {e : Expr} {es : List Expr} {id : String} {r : List V → Hp → VK → Prop} {q : PL} {g : EF (List D)} (hc : CallR X (.builtin id) r) (hr : SrvL X.K C r q) (hm : X.mg x = none) (hv : bootBuiltins x = some (.builtin id)) (ha : SA X C W (e :: es) g) (hg : Gl X x := by rfl) (hn : x ≠ "__name__" := by decide) (hdb : (x == ("__debug__" : Str)) = false := by decide)
    (he : starEach (e :: es) X.env = (false, eval e X.env) :: starEach es X.env := by rfl) (hpl : (backTo pos (starEach es X.env)).any (·.1) = false := by rfl) : SE X C W (.Call (.Name x p) (e :: es) [] pos) (fCall q g) := by
  refine ⟨PE.imp (pe_callB hc hg hm hv ha.pa hn hdb he hpl) ?_⟩
  rintro σ H Q ⟨mu, S, ρ, R, re, h⟩
  refine ⟨mu, S, ρ, R, re, h.bind.mono ?_⟩
  rintro v H1 ⟨mu1, S1, d1, R1, x1, r1, h1⟩
  exact hr _ mu1 S1 H1 v d1 Q R1 r1 h1
theorem se_typ {x : Str} {p pos : Pos} {e : Expr} {es : List Expr} {id : String} {r : List V → Hp → VK → Prop} {q : PL} {g : EF (List D)} (hc : CallR X (.type id) r) (hr : SrvL X.K C r q) (hm : X.mg x = none) (hv : bootBuiltins x = some (.type id)) (ha : SA X C W (e :: es) g) (hg : Gl X x := by rfl) (hn : x ≠ "__name__" := by decide) (hdb : (x == ("__debug__" : Str)) = false := by decide)
    (he : starEach (e :: es) X.env = (false, eval e X.env) :: starEach es X.env := by rfl) (hpl : (backTo pos (starEach es X.env)).any (·.1) = false := by rfl) : SE X C W (.Call (.Name x p) (e :: es) [] pos) (fCall q g) := by
  refine ⟨PE.imp (pe_callTy hc hg hm hv ha.pa hn hdb he hpl) ?_⟩
  rintro σ H Q ⟨mu, S, ρ, R, re, h⟩
  refine ⟨mu, S, ρ, R, re, h.bind.mono ?_⟩
  rintro v H1 ⟨mu1, S1, d1, R1, x1, r1, h1⟩
  exact hr _ mu1 S1 H1 v d1 Q R1 r1 h1
end
end Sh

set_option Elab.async false
set_option linter.all false
set_option maxRecDepth 100000
set_option maxHeartbeats 4000000
set_option autoImplicit false
namespace Sh
open PySem PySem.Spec PyProof.Rows L2

/-! ### new objects -/
section
variable {K : PySem.W.Frag} {C : Cls0} {mu : Nat → Addr} {n : Nat} {S : Store} {H H0 : Hp}
theorem sqT_upd {p a : Addr} {o : HO} {vs : List V} (hp : H p = none) (h : SqT K H a vs) : SqT K (upd H p o) a vs := by
  rcases h with (h | ⟨ob, h⟩) | h
  · exact .inl (.inl (by rw [upd_ne (ne_of_none h hp)]; exact h))
  · exact .inl (.inr ⟨ob, by rw [upd_ne (ne_of_none h hp)]; exact h⟩)
  · exact .inr h
theorem fzL_upd {p a : Addr} {o : HO} {vs : List V} (hp : H p = none) (h : FzL K H a vs) : FzL K (upd H p o) a vs := by
  rcases h with ⟨ob, h⟩ | h
  · exact .inl ⟨ob, by rw [upd_ne (ne_of_none h hp)]; exact h⟩
  · exact .inr h
theorem rgV_upd {p a : Addr} {o : HO} {i j k : Int} (hp : H p = none) (h : RgV H a i j k) : RgV (upd H p o) a i j k := by
  unfold RgV at h ⊢
  rw [upd_ne (ne_of_none h hp)]
  exact h
/-- an object that the store does not know -/
theorem Rel.new {p : Addr} {o : HO} (R : Rel K C mu S H) (hp : H p = none) : Rel K C mu S (upd H p o) := by
  refine ⟨R.inj, fun l ob e => ?_⟩
  have r := R.obj l ob e
  obtain ⟨u, hu, _⟩ := r.some
  exact r.mv (fun _ _ => rfl) (Nat.le_refl _) (fun _ _ z => sqT_upd hp z) (fun _ _ z => fzL_upd hp z) (fun _ _ _ _ z => rgV_upd hp z) (by rw [upd_ne (ne_of_none hu hp)])
theorem Ext.new {p : Addr} {o : HO} (hp : H p = none) : Ext mu n H mu n (upd H p o) :=
  ⟨Nat.le_refl _, fun _ _ => rfl, fun a u e _ => by rw [upd_ne (ne_of_none e hp)]; exact e, fun a u e => ⟨u, by rw [upd_ne (ne_of_none e hp)]; exact e⟩, fun _ h1 h2 => absurd (Nat.lt_of_lt_of_le h2 h1) (Nat.lt_irrefl _), fun a ob k e => by rw [upd_ne (ne_of_none e hp)]; exact e⟩
/-- the store takes an object in -/
def muUp (mu : Nat → Addr) (k : Nat) (p : Addr) : Nat → Addr := fun l => if l = k then p else mu l
theorem muUp_lt {k l : Nat} {p : Addr} (h : l < k) : muUp mu k p l = mu l := if_neg (Nat.ne_of_lt h)
theorem muUp_same {k : Nat} {p : Addr} : muUp mu k p k = p := if_pos rfl
theorem Rel.take {p : Addr} {o : SO} (R : Rel K C mu S H) (hf : ∀ l, l < S.length → mu l ≠ p) (ho : RO K C mu S.length H p o) : Rel K C (muUp mu S.length p) (S ++ [o]) H := by
  have low : ∀ l, l < S.length → muUp mu S.length p l = mu l := fun l h => muUp_lt h
  have wk : ∀ {a : Addr} {u : SO}, RO K C mu S.length H a u → RO K C (muUp mu S.length p) (S ++ [o]).length H a u := fun {a u} h =>
    h.mv low (by simp) (fun _ _ z => z) (fun _ _ z => z) (fun _ _ _ _ z => z) rfl
  refine ⟨fun i j hi hj e => ?_, fun l u e => ?_⟩
  · simp only [List.length_append, List.length_cons, List.length_nil] at hi hj
    by_cases h1 : i = S.length
    · by_cases h2 : j = S.length
      · rw [h1, h2]
      · subst h1
        rw [muUp_same, muUp_lt (by omega)] at e
        exact absurd e.symm (hf j (by omega))
    · by_cases h2 : j = S.length
      · subst h2
        rw [muUp_same, muUp_lt (by omega)] at e
        exact absurd e (hf i (by omega))
      · rw [muUp_lt (by omega), muUp_lt (by omega)] at e
        exact R.inj i j (by omega) (by omega) e
  · by_cases h1 : l < S.length
    · rw [low l h1]
      rw [List.getElem?_append_left h1] at e
      exact wk (R.obj l u e)
    · by_cases h2 : l = S.length
      · subst h2
        rw [muUp_same]
        simp at e
        subst e
        exact wk ho
      · rw [List.getElem?_eq_none (by simp; omega)] at e; cases e
theorem Ext.take {p : Addr} {n' : Nat} {H' : Hp} {mu' : Nat → Addr} (x : Ext mu n H mu' n' H') (hp : H p = none) : Ext mu n H (muUp mu' n' p) (n' + 1) H' := by
  refine ⟨Nat.le_succ_of_le x.le, fun l h => ?_, x.frame, x.keep, fun l h1 h2 => ?_, x.fz⟩
  · rw [muUp_lt (Nat.lt_of_lt_of_le h x.le)]; exact x.same l h
  · by_cases h3 : l = n'
    · subst h3; rw [muUp_same]; exact hp
    · rw [muUp_lt (by omega)]; exact x.fresh l h1 (by omega)
end

section
variable {X : Cx} {C : Cls0} {W : Wx}
/-! ### new lists -/
def fAl (f : EF (List D)) : EF D := fun ρ S => bindR (f ρ S) fun ds S1 => okR (.ref S1.length) (S1 ++ [.lst ds])
/-- a new list is taken into the store -/
theorem SL.se {e : Expr} {f : EF (List D)} (h : SL X C W e f) : SE X C W e (fAl f) := by
  refine ⟨PE.imp h.pe ?_⟩
  rintro σ H Q ⟨mu, S, ρ, R, re, q⟩
  refine ⟨mu, S, ρ, R, re, ?_⟩
  unfold fAl at q
  cases e1 : f ρ S with
  | none => rw [e1] at q; exact q
  | some p =>
    obtain ⟨r, S'⟩ := p
    rw [e1] at q
    cases r with
    | error er => exact q
    | ok ds =>
      rintro mu' H' v R' x ⟨p, vs, rfl, hp, rd, hf, h0⟩
      have hR := R'.take hf (o := .lst ds) ⟨vs, hp, rd⟩
      refine q (muUp mu' S'.length p) H' (.ref p) hR (by simpa using x.take h0) ?_
      have z : RD X.K (muUp mu' S'.length p) (S' ++ [SO.lst ds]).length H' (.ref (muUp mu' S'.length p S'.length)) (.ref S'.length) := .ref (by simp)
      rw [muUp_same] at z
      exact z
/-- [a, b, ..] -/
def fLst (g : EF (List D)) : EF (List D) := fun ρ S => bindR (g ρ S) fun ds S1 => if ds.length ≤ 16777216 then okR ds S1 else none
theorem sizeLine_16 : sizeLine = 16777216 := sizeLine_eq
theorem sl_lst {es : List Expr} {pos : Pos} {g : EF (List D)} (h : SA X C W es g) : SL X C W (.List es pos) (fLst g) := by
  refine ⟨PE.imp (pe_lst h.pa) ?_⟩
  rintro σ H Q ⟨mu, S, ρ, R, re, q⟩
  refine ⟨mu, S, ρ, R, re, ?_⟩
  unfold fLst at q
  cases e1 : g ρ S with
  | none => rw [e1] at q; exact q
  | some p =>
    obtain ⟨r, S'⟩ := p
    rw [e1] at q
    cases r with
    | error er => exact q
    | ok ds =>
      intro mu' H' vs R' x rd
      simp only [bindR_ok] at q
      split at q
      · rename_i hl
        refine ⟨by rw [RDs.length rd, sizeLine_16]; exact hl, fun p hp => ?_⟩
        have hx : H p = none := by
          cases e : H p with
          | none => rfl
          | some o =>
            obtain ⟨o', e'⟩ := x.keep p o e
            rw [hp] at e'; cases e'
        refine q mu' (upd H' p (.lst vs)) (.ref p) (R'.new hp) (x.trans (.new hp)) ⟨p, vs, rfl, upd_same, rd.mono R' (.new hp), fun l hl e => ?_, hx⟩
        obtain ⟨u, hu, _⟩ := R'.at hl
        rw [e, hp] at hu; cases hu
      · exact q.elim
/-- (a, b, ..) -/
def fTup (g : EF (List D)) : EF D := fun ρ S => bindR (g ρ S) fun ds S1 => if ds.length ≤ 16777216 then okR (.tup ds) S1 else none
theorem se_tup {es : List Expr} {pos : Pos} {x1} {g : EF (List D)} (h : SA X C W es g) : SE X C W (.Tuple es x1 pos) (fTup g) := by
  refine ⟨PE.imp (pe_tup h.pa) ?_⟩
  rintro σ H Q ⟨mu, S, ρ, R, re, q⟩
  refine ⟨mu, S, ρ, R, re, ?_⟩
  unfold fTup at q
  cases e1 : g ρ S with
  | none => rw [e1] at q; exact q
  | some p =>
    obtain ⟨r, S'⟩ := p
    rw [e1] at q
    cases r with
    | error er => exact q
    | ok ds =>
      intro mu' H' vs R' x rd
      simp only [bindR_ok] at q
      split at q
      · rename_i hl
        refine ⟨by rw [RDs.length rd, sizeLine_16]; exact hl, fun p hp => ?_⟩
        exact q mu' (upd H' p (.tup vs)) (.ref p) (R'.new hp) (x.trans (.new hp)) (.tup (.inl (.inl upd_same)) (rd.mono R' (.new hp)))
      · exact q.elim
/-- *e among the items of a display; e: a tuple, a list -/
def seqOf (d : D) (S : Store) : Option (List D) := match d with
  | .tup ds => some ds
  | .fl ds => some ds
  | .ref l => match S[l]? with
    | some (.lst ds) => some ds
    | _ => none
  | _ => none
theorem seqOf_sq {K : PySem.W.Frag} {mu : Nat → Addr} {S : Store} {H : Hp} {d : D} {v : V} {ds : List D} (R : Rel K C mu S H) (r : RD K mu S.length H v d) (e : seqOf d S = some ds) :
    ∃ a vs, v = .ref a ∧ (SqT K H a vs ∨ SqL K H a vs) ∧ RDs K mu S.length H vs ds := by
  cases r with
  | tup hs hd => cases e; exact ⟨_, _, rfl, .inl hs, hd⟩
  | fl hs hd => cases e; exact ⟨_, _, rfl, .inr hs.seq, hd⟩
  | @ref l hl =>
    unfold seqOf at e
    simp only at e
    split at e
    · rename_i ds' e1
      cases e
      obtain ⟨vs, e2, rd⟩ := R.obj _ _ e1
      exact ⟨_, vs, rfl, .inr (.of e2), rd⟩
    · cases e
  | _ => cases e
end

/-! ### statements -/
inductive Fl where
  | nx (ρ : Rho) | ret (d : D) | bk (ρ : Rho) | ct (ρ : Rho) | exn (e : Ex) (ρ : Rho)
abbrev Rf := Option (Fl × Store)
abbrev SF := Rho → Store → Rf
section
variable (K : PySem.W.Frag) (C : Cls0) (W : Wx) (mu : Nat → Addr) (n : Nat) (H : Hp)
def PostS (res : Rf) (Dn : Ends) : Prop :=
  match res with
  | none => False
  | some (.nx ρ, S') => ∀ mu' H' σ', Rel K C mu' S' H' → Ext mu n H mu' S'.length H' → RE K mu' S'.length H' σ' ρ → Dn.nx σ' H'
  | some (.ret d, S') => ∀ mu' H' v, Rel K C mu' S' H' → Ext mu n H mu' S'.length H' → RD K mu' S'.length H' v d → Dn.rt v H'
  | some (.bk ρ, S') => ∀ mu' H' σ', Rel K C mu' S' H' → Ext mu n H mu' S'.length H' → RE K mu' S'.length H' σ' ρ → Dn.bk σ' H'
  | some (.ct ρ, S') => ∀ mu' H' σ', Rel K C mu' S' H' → Ext mu n H mu' S'.length H' → RE K mu' S'.length H' σ' ρ → Dn.ct σ' H'
  | some (.exn e ρ, S') => ∀ mu' H' A dx vs σ', Rel K C mu' S' H' → Ext mu n H mu' S'.length H' → C e.1 A → H' dx = some (.xd vs) → RFs K mu' S'.length H' vs e.2 → RE K mu' S'.length H' σ' ρ → W (.ref A) (some dx) σ' H'
end
/-- what a value hands on to -/
def toS {α : Type} (ρ : Rho) (r : Rs α) (k : α → Store → Rf) : Rf := match r with
  | none => none
  | some (.ok a, S) => k a S
  | some (.error e, S) => some (.exn e ρ, S)
@[simp] theorem toS_none {α : Type} (ρ : Rho) (k : α → Store → Rf) : toS ρ none k = none := rfl
@[simp] theorem toS_ok {α : Type} (ρ : Rho) (a : α) (S : Store) (k : α → Store → Rf) : toS ρ (some (.ok a, S)) k = k a S := rfl
@[simp] theorem toS_error {α : Type} (ρ : Rho) (e : Ex) (S : Store) (k : α → Store → Rf) : toS ρ (some (.error e, S)) k = some (.exn e ρ, S) := rfl
section
variable {K : PySem.W.Frag} {C : Cls0} {W : Wx} {mu mu1 : Nat → Addr} {n n1 : Nat} {H H1 : Hp} {α β : Type} {RA : Hp → (Nat → Addr) → Nat → Hp → β → α → Prop}
theorem PostS.trans {res : Rf} {Dn : Ends} (x : Ext mu n H mu1 n1 H1) (h : PostS K C W mu n H res Dn) : PostS K C W mu1 n1 H1 res Dn := by
  cases res with
  | none => exact h
  | some p =>
    obtain ⟨f, S'⟩ := p
    cases f with
    | nx ρ => exact fun mu' H' σ' R y re => h mu' H' σ' R (x.trans y) re
    | ret d => exact fun mu' H' v R y rd => h mu' H' v R (x.trans y) rd
    | bk ρ => exact fun mu' H' σ' R y re => h mu' H' σ' R (x.trans y) re
    | ct ρ => exact fun mu' H' σ' R y re => h mu' H' σ' R (x.trans y) re
    | exn e ρ => exact fun mu' H' A dx vs σ' R y c hd rf re => h mu' H' A dx vs σ' R (x.trans y) c hd rf re
theorem PostS.mono {res : Rf} {D1 D2 : Ends} (h : PostS K C W mu n H res D1) (k1 : ∀ σ H, D1.nx σ H → D2.nx σ H) (k2 : ∀ v H, D1.rt v H → D2.rt v H) (k3 : ∀ σ H, D1.bk σ H → D2.bk σ H) (k4 : ∀ σ H, D1.ct σ H → D2.ct σ H) : PostS K C W mu n H res D2 := by
  cases res with
  | none => exact h
  | some p =>
    obtain ⟨f, S'⟩ := p
    cases f with
    | nx ρ => exact fun mu' H' σ' R y re => k1 _ _ (h mu' H' σ' R y re)
    | ret d => exact fun mu' H' v R y rd => k2 _ _ (h mu' H' v R y rd)
    | bk ρ => exact fun mu' H' σ' R y re => k3 _ _ (h mu' H' σ' R y re)
    | ct ρ => exact fun mu' H' σ' R y re => k4 _ _ (h mu' H' σ' R y re)
    | exn e ρ => exact h
theorem PostS.bind {S : Store} {σ : L2.St} {ρ : Rho} {res : Rs α} {k : α → Store → Rf} {Dn : Ends} (R : Rel K C mu S H) (re : RE K mu S.length H σ ρ) (h : PostS K C W mu S.length H (toS ρ res k) Dn) :
    PostG K C (fun c d H' => W c d σ H') mu S.length H RA res fun v H1 => ∃ mu1 S1 a, Rel K C mu1 S1 H1 ∧ Ext mu S.length H mu1 S1.length H1 ∧ RE K mu1 S1.length H1 σ ρ ∧ RA H mu1 S1.length H1 v a ∧ PostS K C W mu1 S1.length H1 (k a S1) Dn := by
  cases res with
  | none => exact h
  | some p =>
    obtain ⟨r, S'⟩ := p
    cases r with
    | ok a => exact fun mu' H' v R' y rd => ⟨mu', S', a, R', y, re.mono R y, rd, PostS.trans y h⟩
    | error e => exact fun mu' H' A dx vs R' y c hd rf => h mu' H' A dx vs σ R' y c hd rf (re.mono R y)
end
def TS' (K : PySem.W.Frag) (C : Cls0) (W : Wx) (f : SF) : TS := fun Dn σ H => ∃ mu S ρ, Rel K C mu S H ∧ RE K mu S.length H σ ρ ∧ PostS K C W mu S.length H (f ρ S) Dn
structure SS (X : Cx) (C : Cls0) (W : Wx) (st : Stmt) (f : SF) : Prop where
  ps : PS X st (TS' X.K C W f)
structure SB (X : Cx) (C : Cls0) (W : Wx) (sts : List Stmt) (f : SF) : Prop where
  pss : PSs X sts (TS' X.K C W f)

section
variable {X : Cx} {C : Cls0} {W : Wx}
def sNil : SF := fun ρ S => some (.nx ρ, S)
def sSeq (f g : SF) : SF := fun ρ S => match f ρ S with
  | some (.nx ρ', S') => g ρ' S'
  | r => r
theorem sb_nil : SB X C W [] sNil := ⟨PSs.imp pss_nil fun Dn σ H ⟨mu, S, ρ, R, re, h⟩ => h mu H σ R .refl re⟩
theorem sb_cons {st : Stmt} {sts : List Stmt} {f g : SF} (a : SS X C W st f) (b : SB X C W sts g) : SB X C W (st :: sts) (sSeq f g) := by
  refine ⟨PSs.imp (pss_cons a.ps b.pss) ?_⟩
  rintro Dn σ H ⟨mu, S, ρ, R, re, h⟩
  refine ⟨mu, S, ρ, R, re, ?_⟩
  unfold sSeq at h
  cases e : f ρ S with
  | none => rw [e] at h; exact h
  | some p =>
    obtain ⟨fl, S'⟩ := p
    rw [e] at h
    cases fl with
    | nx ρ' => exact fun mu' H' σ' R' y re' => ⟨mu', S', ρ', R', re', PostS.trans y h⟩
    | ret d => exact h
    | bk ρ' => exact h
    | ct ρ' => exact h
    | exn e ρ' => exact h
theorem sb_one {st : Stmt} {f : SF} (a : SS X C W st f) : SB X C W [st] f := ⟨pss_one a.ps⟩
def sExpr (f : EF D) : SF := fun ρ S => toS ρ (f ρ S) fun _ S1 => some (.nx ρ, S1)
theorem ss_expr {e : Expr} {f : EF D} {pos : Pos} (a : SE X C W e f) (hs : swapsWith e none pos.line X.env = pure false := by rfl) : SS X C W (.Expr e pos) (sExpr f) := by
  refine ⟨PS.imp (ps_expr a.pe hs) ?_⟩
  rintro Dn σ H ⟨mu, S, ρ, R, re, h⟩
  refine ⟨mu, S, ρ, R, re, (PostS.bind R re h).mono ?_⟩
  rintro v H1 ⟨mu1, S1, d1, R1, x1, re1, r1, h1⟩
  exact h1 mu1 H1 σ R1 .refl re1
def sRet (f : EF D) : SF := fun ρ S => toS ρ (f ρ S) fun d S1 => some (.ret d, S1)
theorem ss_ret {e : Expr} {f : EF D} {pos : Pos} (a : SE X C W e f) : SS X C W (.Return (some e) pos) (sRet f) := by
  refine ⟨PS.imp (ps_ret a.pe) ?_⟩
  rintro Dn σ H ⟨mu, S, ρ, R, re, h⟩
  refine ⟨mu, S, ρ, R, re, (PostS.bind R re h).mono ?_⟩
  rintro v H1 ⟨mu1, S1, d1, R1, x1, re1, r1, h1⟩
  exact h1 mu1 H1 v R1 .refl r1
def sIf (c : EF Bool) (f g : SF) : SF := fun ρ S => toS ρ (c ρ S) fun b S1 => if b = true then f ρ S1 else g ρ S1
theorem ss_if {e : Expr} {a b : List Stmt} {c : EF Bool} {f g : SF} {pos : Pos} (hc : ST X C W e c) (ha : SB X C W a f) (hb : SB X C W b g) : SS X C W (.If e a b pos) (sIf c f g) := by
  refine ⟨PS.imp (ps_if hc.pt ha.pss hb.pss) ?_⟩
  rintro Dn σ H ⟨mu, S, ρ, R, re, h⟩
  refine ⟨mu, S, ρ, R, re, (PostS.bind R re h).mono ?_⟩
  rintro v H1 ⟨mu1, S1, d1, R1, x1, re1, r1, h1⟩
  obtain rfl : v = d1 := r1
  cases v with
  | true => exact ⟨mu1, S1, ρ, R1, re1, h1⟩
  | false => exact ⟨mu1, S1, ρ, R1, re1, h1⟩
/-! ### assignments -/
abbrev GF := D → Rho → Store → Option (Rho × Store)
/-- a target by values: it raises nothing -/
def Tch (ts : List Nat) (σ σ' : L2.St) : Prop := σ'.length = σ.length ∧ ∀ i : Nat, i ∉ ts → σ'[i]? = σ[i]?
theorem Tch.refl {ts : List Nat} {σ : L2.St} : Tch ts σ σ := ⟨rfl, fun _ _ => rfl⟩
theorem Tch.trans {ts us : List Nat} {σ σ1 σ2 : L2.St} (a : Tch ts σ σ1) (b : Tch us σ1 σ2) : Tch (ts ++ us) σ σ2 :=
  ⟨b.1.trans a.1, fun i h => (b.2 i fun z => h (List.mem_append_right _ z)).trans (a.2 i fun z => h (List.mem_append_left _ z))⟩
def TG' (K : PySem.W.Frag) (C : Cls0) (g : GF) (ts : List Nat) : TG := fun v σ H Q => ∃ mu S ρ d, Rel K C mu S H ∧ RE K mu S.length H σ ρ ∧ RD K mu S.length H v d ∧
  match g d ρ S with
  | none => False
  | some (ρ', S') => ∀ mu' H' σ', Rel K C mu' S' H' → Ext mu S.length H mu' S'.length H' → RE K mu' S'.length H' σ' ρ' → Tch ts σ σ' → Q σ' H'
structure SG (X : Cx) (C : Cls0) (tg : Expr) (g : GF) (ts : List Nat) : Prop where
  pg : PG X tg (TG' X.K C g ts)
theorem PG.imp {tg : Expr} {t t' : TG} (h : PG X tg t) (k : ∀ v σ H Q, t' v σ H Q → t v σ H Q) : PG X tg t' := ⟨fun pins s σ H v u Q I r q => h.run pins s σ H v u Q I r (k v σ H Q q)⟩
def gN (i : Nat) : GF := fun d ρ S => some (ρ.set i (some d), S)
theorem sg_name (i : Nat) {x : Str} {pos : Pos} (hN : X.N.Nodup) (hi : X.N[i]? = some x := by rfl) (hx : Loc X.env.scope x := by first | exact Or.inl rfl | exact Or.inr rfl) (hf : X.fn x = true ∨ X.env.scope.names.lookup x = some .local := by first | exact .inl rfl | exact .inr rfl | assumption) : SG X C (.Name x pos) (gN i) [i] :=
  ⟨PG.imp (pg_name hN hi hx hf) fun v σ H Q ⟨mu, S, ρ, d, R, re, r, h⟩ => h mu H _ R .refl (re.set r i) ⟨by simp, fun j hj => List.getElem?_set_ne (fun e => hj (by simp [e]))⟩⟩
/-- several targets -/
abbrev GFs := List D → Rho → Store → Option (Rho × Store)
def TGs' (K : PySem.W.Frag) (C : Cls0) (g : GFs) (ts : List Nat) : TGs := fun vs σ H Q => ∃ mu S ρ ds, Rel K C mu S H ∧ RE K mu S.length H σ ρ ∧ RDs K mu S.length H vs ds ∧
  match g ds ρ S with
  | none => False
  | some (ρ', S') => ∀ mu' H' σ', Rel K C mu' S' H' → Ext mu S.length H mu' S'.length H' → RE K mu' S'.length H' σ' ρ' → Tch ts σ σ' → Q σ' H'
structure SGs (X : Cx) (C : Cls0) (tgs : List Expr) (g : GFs) (ts : List Nat) : Prop where
  pgs : PGs X tgs (TGs' X.K C g ts)
theorem PGs.imp {tg : List Expr} {t t' : TGs} (h : PGs X tg t) (k : ∀ v σ H Q, t' v σ H Q → t v σ H Q) : PGs X tg t' := ⟨fun pins s σ H v u Q I r q => h.run pins s σ H v u Q I r (k v σ H Q q)⟩
def gNl : GFs := fun ds ρ S => match ds with
  | [] => some (ρ, S)
  | _ => none
def gCn (g : GF) (gs : GFs) : GFs := fun ds ρ S => match ds with
  | d :: r => match g d ρ S with
    | some (ρ', S') => gs r ρ' S'
    | none => none
  | [] => none
theorem sgs_nil : SGs X C [] gNl [] := by
  refine ⟨PGs.imp pgs_nil ?_⟩
  rintro vs σ H Q ⟨mu, S, ρ, ds, R, re, r, h⟩
  cases ds with
  | nil => cases r; exact ⟨rfl, h mu H σ R .refl re .refl⟩
  | cons d ds => exact h.elim
theorem sgs_cons {e : Expr} {es : List Expr} {g : GF} {gs : GFs} {ts us : List Nat} (a : SG X C e g ts) (b : SGs X C es gs us) (hs : (assignEach (e :: es) X.env).map (·.2) = assign e X.env :: (assignEach es X.env).map (·.2) := by rfl) : SGs X C (e :: es) (gCn g gs) (ts ++ us) := by
  refine ⟨PGs.imp (pgs_cons a.pg b.pgs hs) ?_⟩
  rintro vs σ H Q ⟨mu, S, ρ, ds, R, re, r, h⟩
  cases ds with
  | nil => exact h.elim
  | cons d ds =>
    cases r with
    | cons r1 r2 =>
      refine ⟨_, _, rfl, mu, S, ρ, d, R, re, r1, ?_⟩
      simp only [gCn] at h
      cases e1 : g d ρ S with
      | none => rw [e1] at h; exact h.elim
      | some p =>
        obtain ⟨ρ', S'⟩ := p
        rw [e1] at h
        intro mu' H' σ' R' x re' t1
        refine ⟨mu', S', ρ', ds, R', re', r2.mono R x, ?_⟩
        simp only at h
        cases e2 : gs ds ρ' S' with
        | none => rw [e2] at h; exact h.elim
        | some p2 =>
          obtain ⟨ρ2, S2⟩ := p2
          rw [e2] at h
          exact fun mu2 H2 σ2 R2 y re2 t2 => h mu2 H2 σ2 R2 (x.trans y) re2 (t1.trans t2)
/-- (a, b, ..) = a tuple -/
def gTp (n : Nat) (gs : GFs) : GF := fun d ρ S => match d with
  | .tup ds => if ds.length = n then gs ds ρ S else none
  | _ => none
theorem sg_tup {es : List Expr} {k : Nat} {pos : Pos} {gs : GFs} {n : Nat} {ts : List Nat} (hc : X.calm = true) (b : SGs X C es gs ts) (hn : (assignEach es X.env).length = n := by rfl) (hst : (assignEach es X.env).findIdx? (·.1) = none := by rfl) : SG X C (.Tuple es k pos) (gTp n gs) ts := by
  refine ⟨PG.imp (pg_tup hc b.pgs hn hst) ?_⟩
  rintro v σ H Q ⟨mu, S, ρ, d, R, re, r, h⟩
  unfold gTp at h
  cases r with
  | tup hs hd =>
    rename_i a vs ds
    simp only at h
    by_cases hl : ds.length = n
    · rw [if_pos hl] at h
      exact ⟨a, vs, rfl, hs, (RDs.length hd).trans hl, mu, S, ρ, ds, R, re, hd, h⟩
    · rw [if_neg hl] at h; exact h.elim
  | _ => exact h.elim
def sAsg (f : EF D) (g : GF) : SF := fun ρ S => toS ρ (f ρ S) fun d S1 => match g d ρ S1 with
  | none => none
  | some (ρ', S') => some (.nx ρ', S')
theorem asg_post {K : PySem.W.Frag} {g : GF} {ts : List Nat} {mu : Nat → Addr} {S : Store} {H : Hp} {σ : L2.St} {ρ : Rho} {d : D} {v : V} {Dn : Ends} (R : Rel K C mu S H) (re : RE K mu S.length H σ ρ) (r : RD K mu S.length H v d)
    (h : PostS K C W mu S.length H (match g d ρ S with | none => none | some (ρ', S') => some (.nx ρ', S')) Dn) : TG' K C g ts v σ H Dn.nx := by
  refine ⟨mu, S, ρ, d, R, re, r, ?_⟩
  cases e : g d ρ S with
  | none => rw [e] at h; exact h.elim
  | some p =>
    obtain ⟨ρ', S'⟩ := p
    rw [e] at h
    exact fun mu' H' σ' R' x re' _ => h mu' H' σ' R' x re'
theorem ss_asg {tg e : Expr} {f : EF D} {g : GF} {ts : List Nat} {pos : Pos} (a : SE X C W e f) (b : SG X C tg g ts) (hs : swapsWithSole [tg] e pos.line X.env = pure false := by rfl) (hw : swappedStores [tg] e X.env = pure none := by rfl)
    (h1 : (assignEach [tg] X.env).map (·.2) = [assign tg X.env] := by rfl) : SS X C W (.Assign [tg] e pos) (sAsg f g) := by
  refine ⟨PS.imp (ps_asg a.pe b.pg hs hw h1) ?_⟩
  rintro Dn σ H ⟨mu, S, ρ, R, re, h⟩
  refine ⟨mu, S, ρ, R, re, (PostS.bind R re h).mono ?_⟩
  rintro v H1 ⟨mu1, S1, d1, R1, x1, re1, r1, h1⟩
  exact asg_post R1 re1 r1 h1
theorem ss_set (i : Nat) {x : Str} {e : Expr} {f : EF D} {pos pos' : Pos} (hN : X.N.Nodup) (a : SE X C W e f) (hi : X.N[i]? = some x := by rfl) (hx : Loc X.env.scope x := by first | exact Or.inl rfl | exact Or.inr rfl) (hs : swapsWith e (some (.Name x pos')) pos.line X.env = pure false := by rfl)
    (hf : X.fn x = true ∨ X.env.scope.names.lookup x = some .local := by first | exact .inl rfl | exact .inr rfl | assumption) : SS X C W (.Assign [.Name x pos'] e pos) (sAsg f (gN i)) := by
  refine ⟨PS.imp (ps_set hN hi hx a.pe hs hf) ?_⟩
  rintro Dn σ H ⟨mu, S, ρ, R, re, h⟩
  refine ⟨mu, S, ρ, R, re, (PostS.bind R re h).mono ?_⟩
  rintro v H1 ⟨mu1, S1, d1, R1, x1, re1, r1, h1⟩
  exact h1 mu1 H1 _ R1 .refl (re1.set r1 i)
/-- name op= e -/
def sAug (i : Nat) (p : P2) (f : EF D) : SF := fun ρ S => match ρ[i]? with
  | some (some d) => toS ρ (bindR (f ρ S) fun y S1 => p d y S1) fun z S2 => some (.nx (ρ.set i (some z)), S2)
  | _ => none
def SrvIp (X : Cx) (C : Cls0) (t : TIp) (p : P2) : Prop :=
  ∀ (XW : Value → Option Addr → Hp → Prop) (mu : Nat → Addr) (S : Store) (H : Hp) (x y : V) (d e : D) (Q : VK), Rel X.K C mu S H → RD X.K mu S.length H x d → RD X.K mu S.length H y e → PostG X.K C XW mu S.length H (QD X.K) (p d e S) Q → t x y H Q
theorem ss_aug (i : Nat) {x : Str} {e : Expr} {f : EF D} {op : Operator} {ti : TIp} {p : P2} {pos pos' : Pos} (hN : X.N.Nodup) (ho : PIp X op ti) (hp : SrvIp X C ti p) (a : SE X C W e f) (hi : X.N[i]? = some x := by rfl) (hx : Loc X.env.scope x := by first | exact Or.inl rfl | exact Or.inr rfl)
    (hf : X.fn x = true ∨ X.env.scope.names.lookup x = some .local := by first | exact .inl rfl | exact .inr rfl | assumption) : SS X C W (.AugAssign (.Name x pos') op e pos) (sAug i p f) := by
  refine ⟨PS.imp (ps_aug hN hi hx a.pe ho hf) ?_⟩
  rintro Dn σ H ⟨mu, S, ρ, R, re, h⟩
  unfold sAug at h
  split at h
  · rename_i d e1
    obtain ⟨v, e2, r⟩ := re.get i d e1
    refine ⟨v, e2, mu, S, ρ, R, re, ?_⟩
    have q := PostS.bind (RA := QD X.K) R re h
    refine q.bind.mono ?_
    rintro y H1 ⟨mu1, S1, d1, R1, x1, r1, h1⟩
    refine hp _ mu1 S1 H1 v y d d1 _ R1 (r.mono R x1) r1 (h1.mono ?_)
    rintro z H2 ⟨mu2, S2, d2, R2, x2, re2, r2, h2⟩
    exact h2 mu2 H2 _ R2 .refl (re2.set r2 i)
  · exact h.elim
end
end Sh

set_option Elab.async false
set_option linter.all false
set_option maxRecDepth 100000
set_option maxHeartbeats 4000000
set_option autoImplicit false
namespace Sh
open PySem PySem.Spec PyProof.Rows L2

section
variable {X : Cx} {C : Cls0} {W : Wx}
/-! ### tests -/
def asB (r : Rs D) : Rs Bool := bindR r fun d S => match d with
  | .bl b => okR b S
  | _ => none
def fT (f : EF D) : EF Bool := fun ρ S => asB (f ρ S)
theorem asB_post {K : PySem.W.Frag} {XW : Value → Option Addr → Hp → Prop} {mu : Nat → Addr} {n : Nat} {H : Hp} {r : Rs D} {Q : Bool → Hp → Prop} (h : PostG K C XW mu n H RB0 (asB r) Q) :
    PostG K C XW mu n H (QD K) r fun v H1 => ∃ c, v = .bl c ∧ Q c H1 := by
  refine (PostG.bind (RA := QD K) h).mono ?_
  rintro v H1 ⟨mu1, S1, d1, R1, x1, r1, h1⟩
  cases r1 with
  | bl b => exact ⟨b, rfl, h1.ok R1 rfl⟩
  | _ => exact h1.elim
theorem st_cmp {a b : Expr} {op : CmpOp} {f g : EF D} {p : P2} {r : R2} {pos : Pos} (ho : OpR X (compareOp op) r) (hr : Srv2 X.K C r p) (ha : SE X C W a f) (hb : SE X C W b g) (hm : behindInMarks op b = false := by first | exact nomark _ | rfl) : ST X C W (.Compare a [op] [b] pos) (fT (fBin p f g)) := by
  refine ⟨PT.imp (pt_cmpR ho ha.pe hb.pe hm) ?_⟩
  rintro σ H Q ⟨mu, S, ρ, R, re, h⟩
  exact bin' (e1 := a) (e2 := b) hr ⟨mu, S, ρ, R, re, asB_post h⟩
/-- a op b op' c -/
def fChain (p q : P2) (f g h : EF D) : EF D := fun ρ S => bindR (f ρ S) fun d S1 => bindR (g ρ S1) fun e S2 => bindR (p d e S2) fun z S3 => match z with
  | .bl true => bindR (h ρ S3) fun k S4 => q e k S4
  | .bl false => okR (.bl false) S3
  | _ => none
theorem chain' {e1 e2 e3 : Expr} {f g h : EF D} {p q : P2} {r r' : R2} (hr : Srv2 X.K C r p) (hr' : Srv2 X.K C r' q) {σ : L2.St} {H : Hp} {Q : VK} (z : TE' X.K C W (fChain p q f g h) σ H Q) : tChain r r' (TE' X.K C W f) (TE' X.K C W g) (TE' X.K C W h) σ H Q := by
  obtain ⟨mu, S, ρ, R, re, z⟩ := z
  refine ⟨mu, S, ρ, R, re, (PostG.bind (RA := QD X.K) z).mono ?_⟩
  rintro v H1 ⟨mu1, S1, d1, R1, x1, r1, h1⟩
  refine ⟨mu1, S1, ρ, R1, re.mono R x1, (PostG.bind (RA := QD X.K) h1).mono ?_⟩
  rintro v2 H2 ⟨mu2, S2, d2, R2, x2, r2, h2⟩
  refine hr _ mu2 S2 H2 v v2 d1 d2 _ R2 (r1.mono R1 x2) r2 ((PostG.bind (RA := QD X.K) h2).mono ?_)
  rintro v3 H3 ⟨mu3, S3, d3, R3, x3, r3, h3⟩
  cases r3 with
  | bl b =>
    refine ⟨b, rfl, ?_⟩
    cases b with
    | false => exact h3.ok R3 (.bl false)
    | true =>
      rw [if_pos rfl]
      refine ⟨mu3, S3, ρ, R3, (re.mono R x1).mono R1 x2 |>.mono R2 x3, (PostG.bind (RA := QD X.K) h3).mono ?_⟩
      rintro v4 H4 ⟨mu4, S4, d4, R4, x4, r4, h4⟩
      exact hr' _ mu4 S4 H4 v2 v4 d2 d4 Q R4 ((r2.mono R2 x3).mono R3 x4) r4 h4
  | _ => exact h3.elim
theorem se_chain {a b c : Expr} {op op' : CmpOp} {f g h : EF D} {p q : P2} {r r' : R2} {pos : Pos} (ho : OpR X (compareOp op) r) (ho' : OpR X (compareOp op') r') (hr : Srv2 X.K C r p) (hr' : Srv2 X.K C r' q) (ha : SE X C W a f) (hb : SE X C W b g) (hc : SE X C W c h)
    (hm : lastMarks [op, op'] [b, c] = false := by with_unfolding_all rfl) : SE X C W (.Compare a [op, op'] [b, c] pos) (fChain p q f g h) :=
  ⟨PE.imp (pe_chain ho ho' ha.pe hb.pe hc.pe hm) fun σ H Q z => chain' (e1 := a) (e2 := b) (e3 := c) hr hr' z⟩
theorem st_chain {a b c : Expr} {op op' : CmpOp} {f g h : EF D} {p q : P2} {r r' : R2} {pos : Pos} (ho : OpR X (compareOp op) r) (ho' : OpR X (compareOp op') r') (hr : Srv2 X.K C r p) (hr' : Srv2 X.K C r' q) (ha : SE X C W a f) (hb : SE X C W b g) (hc : SE X C W c h)
    (hm : lastMarks [op, op'] [b, c] = false := by with_unfolding_all rfl) : ST X C W (.Compare a [op, op'] [b, c] pos) (fT (fChain p q f g h)) := by
  refine ⟨PT.imp (pt_chain ho ho' ha.pe hb.pe hc.pe hm) ?_⟩
  rintro σ H Q ⟨mu, S, ρ, R, re, z⟩
  exact chain' (e1 := a) (e2 := b) (e3 := c) hr hr' ⟨mu, S, ρ, R, re, asB_post z⟩
/-- and, or, not as tests -/
structure SW (X : Cx) (C : Cls0) (W : Wx) (e : Expr) (f : EF Bool) : Prop where
  pw : PW X e (TT' X.K C W f)
theorem PW.imp {e : Expr} {t t' : TT} (h : PW X e t) (k : ∀ σ H Q, t' σ H Q → t σ H Q) : PW X e t' := ⟨fun wh pins s σ H Q I q => h.run wh pins s σ H Q I (k σ H Q q)⟩
def tAndF (f g : EF Bool) : EF Bool := fun ρ S => bindR (f ρ S) fun b S1 => if b = true then g ρ S1 else okR false S1
def tOrF (f g : EF Bool) : EF Bool := fun ρ S => bindR (f ρ S) fun b S1 => if b = true then okR true S1 else g ρ S1
def tNotF (f : EF Bool) : EF Bool := fun ρ S => bindR (f ρ S) fun b S1 => okR (!b) S1
theorem sw_and1 {a : Expr} {f : EF Bool} {pos : Pos} (h : ST X C W a f) : SW X C W (.BoolOp .And [a] pos) f := ⟨pw_and1 h.pt⟩
theorem sw_or1 {a : Expr} {f : EF Bool} {pos : Pos} (h : ST X C W a f) : SW X C W (.BoolOp .Or [a] pos) f := ⟨pw_or1 h.pt⟩
theorem sw_and {a b : Expr} {r : List Expr} {f g : EF Bool} {pos : Pos} (h : ST X C W a f) (k : SW X C W (.BoolOp .And (b :: r) pos) g) : SW X C W (.BoolOp .And (a :: b :: r) pos) (tAndF f g) := by
  refine ⟨PW.imp (pw_and h.pt k.pw) ?_⟩
  rintro σ H Q ⟨mu, S, ρ, R, re, z⟩
  refine ⟨mu, S, ρ, R, re, (PostG.bind (RA := RB0) z).mono ?_⟩
  rintro v H1 ⟨mu1, S1, d1, R1, x1, r1, h1⟩
  obtain rfl : v = d1 := r1
  cases v with
  | true => exact ⟨mu1, S1, ρ, R1, re.mono R x1, h1⟩
  | false => exact h1.ok R1 rfl
theorem sw_or {a b : Expr} {r : List Expr} {f g : EF Bool} {pos : Pos} (h : ST X C W a f) (k : SW X C W (.BoolOp .Or (b :: r) pos) g) : SW X C W (.BoolOp .Or (a :: b :: r) pos) (tOrF f g) := by
  refine ⟨PW.imp (pw_or h.pt k.pw) ?_⟩
  rintro σ H Q ⟨mu, S, ρ, R, re, z⟩
  refine ⟨mu, S, ρ, R, re, (PostG.bind (RA := RB0) z).mono ?_⟩
  rintro v H1 ⟨mu1, S1, d1, R1, x1, r1, h1⟩
  obtain rfl : v = d1 := r1
  cases v with
  | true => exact h1.ok R1 rfl
  | false => exact ⟨mu1, S1, ρ, R1, re.mono R x1, h1⟩
theorem st_w {e : Expr} {f : EF Bool} (h : SW X C W e f) : ST X C W e f := ⟨h.pw.pt⟩
theorem st_not {a : Expr} {f : EF Bool} {pos : Pos} (h : ST X C W a f) : ST X C W (.UnaryOp .Not a pos) (tNotF f) := by
  refine ⟨PT.imp (pt_not h.pt) ?_⟩
  rintro σ H Q ⟨mu, S, ρ, R, re, z⟩
  refine ⟨mu, S, ρ, R, re, (PostG.bind (RA := RB0) z).mono ?_⟩
  rintro v H1 ⟨mu1, S1, d1, R1, x1, r1, h1⟩
  obtain rfl : v = d1 := r1
  exact h1.ok R1 rfl
/-- an expression of any kind as a test -/
def truO (d : D) (S : Store) : Option Bool := match d with
  | .non => some false
  | .bl b => some b
  | .int i => some (i != 0)
  | .str x => if x.length ≤ 16777216 then some ((x.length : Int) != 0) else none
  | .tup ds => some !ds.isEmpty
  | .fl ds => some !ds.isEmpty
  | .ref l => match S[l]? with
    | some (.lst ds) => some !ds.isEmpty
    | _ => none
  | .rng _ _ _ => none
  | .gd _ => none
def fTru (f : EF D) : EF Bool := fun ρ S => bindR (f ρ S) fun d S1 => match truO d S1 with
  | some b => okR b S1
  | none => none
theorem truO_ok {K : PySem.W.Frag} {mu : Nat → Addr} {S : Store} {H : Hp} {d : D} {v : V} {b : Bool} (R : Rel K C mu S H) (r : RD K mu S.length H v d) (e : truO d S = some b) : TruV K v H b := by
  cases r with
  | non => cases e; exact rfl
  | bl b => cases e; exact rfl
  | int i => cases e; exact rfl
  | rng _ => cases e
  | gd _ => cases e
  | str x =>
    simp only [truO] at e
    split at e
    · cases e
      refine ⟨by rw [sizeLine_16]; assumption, rfl⟩
    · cases e
  | @tup a vs ds hs hd =>
    cases e
    refine .inr (.inl ⟨_, hs, ?_⟩)
    have := RDs.length hd
    cases vs <;> cases ds <;> simp_all
  | @fl a vs ds hs hd =>
    cases e
    refine .inl ⟨_, hs.seq, ?_⟩
    have := RDs.length hd
    cases vs <;> cases ds <;> simp_all
  | @ref l hl =>
    simp only [truO] at e
    split at e
    · rename_i ds e1
      cases e
      obtain ⟨vs, e2, rd⟩ := R.obj _ _ e1
      refine .inl ⟨vs, .of e2, ?_⟩
      have := RDs.length rd
      cases vs <;> cases ds <;> simp_all
    · cases e
theorem st_tru {e : Expr} {f : EF D} (a : SE X C W e f) (he : ∀ whole, isTrue e X.env whole = (do let v ← whole; standAt e.pos; holding [v] (truthy v)) := by intro _; rfl) : ST X C W e (fTru f) := by
  refine ⟨PT.imp (pt_truth a.pe he) ?_⟩
  rintro σ H Q ⟨mu, S, ρ, R, re, h⟩
  refine ⟨mu, S, ρ, R, re, (PostG.bind (RA := QD X.K) h).mono ?_⟩
  rintro v H1 ⟨mu1, S1, d1, R1, x1, r1, h1⟩
  split at h1
  · rename_i b e1
    exact ⟨b, truO_ok R1 r1 e1, h1.ok R1 rfl⟩
  · exact h1.elim
/-- a if t else b -/
def fIf (c : EF Bool) (f g : EF D) : EF D := fun ρ S => bindR (c ρ S) fun b S1 => if b = true then f ρ S1 else g ρ S1
theorem se_if {c a b : Expr} {t : EF Bool} {f g : EF D} {pos : Pos} (hc : ST X C W c t) (ha : SE X C W a f) (hb : SE X C W b g) : SE X C W (.IfExp c a b pos) (fIf t f g) := by
  refine ⟨PE.imp (pe_ifExp hc.pt ha.pe hb.pe) ?_⟩
  rintro σ H Q ⟨mu, S, ρ, R, re, h⟩
  refine ⟨mu, S, ρ, R, re, (PostG.bind (RA := RB0) h).mono ?_⟩
  rintro v H1 ⟨mu1, S1, d1, R1, x1, r1, h1⟩
  obtain rfl : v = d1 := r1
  cases v with
  | true => exact ⟨mu1, S1, ρ, R1, re.mono R x1, h1⟩
  | false => exact ⟨mu1, S1, ρ, R1, re.mono R x1, h1⟩
/-- a and b, a or b, not a as values, all True or False -/
def fAnd (f g : EF D) : EF D := fun ρ S => bindR (asB (f ρ S)) fun b S1 => if b = true then g ρ S1 else okR (.bl false) S1
theorem se_one {op : BoolOp} {a : Expr} {f : EF D} {pos : Pos} (h : SE X C W a f) : SE X C W (.BoolOp op [a] pos) f := ⟨pe_one h.pe⟩
theorem se_and {a b : Expr} {r : List Expr} {f g : EF D} {pos : Pos} (h : SE X C W a f) (k : SE X C W (.BoolOp .And (b :: r) pos) g) : SE X C W (.BoolOp .And (a :: b :: r) pos) (fAnd f g) := by
  refine ⟨PE.imp (pe_and h.pe k.pe) ?_⟩
  rintro σ H Q ⟨mu, S, ρ, R, re, z⟩
  refine ⟨mu, S, ρ, R, re, ?_⟩
  have z' := asB_post (Q := fun c H1 => if c = true then TE' X.K C W g σ H1 Q else Q (.bl false) H1) ((PostG.bind (RA := RB0) z).mono ?_)
  · exact z'.mono fun v H1 ⟨c, e, q⟩ => ⟨c, e, q⟩
  · rintro v H1 ⟨mu1, S1, d1, R1, x1, r1, h1⟩
    obtain rfl : v = d1 := r1
    cases v with
    | true => exact ⟨mu1, S1, ρ, R1, re.mono R x1, h1⟩
    | false => exact h1.ok R1 (.bl false)
end

/-! ### what is walked -/
structure ItG (K : PySem.W.Frag) (C : Cls0) (J : It) (ds : List D) (chk : List (Nat × List D)) (mu1 : Nat → Addr) (n1 : Nat) (H1 : Hp) : Prop where
  go : ∀ mu' S' H' i, Rel K C mu' S' H' → Ext mu1 n1 H1 mu' S'.length H' → (∀ q ∈ chk, S'[q.1]? = some (.lst q.2)) → i < ds.length → J.go i H'
  yld : ∀ mu' S' H' i x H'', Rel K C mu' S' H' → Ext mu1 n1 H1 mu' S'.length H' → (∀ q ∈ chk, S'[q.1]? = some (.lst q.2)) → i < ds.length → J.yld i H' x H'' →
    ∃ d, ds[i]? = some d ∧ Rel K C mu' S' H'' ∧ Ext mu' S'.length H' mu' S'.length H'' ∧ RD K mu' S'.length H'' x d
  stop : ∀ mu' S' H', Rel K C mu' S' H' → Ext mu1 n1 H1 mu' S'.length H' → (∀ q ∈ chk, S'[q.1]? = some (.lst q.2)) → J.stop ds.length H'
def RI (K : PySem.W.Frag) (C : Cls0) : Hp → (Nat → Addr) → Nat → Hp → It → (List D × List (Nat × List D)) → Prop := fun _ mu n H J p => ItG K C J p.1 p.2 mu n H
instance {K : PySem.W.Frag} {C : Cls0} : Anti (RI K C) := ⟨fun _ h => h⟩
abbrev IF := EF (List D × List (Nat × List D))
def TI' (K : PySem.W.Frag) (C : Cls0) (W : Wx) (f : IF) : TI := fun σ H R => ∃ mu S ρ, Rel K C mu S H ∧ RE K mu S.length H σ ρ ∧ PostG K C (fun c d H' => W c d σ H') mu S.length H (RI K C) (f ρ S) R
structure SI (X : Cx) (C : Cls0) (W : Wx) (tg iter : Expr) (f : IF) : Prop where
  pi : PI X tg iter (TI' X.K C W f)
theorem PI.imp {X : Cx} {tg e : Expr} {t t' : TI} (h : PI X tg e t) (k : ∀ σ H R, t' σ H R → t σ H R) : PI X tg e t' := ⟨fun pins s σ H R I q => h.run pins s σ H R I (k σ H R q)⟩
open Classical in
/-- what is walked stands still -/
noncomputable def chkOk (p : List D × List (Nat × List D)) (S : Store) : Bool := decide (∀ q ∈ p.2, S[q.1]? = some (.lst q.2))
open Classical in
theorem chkOk_of {p : List D × List (Nat × List D)} {S : Store} (h : chkOk p S = true) : ∀ q ∈ p.2, S[q.1]? = some (.lst q.2) := by
  unfold chkOk at h
  exact of_decide_eq_true h
section
variable {K : PySem.W.Frag} {C : Cls0} {mu : Nat → Addr} {S : Store} {H : Hp}
theorem itg_tup {a : Addr} {vs : List V} {ds : List D} (R : Rel K C mu S H) (hs : SqT K H a vs) (hd : RDs K mu S.length H vs ds) : ItG K C (Itt K a) ds [] mu S.length H where
  go := fun mu' S' H' i R' x _ hi => by
    obtain ⟨v, e, _⟩ := hd.get (List.getElem?_eq_getElem hi)
    exact ⟨vs, v, x.sqT R hs, e⟩
  yld := fun mu' S' H' i v H'' R' x _ hi y => by
    obtain ⟨rfl, y⟩ := y
    have e := y vs (x.sqT R hs)
    obtain ⟨d, e2, r⟩ := (hd.mono R x).get' e
    exact ⟨d, e2, R', .refl, r⟩
  stop := fun mu' S' H' R' x _ => ⟨vs, x.sqT R hs, Nat.le_of_eq (RDs.length hd)⟩
theorem itg_fl {a : Addr} {vs : List V} {ds : List D} (R : Rel K C mu S H) (hs : FzL K H a vs) (hd : RDs K mu S.length H vs ds) : ItG K C (Itl K a) ds [] mu S.length H where
  go := fun mu' S' H' i R' x _ hi => by
    obtain ⟨v, e, _⟩ := hd.get (List.getElem?_eq_getElem hi)
    exact ⟨vs, v, (x.fzL R hs).seq, e⟩
  yld := fun mu' S' H' i v H'' R' x _ hi y => by
    obtain ⟨rfl, y⟩ := y
    have e := y vs (x.fzL R hs).seq
    obtain ⟨d, e2, r⟩ := (hd.mono R x).get' e
    exact ⟨d, e2, R', .refl, r⟩
  stop := fun mu' S' H' R' x _ => ⟨vs, (x.fzL R hs).seq, Nat.le_of_eq (RDs.length hd)⟩
/-- a list of the store -/
theorem itg_ref {l : Nat} {ds : List D} (hl : l < S.length) : ItG K C (Itl K (mu l)) ds [(l, ds)] mu S.length H where
  go := fun mu' S' H' i R' x c hi => by
    obtain ⟨vs, e, hd⟩ := R'.obj l _ (c (l, ds) (List.mem_cons_self ..))
    obtain ⟨v, e2, _⟩ := hd.get (List.getElem?_eq_getElem hi)
    rw [x.same l hl] at e
    exact ⟨vs, v, .of e, e2⟩
  yld := fun mu' S' H' i v H'' R' x c hi y => by
    obtain ⟨rfl, y⟩ := y
    obtain ⟨vs, e, hd⟩ := R'.obj l _ (c (l, ds) (List.mem_cons_self ..))
    rw [x.same l hl] at e
    have e3 := y vs (.of e)
    obtain ⟨d, e2, r⟩ := hd.get' e3
    exact ⟨d, e2, R', .refl, r⟩
  stop := fun mu' S' H' R' x c => by
    obtain ⟨vs, e, hd⟩ := R'.obj l _ (c (l, ds) (List.mem_cons_self ..))
    rw [x.same l hl] at e
    exact ⟨vs, .of e, Nat.le_of_eq (RDs.length hd)⟩
/-- a new list -/
theorem itg_new {a : Addr} {vs : List V} {ds : List D} (R : Rel K C mu S H) (ha : H a = some (.lst vs)) (hd : RDs K mu S.length H vs ds) (hf : ∀ l, l < S.length → mu l ≠ a) : ItG K C (Itl K a) ds [] mu S.length H where
  go := fun mu' S' H' i R' x _ hi => by
    obtain ⟨v, e, _⟩ := hd.get (List.getElem?_eq_getElem hi)
    exact ⟨vs, v, .of (x.frame _ _ ha hf), e⟩
  yld := fun mu' S' H' i v H'' R' x _ hi y => by
    obtain ⟨rfl, y⟩ := y
    have e := y vs (.of (x.frame _ _ ha hf))
    obtain ⟨d, e2, r⟩ := (hd.mono R x).get' e
    exact ⟨d, e2, R', .refl, r⟩
  stop := fun mu' S' H' R' x _ => ⟨vs, .of (x.frame _ _ ha hf), Nat.le_of_eq (RDs.length hd)⟩
def dInts (lo : Int) (n : Nat) : List D := (List.range n).map fun i => D.int (lo + (i : Nat))
theorem dInts_length {lo : Int} {n : Nat} : (dInts lo n).length = n := by simp [dInts]
theorem itg_rng {lo : Int} {n : Nat} : ItG K C (Itr lo n) (dInts lo n) [] mu S.length H where
  go := fun mu' S' H' i R' x _ hi => by rw [dInts_length] at hi; exact hi
  yld := fun mu' S' H' i v H'' R' x _ hi y => by
    obtain ⟨rfl, rfl⟩ := y
    rw [dInts_length] at hi
    exact ⟨.int (lo + (i : Nat)), by simp [dInts, hi], R', .refl, .int _⟩
  stop := fun mu' S' H' R' x _ => by show n ≤ (dInts lo n).length; rw [dInts_length]; exact Nat.le_refl _
def chars (z : Str) : List D := z.cps.toList.map fun c => D.str ⟨#[c]⟩
theorem itg_str {z : Str} : ItG K C (Its z) (chars z) [] mu S.length H where
  go := fun mu' S' H' i R' x _ hi => by show i < z.cps.size; simpa [chars] using hi
  yld := fun mu' S' H' i v H'' R' x _ hi y => by
    obtain ⟨rfl, c, e, rfl⟩ := y
    refine ⟨.str ⟨#[c]⟩, ?_, R', .refl, .str _⟩
    simp [chars, e]
  stop := fun mu' S' H' R' x _ => by show z.cps.size ≤ (chars z).length; simp [chars]
end

/-- a list or a tuple or a text, walked -/
theorem pi_any {X : Cx} {tg l : Expr} {tl : TE} (hl : PE X l tl) :
    PI X tg l (fun σ H R => tl σ H fun x H1 => (∃ a, x = .ref a ∧ (((∃ xs, SqL X.K H1 a xs) ∧ R (Itl X.K a) H1) ∨ ((∃ xs, SqT X.K H1 a xs) ∧ R (Itt X.K a) H1))) ∨ (∃ z, x = .str z ∧ R (Its z) H1)) := by
  refine ⟨fun pins s σ H R I h => ?_⟩
  refine thn (hl.run pins s σ H _ I h) fun v s1 ⟨x, H1, I1, r1, q1⟩ => ?_
  rcases q1 with ⟨a, e, q⟩ | ⟨z, e, q⟩
  · subst e
    cases r1
    rcases q with ⟨⟨xs, hq⟩, q⟩ | ⟨⟨xs, hq⟩, q⟩
    · obtain ⟨its, rv, p, hz⟩ := I1.list hq
      refine wpAny_pyIter_list p.isList ?_
      refine ⟨s1.heap.objs.size, [s1.heap.objs.size], _, _, H1, rfl, I1.kept (t' := s1.toks) fun b o e => Heap.get?_push_of_some _ e, turn_list a _, ⟨_, Heap.get?_push_size _ rfl, rfl, rfl⟩, fun b hb => ?_, q⟩
      have e : b = s1.heap.objs.size := by simpa using hb
      subst e
      exact I1.fpOk (Nat.le_refl _) (I1.hok.fresh (Nat.le_refl _))
    · obtain ⟨its, rv, p, hz⟩ := I1.tuple hq
      refine wpAny_pyIter_tuple (show s1.heap.IsTuple a its.toArray from p) ?_
      refine ⟨s1.heap.objs.size, [s1.heap.objs.size], _, _, H1, rfl, I1.kept (t' := s1.toks) fun b o e => Heap.get?_push_of_some _ e, turn_tuple a _, ⟨_, Heap.get?_push_size _ rfl, rfl, rfl⟩, fun b hb => ?_, q⟩
      have e : b = s1.heap.objs.size := by simpa using hb
      subst e
      exact I1.fpOk (Nat.le_refl _) (I1.hok.fresh (Nat.le_refl _))
  · subst e
    obtain ⟨t, rfl⟩ := r1
    cases ha : z.cps.all (· < 128)
    · exact wpAny_pyIter_wide ha (pi_one (tk := s1.toks) I1 _ (turn_str _ z t "str_iterator" (.inr rfl)) ⟨_, Heap.get?_push_size _ rfl, rfl, rfl⟩ q)
    · exact wpAny_pyIter_ascii ha (pi_one (tk := s1.toks) I1 _ (turn_str _ z t "str_ascii_iterator" (.inl rfl)) ⟨_, Heap.get?_push_size _ rfl, rfl, rfl⟩ q)

section
variable {X : Cx} {C : Cls0} {W : Wx}
def walkOf (d : D) (S : Store) : Option (List D × List (Nat × List D)) := match d with
  | .tup ds => some (ds, [])
  | .fl ds => some (ds, [])
  | .str z => some (chars z, [])
  | .ref l => match S[l]? with
    | some (.lst ds) => some (ds, [(l, ds)])
    | _ => none
  | _ => none
def iE (f : EF D) : IF := fun ρ S => bindR (f ρ S) fun d S1 => match walkOf d S1 with
  | some p => okR p S1
  | none => none
theorem si_e {tg e : Expr} {f : EF D} (a : SE X C W e f) : SI X C W tg e (iE f) := by
  refine ⟨PI.imp (pi_any a.pe) ?_⟩
  rintro σ H Q ⟨mu, S, ρ, R, re, h⟩
  refine ⟨mu, S, ρ, R, re, (PostG.bind (RA := QD X.K) h).mono ?_⟩
  rintro v H1 ⟨mu1, S1, d1, R1, x1, r1, h1⟩
  cases r1 with
  | tup hs hd => exact .inl ⟨_, rfl, .inr ⟨⟨_, hs⟩, h1.ok R1 (itg_tup R1 hs hd)⟩⟩
  | fl hs hd => exact .inl ⟨_, rfl, .inl ⟨⟨_, hs.seq⟩, h1.ok R1 (itg_fl R1 hs hd)⟩⟩
  | str z => exact .inr ⟨z, rfl, h1.ok R1 itg_str⟩
  | @ref l hl =>
    simp only [walkOf] at h1
    cases e1 : S1[l]? with
    | none => rw [e1] at h1; exact h1.elim
    | some o =>
      rw [e1] at h1
      cases o with
      | lst ds =>
        obtain ⟨vs, e2, rd⟩ := R1.obj _ _ e1
        exact .inl ⟨_, rfl, .inl ⟨⟨vs, .of e2⟩, h1.ok R1 (itg_ref hl)⟩⟩
      | ins c fs => exact h1.elim
      | dic _ _ => exact h1.elim
      | fdic _ _ => exact h1.elim
  | _ => exact h1.elim
/-- a new list, walked at once -/
def iL (f : EF (List D)) : IF := fun ρ S => bindR (f ρ S) fun ds S1 => okR (ds, []) S1
theorem si_l {tg e : Expr} {f : EF (List D)} (a : SL X C W e f) : SI X C W tg e (iL f) := by
  refine ⟨PI.imp (pi_list a.pe) ?_⟩
  rintro σ H Q ⟨mu, S, ρ, R, re, h⟩
  refine ⟨mu, S, ρ, R, re, (PostG.bind (RA := RL X.K) h).mono ?_⟩
  rintro v H1 ⟨mu1, S1, d1, R1, x1, ⟨p, vs, rfl, hp, rd, hf, _⟩, h1⟩
  exact ⟨p, rfl, ⟨vs, .of hp⟩, h1.ok R1 (itg_new R1 hp rd hf)⟩
def iR1 (g : EF (List D)) : IF := fun ρ S => bindR (g ρ S) fun ds S1 => match ds with
  | [.int j] => if j < 2 ^ 62 ∧ -(2 ^ 62) ≤ j then okR (dInts 0 j.toNat, []) S1 else none
  | _ => none
theorem si_range1 {tg a : Expr} {p pos : Pos} {g : EF (List D)} (hm : X.mg "range" = none) (ha : SA X C W [a] g) (hg : Gl X "range" := by rfl) (hs : starEach [a] X.env = [(false, eval a X.env)] := by rfl) : SI X C W tg (.Call (.Name "range" p) [a] [] pos) (iR1 g) := by
  refine ⟨PI.imp (pi_range1 hg hm ha.pa hs) ?_⟩
  rintro σ H Q ⟨mu, S, ρ, R, re, h⟩
  refine ⟨mu, S, ρ, R, re, (PostG.bind (RA := QDs X.K) h).mono ?_⟩
  rintro v H1 ⟨mu1, S1, d1, R1, x1, r1, h1⟩
  split at h1
  · rename_i j
    cases r1 with
    | cons r rr =>
      cases r
      cases rr
      by_cases hj : j < 2 ^ 62 ∧ -(2 ^ 62) ≤ j
      · rw [if_pos hj] at h1
        exact ⟨j, rfl, hj.2, hj.1, h1.ok R1 itg_rng⟩
      · rw [if_neg hj] at h1; exact h1.elim
  · exact h1.elim
def iR2 (g : EF (List D)) : IF := fun ρ S => bindR (g ρ S) fun ds S1 => match ds with
  | [.int i, .int j] => if (i < 2 ^ 62 ∧ -(2 ^ 62) ≤ i) ∧ j < 2 ^ 62 ∧ -(2 ^ 62) ≤ j then okR (dInts i (j - i).toNat, []) S1 else none
  | _ => none
theorem si_range2 {tg a b : Expr} {p pos : Pos} {g : EF (List D)} (hm : X.mg "range" = none) (ha : SA X C W [a, b] g) (hg : Gl X "range" := by rfl) (hs : starEach [a, b] X.env = [(false, eval a X.env), (false, eval b X.env)] := by rfl) (hs2 : starEach [b] X.env = [(false, eval b X.env)] := by rfl) :
    SI X C W tg (.Call (.Name "range" p) [a, b] [] pos) (iR2 g) := by
  refine ⟨PI.imp (pi_range2 hg hm ha.pa hs hs2) ?_⟩
  rintro σ H Q ⟨mu, S, ρ, R, re, h⟩
  refine ⟨mu, S, ρ, R, re, (PostG.bind (RA := QDs X.K) h).mono ?_⟩
  rintro v H1 ⟨mu1, S1, d1, R1, x1, r1, h1⟩
  split at h1
  · rename_i i j
    cases r1 with
    | cons r rr =>
      cases r
      cases rr with
      | cons r' rr =>
        cases r'
        cases rr
        by_cases hj : (i < 2 ^ 62 ∧ -(2 ^ 62) ≤ i) ∧ j < 2 ^ 62 ∧ -(2 ^ 62) ≤ j
        · rw [if_pos hj] at h1
          exact ⟨i, j, rfl, ⟨hj.1.2, hj.1.1, hj.2.2, hj.2.1⟩, h1.ok R1 itg_rng⟩
        · rw [if_neg hj] at h1; exact h1.elim
  · exact h1.elim
end
end Sh

set_option Elab.async false
set_option linter.all false
set_option maxRecDepth 100000
set_option maxHeartbeats 4000000
set_option autoImplicit false
namespace Sh
open PySem PySem.Spec PyProof.Rows L2

/-! ### for -/
noncomputable def forGo (g : GF) (body : SF) (p : List D × List (Nat × List D)) : List D → Rho → Store → Rf
  | [], ρ, S => if chkOk p S = true then some (.nx ρ, S) else none
  | d :: r, ρ, S => if chkOk p S = true then
      match g d ρ S with
      | none => none
      | some (ρ2, S2) => match body ρ2 S2 with
        | some (.nx ρ3, S3) => forGo g body p r ρ3 S3
        | some (.ct ρ3, S3) => forGo g body p r ρ3 S3
        | some (.bk ρ3, S3) => some (.nx ρ3, S3)
        | x => x
    else none
noncomputable def sFor (it : IF) (g : GF) (body : SF) : SF := fun ρ S => toS ρ (it ρ S) fun p S1 => forGo g body p p.1 ρ S1
section
variable {X : Cx} {C : Cls0} {W : Wx}
theorem ss_for {tg iter : Expr} {body : List Stmt} {it : IF} {g : GF} {ts : List Nat} {f : SF} {pos : Pos} (hp : PassesOwn (model X.prog X.w) X.A X.env X.xe) (hc : X.calm = true) (hi : SI X C W tg iter it) (hg : SG X C tg g ts) (hb : SB X C W body f)
    (hs : ∀ x, foldedSetIterable iter X.env x = pure x := by intro _; rfl) : SS X C W (.For tg iter body [] pos) (sFor it g f) := by
  refine ⟨PS.imp (ps_for hp hc hi.pi hg.pg hb.pss hs) ?_⟩
  rintro Dn σ H ⟨mu, S, ρ, R, re, h⟩
  refine ⟨mu, S, ρ, R, re, (PostS.bind (RA := RI X.K C) R re h).mono ?_⟩
  rintro J H1 ⟨mu1, S1, p, R1, x1, re1, ig, h1⟩
  refine ⟨fun i m σ H => i ≤ p.1.length ∧ m = p.1.length - i ∧ ∃ mu S ρ, Rel X.K C mu S H ∧ RE X.K mu S.length H σ ρ ∧ Ext mu1 S1.length H1 mu S.length H ∧ PostS X.K C W mu S.length H (forGo g f p (p.1.drop i) ρ S) Dn,
    ⟨p.1.length, Nat.zero_le _, by simp, mu1, S1, ρ, R1, re1, .refl, by simpa using h1⟩, ?_⟩
  rintro i m σ2 H2 ⟨hi', rfl, mu2, S2, ρ2, R2, re2, x2, h2⟩
  by_cases hlt : i < p.1.length
  · right
    rw [List.drop_eq_getElem_cons hlt] at h2
    simp only [forGo] at h2
    by_cases hk : chkOk p S2 = true
    · rw [if_pos hk] at h2
      have ck := chkOk_of hk
      refine ⟨ig.go mu2 S2 H2 i R2 x2 ck hlt, fun σ' H' => i + 1 ≤ p.1.length ∧ ∃ mu S ρ, Rel X.K C mu S H' ∧ RE X.K mu S.length H' σ' ρ ∧ Ext mu1 S1.length H1 mu S.length H' ∧ PostS X.K C W mu S.length H' (forGo g f p (p.1.drop (i + 1)) ρ S) Dn,
        fun σ' H' ⟨q1, q2⟩ => ⟨p.1.length - (i + 1), by omega, q1, rfl, q2⟩, fun x H3 y => ?_⟩
      obtain ⟨d, e, R3, x3, r3⟩ := ig.yld mu2 S2 H2 i x H3 R2 x2 ck hlt y
      rw [List.getElem?_eq_getElem hlt] at e
      cases e
      refine ⟨mu2, S2, ρ2, _, R3, re2.mono R2 x3, r3, ?_⟩
      cases e1 : g p.1[i] ρ2 S2 with
      | none => rw [e1] at h2; exact h2.elim
      | some q =>
        obtain ⟨ρ4, S4⟩ := q
        rw [e1] at h2
        intro mu4 H4 σ4 R4 x4 re4 _
        have x14 : Ext mu1 S1.length H1 mu4 S4.length H4 := (x2.trans x3).trans x4
        refine ⟨mu4, S4, ρ4, R4, re4, ?_⟩
        have h4 := PostS.trans (x3.trans x4) h2
        simp only at h4
        cases e2 : f ρ4 S4 with
        | none => rw [e2] at h4; exact h4.elim
        | some q2 =>
          obtain ⟨fl, S5⟩ := q2
          rw [e2] at h4
          cases fl with
          | nx ρ5 => exact fun mu' H' σ' R' x' re' => ⟨hlt, mu', S5, ρ5, R', re', x14.trans x', PostS.trans x' h4⟩
          | ct ρ5 => exact fun mu' H' σ' R' x' re' => ⟨hlt, mu', S5, ρ5, R', re', x14.trans x', PostS.trans x' h4⟩
          | bk ρ5 => exact h4
          | ret d => exact h4
          | exn e ρ5 => exact h4
    · rw [if_neg hk] at h2; exact h2.elim
  · left
    have e : i = p.1.length := by omega
    subst e
    rw [List.drop_length] at h2
    simp only [forGo] at h2
    by_cases hk : chkOk p S2 = true
    · rw [if_pos hk] at h2
      exact ⟨ig.stop mu2 S2 H2 R2 x2 (chkOk_of hk), h2 mu2 H2 σ2 R2 .refl re2⟩
    · rw [if_neg hk] at h2; exact h2.elim

/-! ### while -/
def whileN (c : EF Bool) (body : SF) : Nat → Rho → Store → Rf
  | 0, _, _ => none
  | n + 1, ρ, S => toS ρ (c ρ S) fun b S1 => if b = true then
      match body ρ S1 with
      | some (.nx ρ2, S2) => whileN c body n ρ2 S2
      | some (.ct ρ2, S2) => whileN c body n ρ2 S2
      | some (.bk ρ2, S2) => some (.nx ρ2, S2)
      | x => x
    else some (.nx ρ, S1)
theorem whileN_succ {c : EF Bool} {body : SF} : ∀ {n : Nat} {ρ : Rho} {S : Store} {r : Fl × Store}, whileN c body n ρ S = some r → whileN c body (n + 1) ρ S = some r
  | 0, _, _, _, h => by simp [whileN] at h
  | n + 1, ρ, S, r, h => by
    unfold whileN at h ⊢
    cases e : c ρ S with
    | none => rw [e] at h; simp at h
    | some p =>
      obtain ⟨x, S1⟩ := p
      rw [e] at h
      cases x with
      | error er => exact h
      | ok b =>
        simp only [toS_ok] at h ⊢
        cases b with
        | false => exact h
        | true =>
          rw [if_pos rfl] at h ⊢
          cases e2 : body ρ S1 with
          | none => rw [e2] at h; exact h
          | some q =>
            obtain ⟨fl, S2⟩ := q
            rw [e2] at h
            cases fl with
            | nx ρ2 => exact whileN_succ h
            | ct ρ2 => exact whileN_succ h
            | bk ρ2 => exact h
            | ret d => exact h
            | exn e ρ2 => exact h
theorem whileN_le {c : EF Bool} {body : SF} {n m : Nat} {ρ : Rho} {S : Store} {r : Fl × Store} (h : whileN c body n ρ S = some r) (hm : n ≤ m) : whileN c body m ρ S = some r := by
  induction hm with
  | refl => exact h
  | step _ ih => exact whileN_succ ih
open Classical in
noncomputable def sWhile (c : EF Bool) (body : SF) : SF := fun ρ S => if h : ∃ n, (whileN c body n ρ S).isSome = true then whileN c body (Classical.choose h) ρ S else none
theorem sWhile_of {c : EF Bool} {body : SF} {n : Nat} {ρ : Rho} {S : Store} {r : Fl × Store} (h : whileN c body n ρ S = some r) : sWhile c body ρ S = some r := by
  have hx : ∃ n, (whileN c body n ρ S).isSome = true := ⟨n, by rw [h]; rfl⟩
  unfold sWhile
  rw [dif_pos hx]
  have hc := Classical.choose_spec hx
  cases e : whileN c body (Classical.choose hx) ρ S with
  | none => rw [e] at hc; simp at hc
  | some q =>
    rcases Nat.le_total n (Classical.choose hx) with z | z
    · rw [← whileN_le h z, e]
    · rw [← h, whileN_le e z]
theorem ss_while {e : Expr} {body : List Stmt} {c : EF Bool} {f : SF} {pos : Pos} (hp : PassesOwn (model X.prog X.w) X.A X.env X.xe) (hc : ST X C W e c) (hb : SB X C W body f) : SS X C W (.While e body [] pos) (sWhile c f) := by
  refine ⟨PS.imp (ps_while hp hc.pt hb.pss) ?_⟩
  rintro Dn σ H ⟨mu, S, ρ, R, re, h⟩
  refine ⟨fun m σ H => ∃ mu S ρ, Rel X.K C mu S H ∧ RE X.K mu S.length H σ ρ ∧ PostS X.K C W mu S.length H (whileN c f m ρ S) Dn, ?_, ?_⟩
  · unfold sWhile at h
    split at h
    · exact ⟨_, mu, S, ρ, R, re, h⟩
    · exact h.elim
  · rintro m σ1 H1 ⟨mu1, S1, ρ1, R1, re1, h1⟩
    cases m with
    | zero => exact h1.elim
    | succ m =>
      refine ⟨mu1, S1, ρ1, R1, re1, (PostS.bind (RA := RB0) R1 re1 h1).mono ?_⟩
      rintro b H2 ⟨mu2, S2, b', R2, x2, re2, r2, h2⟩
      obtain rfl : b = b' := r2
      cases b with
      | false => exact h2 mu2 H2 σ1 R2 .refl re2
      | true =>
        rw [if_pos rfl] at h2 ⊢
        refine ⟨fun σ' H' => ∃ mu S ρ, Rel X.K C mu S H' ∧ RE X.K mu S.length H' σ' ρ ∧ PostS X.K C W mu S.length H' (whileN c f m ρ S) Dn, fun σ' H' q => ⟨m, Nat.lt_succ_self _, q⟩, mu2, S2, ρ1, R2, re2, ?_⟩
        cases e2 : f ρ1 S2 with
        | none => rw [e2] at h2; exact h2.elim
        | some q2 =>
          obtain ⟨fl, S5⟩ := q2
          rw [e2] at h2
          cases fl with
          | nx ρ5 => exact fun mu' H' σ' R' x' re' => ⟨mu', S5, ρ5, R', re', PostS.trans x' h2⟩
          | ct ρ5 => exact fun mu' H' σ' R' x' re' => ⟨mu', S5, ρ5, R', re', PostS.trans x' h2⟩
          | bk ρ5 => exact h2
          | ret d => exact h2
          | exn e ρ5 => exact h2
end

/-! ### list comprehensions -/
/-- nothing is raised -/
def noX {α : Type} (r : Rs α) : Rs α := match r with
  | some (.error _, _) => none
  | x => x
@[simp] theorem noX_ok {α : Type} (a : α) (S : Store) : noX (some (.ok a, S) : Rs α) = some (.ok a, S) := rfl
def wipeR (ρ : Rho) : List Nat → Rho
  | [] => ρ
  | v :: vs => (wipeR ρ vs).set v none
theorem RE.wipe {K : PySem.W.Frag} {mu : Nat → Addr} {n : Nat} {H : Hp} {σ : L2.St} {ρ : Rho} (r : RE K mu n H σ ρ) : ∀ vs : List Nat, RE K mu n H (wipe σ vs) (wipeR ρ vs)
  | [] => r
  | v :: vs => (RE.wipe r vs).unset v
noncomputable def compGo (g : GF) (t : EF Bool) (f : EF D) (ρ : Rho) (p : List D × List (Nat × List D)) : List D → List D → Store → Rs (List D)
  | [], acc, S => if chkOk p S = true then okR acc S else none
  | d :: r, acc, S => if chkOk p S = true then
      match g d ρ S with
      | none => none
      | some (ρ2, S2) => bindR (noX (t ρ2 S2)) fun b S3 => if b = true then bindR (noX (f ρ2 S3)) fun y S4 => if acc.length < 16777216 then compGo g t f ρ p r (acc ++ [y]) S4 else none
          else compGo g t f ρ p r acc S3
    else none
noncomputable def fComp (it : IF) (vs : List Nat) (g : GF) (t : EF Bool) (f : EF D) : EF (List D) := fun ρ S => bindR (it ρ S) fun p S1 => compGo g t f (wipeR ρ vs) p p.1 [] S1
abbrev W0 : Wx := fun _ _ _ _ => False
/-- the tests of a clause -/
structure STs (X : Cx) (C : Cls0) (ifs : List Expr) (f : EF Bool) : Prop where
  pts : PTs X ifs (TT' X.K C W0 f)
def tTrue : EF Bool := fun _ S => okR true S
theorem sts_nil {X : Cx} {C : Cls0} : STs X C [] tTrue := ⟨⟨fun pins s σ H Q I ⟨mu, S, ρ, R, re, h⟩ => (pts_nil (X := X)).run pins s σ H Q I (h.ok R rfl)⟩⟩
theorem sts_one {X : Cx} {C : Cls0} {c : Expr} {f : EF Bool} (h : ST X C W0 c f) : STs X C [c] f := ⟨pts_one h.pt⟩

section
variable {K : PySem.W.Frag} {C : Cls0} {mu : Nat → Addr} {n : Nat} {S : Store} {H H1 : Hp} {p : Addr} {vs ws : List V}
/-- a list that the store does not know is changed -/
theorem Rel.off (R : Rel K C mu S H) (hp : H p = some (.lst vs)) (hf : ∀ l, l < S.length → mu l ≠ p) : Rel K C mu S (upd H p (.lst ws)) := by
  refine ⟨R.inj, fun l ob e => ?_⟩
  have hl : l < S.length := (List.getElem?_eq_some_iff.mp e).1
  refine (R.obj l ob e).mv (fun _ _ => rfl) (Nat.le_refl _) (fun a vs' z => ?_) (fun a vs' z => ?_) (fun a i j k z => by unfold RgV at z ⊢; rw [upd_ne (ne_of z hp (fun q => by cases q))]; exact z) (by rw [upd_ne (hf l hl)])
  · rcases z with (z | ⟨o, z⟩) | z
    · exact .inl (.inl (by rw [upd_ne (ne_of z hp (fun q => by cases q))]; exact z))
    · exact .inl (.inr ⟨o, by rw [upd_ne (ne_of z hp (fun q => by cases q))]; exact z⟩)
    · exact .inr z
  · rcases z with ⟨o, z⟩ | z
    · exact .inl ⟨o, by rw [upd_ne (ne_of z hp (fun q => by cases q))]; exact z⟩
    · exact .inr z
theorem RDs.off {ds : List D} {us : List V} (hp : H p = some (.lst vs)) (r : RDs K mu n H us ds) : RDs K mu n (upd H p (.lst ws)) us ds := by
  refine r.mv (fun a vs' z => ?_) (fun a vs' z => ?_) (fun a i j k z => by unfold RgV at z ⊢; rw [upd_ne (ne_of z hp (fun q => by cases q))]; exact z) (fun _ _ => rfl) (Nat.le_refl _)
  · rcases z with (z | ⟨o, z⟩) | z
    · exact .inl (.inl (by rw [upd_ne (ne_of z hp (fun q => by cases q))]; exact z))
    · exact .inl (.inr ⟨o, by rw [upd_ne (ne_of z hp (fun q => by cases q))]; exact z⟩)
    · exact .inr z
  · rcases z with ⟨o, z⟩ | z
    · exact .inl ⟨o, by rw [upd_ne (ne_of z hp (fun q => by cases q))]; exact z⟩
    · exact .inr z
/-- seen from a start where it was not -/
theorem Ext.off {mu0 : Nat → Addr} {n0 : Nat} {H0 : Hp} (x : Ext mu0 n0 H0 mu n H) (h0 : H0 p = none) : Ext mu0 n0 H0 mu n (upd H p (.lst ws)) :=
  ⟨x.le, x.same, fun a o e h => by rw [upd_ne (ne_of_none e h0)]; exact x.frame a o e h, fun a o e => by rw [upd_ne (ne_of_none e h0)]; exact x.keep a o e, x.fresh, fun a ob k e => by rw [upd_ne (ne_of_none e h0)]; exact x.fz a ob k e⟩
end
theorem Tch.wipe {ts vs : List Nat} {σ σ' : L2.St} (h : Tch ts σ σ') (hs : ∀ i ∈ ts, i ∈ vs) : wipe σ' vs = wipe σ vs := by
  have look : ∀ (us : List Nat) (τ : L2.St) (i : Nat), (L2.wipe τ us)[i]? = if i ∈ us then (if i < τ.length then some none else none) else τ[i]? := by
    intro us
    induction us with
    | nil => intro τ i; simp [L2.wipe]
    | cons u us ih =>
      intro τ i
      unfold L2.wipe
      by_cases hi : u = i
      · subst hi
        rw [List.getElem?_set]
        simp [wipe_length]
      · rw [List.getElem?_set_ne hi, ih]
        have : i ≠ u := fun e => hi e.symm
        simp [this]
  apply List.ext_getElem?
  intro i
  rw [look, look]
  by_cases hi : i ∈ vs
  · simp [hi, h.1]
  · simp only [hi, if_false]
    exact h.2 i fun z => hi (hs i z)

section
variable {X : Cx} {C : Cls0} {W : Wx}
/-- a comprehension's turn ends somewhere -/
theorem compGo_step {g : GF} {t : EF Bool} {f : EF D} {ρ : Rho} {p : List D × List (Nat × List D)} {d : D} {r acc : List D} {S S' : Store} {x : Except Ex (List D)} (h : compGo g t f ρ p (d :: r) acc S = some (x, S')) :
    chkOk p S = true ∧ ∃ ρ2 S2, g d ρ S = some (ρ2, S2) ∧ ∃ b S3, t ρ2 S2 = some (.ok b, S3) ∧
      ((b = false ∧ compGo g t f ρ p r acc S3 = some (x, S')) ∨ (b = true ∧ ∃ y S4, f ρ2 S3 = some (.ok y, S4) ∧ acc.length < 16777216 ∧ compGo g t f ρ p r (acc ++ [y]) S4 = some (x, S'))) := by
  simp only [compGo] at h
  by_cases hk : chkOk p S = true
  · rw [if_pos hk] at h
    refine ⟨hk, ?_⟩
    cases e1 : g d ρ S with
    | none => rw [e1] at h; cases h
    | some q =>
      obtain ⟨ρ2, S2⟩ := q
      rw [e1] at h
      simp only at h
      refine ⟨ρ2, S2, rfl, ?_⟩
      cases e2 : t ρ2 S2 with
      | none => rw [e2] at h; cases h
      | some q2 =>
        obtain ⟨z, S3⟩ := q2
        rw [e2] at h
        cases z with
        | error e => cases h
        | ok b =>
          simp only [noX_ok, bindR_ok] at h
          refine ⟨b, S3, rfl, ?_⟩
          cases b with
          | false => exact .inl ⟨rfl, h⟩
          | true =>
            rw [if_pos rfl] at h
            right
            refine ⟨rfl, ?_⟩
            cases e3 : f ρ2 S3 with
            | none => rw [e3] at h; cases h
            | some q3 =>
              obtain ⟨z, S4⟩ := q3
              rw [e3] at h
              cases z with
              | error e => cases h
              | ok y =>
                simp only [noX_ok, bindR_ok] at h
                by_cases hz : acc.length < 16777216
                · rw [if_pos hz] at h
                  exact ⟨y, S4, rfl, hz, h⟩
                · rw [if_neg hz] at h; cases h
  · rw [if_neg hk] at h; cases h
theorem compGo_end {g : GF} {t : EF Bool} {f : EF D} {ρ : Rho} {p : List D × List (Nat × List D)} {acc : List D} {S S' : Store} {x : Except Ex (List D)} (h : compGo g t f ρ p [] acc S = some (x, S')) : chkOk p S = true ∧ x = .ok acc ∧ S' = S := by
  simp only [compGo] at h
  by_cases hk : chkOk p S = true
  · rw [if_pos hk] at h
    cases h
    exact ⟨hk, rfl, rfl⟩
  · rw [if_neg hk] at h; cases h
theorem away {K : PySem.W.Frag} {mu mu' : Nat → Addr} {n n' : Nat} {H H' : Hp} {D : Addr} {us : List V} (x : Ext mu n H mu' n' H') (hD : H D = some (.lst us)) (hf : ∀ l, l < n → mu l ≠ D) : H' D = some (.lst us) ∧ ∀ l, l < n' → mu' l ≠ D := by
  refine ⟨x.frame _ _ hD hf, fun l hl e => ?_⟩
  by_cases hl2 : l < n
  · exact hf l hl2 ((x.same l hl2).symm.trans e)
  · have z := x.fresh l (Nat.le_of_not_lt hl2) hl
    rw [e, hD] at z; cases z
theorem wipe_idem (σ : L2.St) (vs : List Nat) : wipe (wipe σ vs) vs = wipe σ vs :=
  Tch.wipe (ts := vs) ⟨wipe_length _ _, fun j hj => by
    have look : ∀ (us : List Nat), j ∉ us → (L2.wipe σ us)[j]? = σ[j]? := by
      intro us
      induction us with
      | nil => intro _; rfl
      | cons u us ih =>
        intro hj'
        unfold L2.wipe
        rw [List.getElem?_set_ne (fun e => hj' (by simp [e]))]
        exact ih fun z => hj' (List.mem_cons_of_mem _ z)
    exact look vs hj⟩ fun _ z => z
theorem comp_read {it : IF} {g : GF} {ts : List Nat} {t : EF Bool} {f : EF D} {vs : List Nat} (hv : ∀ i ∈ ts, i ∈ vs) {σ : L2.St} {H : Hp} {Q : VK} (h : TL' X.K C W (fComp it vs g t f) σ H Q) :
    tLc (TI' X.K C W it) (TG' X.K C g ts) (TT' X.K C W0 t) (TE' X.K C W0 f) vs σ H Q := by
  obtain ⟨mu, S, ρ, R, re, h⟩ := h
  refine ⟨mu, S, ρ, R, re, (PostG.bind (RA := RI X.K C) h).mono ?_⟩
  rintro J H1 ⟨mu1, S1, p, R1, x1, ig, h1⟩
  intro D hD
  have re1 := re.mono R x1
  cases er : compGo g t f (wipeR ρ vs) p p.1 [] S1 with
  | none => rw [er] at h1; exact h1.elim
  | some q =>
  obtain ⟨res, Sf⟩ := q
  rw [er] at h1
  refine ⟨fun i m H => i ≤ p.1.length ∧ m = p.1.length - i ∧ ∃ mu S acc us, Rel X.K C mu S H ∧ Ext mu1 S1.length H1 mu S.length H ∧ H D = some (.lst us) ∧ RDs X.K mu S.length H us acc ∧ (∀ l, l < S.length → mu l ≠ D) ∧
      compGo g t f (wipeR ρ vs) p (p.1.drop i) acc S = some (res, Sf),
    ⟨p.1.length, Nat.zero_le _, by simp, mu1, S1, [], [], R1.new hD, .new hD, upd_same, .nil, fun l hl e => ?_, by simpa using er⟩, ?_⟩
  · obtain ⟨u, hu, _⟩ := R1.at hl
    rw [e, hD] at hu; cases hu
  rintro i m H2 ⟨hi', rfl, mu2, S2, acc, us, R2, x2, hD2, rd2, hf2, h2⟩
  by_cases hlt : i < p.1.length
  · right
    rw [List.drop_eq_getElem_cons hlt] at h2
    obtain ⟨hk, ρ4, S4, e1, b0, S5, e2, h3⟩ := compGo_step h2
    have ck := chkOk_of hk
    refine ⟨ig.go mu2 S2 H2 i R2 x2 ck hlt, fun H' => i + 1 ≤ p.1.length ∧ ∃ mu S acc us, Rel X.K C mu S H' ∧ Ext mu1 S1.length H1 mu S.length H' ∧ H' D = some (.lst us) ∧ RDs X.K mu S.length H' us acc ∧ (∀ l, l < S.length → mu l ≠ D) ∧
        compGo g t f (wipeR ρ vs) p (p.1.drop (i + 1)) acc S = some (res, Sf),
      fun H' ⟨q1, q2⟩ => ⟨p.1.length - (i + 1), by omega, q1, rfl, q2⟩, fun x H3 y => ?_⟩
    obtain ⟨d, e, R3, x3, r3⟩ := ig.yld mu2 S2 H2 i x H3 R2 x2 ck hlt y
    rw [List.getElem?_eq_getElem hlt] at e
    cases e
    have re3 : RE X.K mu2 S2.length H3 (wipe σ vs) (wipeR ρ vs) := (re1.mono R1 (x2.trans x3)).wipe vs
    refine ⟨mu2, S2, wipeR ρ vs, _, R3, re3, r3, ?_⟩
    rw [e1]
    intro mu4 H4 σ4 R4 x4 re4 tc
    refine ⟨(tc.wipe hv).trans (wipe_idem σ vs), mu4, S4, ρ4, R4, re4, ?_⟩
    rw [e2]
    rintro mu5 H5 b R5 x5 r5
    obtain rfl : b = b0 := r5
    have x25 := (x3.trans x4).trans x5
    obtain ⟨hD5, hf5⟩ := away (K := X.K) x25 hD2 hf2
    rcases h3 with ⟨rfl, h3⟩ | ⟨rfl, y0, S6, e3, hz, h3⟩
    · exact ⟨hlt, mu5, S5, acc, us, R5, x2.trans x25, hD5, rd2.mono R2 x25, hf5, h3⟩
    · rw [if_pos rfl]
      refine ⟨mu5, S5, ρ4, R5, re4.mono R4 x5, ?_⟩
      rw [e3]
      rintro mu6 H6 v R6 x6 r6
      have x26 := x25.trans x6
      obtain ⟨hD6, hf6⟩ := away (K := X.K) x26 hD2 hf2
      have rd6 := rd2.mono R2 x26
      refine ⟨us, hD6, by rw [sizeLine_16, RDs.length rd6]; exact hz, hlt, mu6, S6, acc ++ [y0], us ++ [v], R6.off hD6 hf6, (x2.trans x26).off hD, upd_same, ?_, hf6, h3⟩
      exact (rd6.append (.cons r6 .nil)).off hD6
  · left
    have e : i = p.1.length := by omega
    subst e
    rw [List.drop_length] at h2
    obtain ⟨hk, rfl, rfl⟩ := compGo_end h2
    exact ⟨ig.stop mu2 _ H2 R2 x2 (chkOk_of hk), h1 mu2 H2 (.ref D) R2 x2 ⟨D, us, rfl, hD2, rd2, hf2, hD⟩⟩
/-- [elt for tg in iter if ..] -/
theorem sl_comp {elt tg iter : Expr} {ifs : List Expr} {scope : Scope} {own : List (Str × Nat)} {pos : Pos} {it : IF} {g : GF} {ts : List Nat} {t : EF Bool} {f : EF D} (hc : X.calm = true) (hN : X.N.Nodup) (hi : SI X C W tg iter it) (ok : BlkOk X.N X.env.scope scope own)
    (hg : ∀ (s : Shared) (H : Hp) (C1 : Addr) (cl : List (Str × Addr)) (fp : List Addr), SG (X.blk s H scope (compEnvC scope cl C1 X.env) fp) C tg g ts) (ht : ∀ (s : Shared) (H : Hp) (C1 : Addr) (cl : List (Str × Addr)) (fp : List Addr), STs (X.blk s H scope (compEnvC scope cl C1 X.env) fp) C ifs t)
    (he : ∀ (s : Shared) (H : Hp) (C1 : Addr) (cl : List (Str × Addr)) (fp : List Addr), SE (X.blk s H scope (compEnvC scope cl C1 X.env) fp) C W0 elt f) (hs : ∀ x, foldedSetIterable iter X.env x = pure x := by intro _; rfl) (hv : ∀ i ∈ ts, i ∈ own.map (·.2) := by decide) :
    SL X C W (.ListComp elt [⟨tg, iter, ifs, 0⟩] scope pos) (fComp it (own.map (·.2)) g t f) :=
  ⟨PE.imp (pe_lc (te := TE' X.K C W0 f) (tt := TT' X.K C W0 t) (g := TG' X.K C g ts) hc hN hi.pi ok (fun s H C1 cl fp => (hg s H C1 cl fp).pg) (fun s H C1 cl fp => (ht s H C1 cl fp).pts) (fun s H C1 cl fp => (he s H C1 cl fp).pe) hs) fun σ H Q h => comp_read hv h⟩
/-- name = [..] on one line -/
theorem ss_setc (i : Nat) {y : Str} {py : Pos} {elt tg iter : Expr} {ifs : List Expr} {scope : Scope} {own : List (Str × Nat)} {pos spos : Pos} {it : IF} {g : GF} {ts : List Nat} {t : EF Bool} {f : EF D} (hc : X.calm = true) (hN : X.N.Nodup) (hi : SI X C W tg iter it) (ok : BlkOk X.N X.env.scope scope own)
    (hg : ∀ (s : Shared) (H : Hp) (C1 : Addr) (cl : List (Str × Addr)) (fp : List Addr), SG (X.blk s H scope (compEnvC scope cl C1 X.env) fp) C tg g ts) (ht : ∀ (s : Shared) (H : Hp) (C1 : Addr) (cl : List (Str × Addr)) (fp : List Addr), STs (X.blk s H scope (compEnvC scope cl C1 X.env) fp) C ifs t)
    (he : ∀ (s : Shared) (H : Hp) (C1 : Addr) (cl : List (Str × Addr)) (fp : List Addr), SE (X.blk s H scope (compEnvC scope cl C1 X.env) fp) C W0 elt f)
    (hsw : swapsWith (.ListComp elt [⟨tg, iter, ifs, 0⟩] scope pos) (some (.Name y py)) spos.line X.env = pure true) (hy : X.N[i]? = some y := by rfl) (hyl : X.env.scope.names.lookup y = some .local := by rfl) (hs : ∀ x, foldedSetIterable iter X.env x = pure x := by intro _; rfl) (hv : ∀ i ∈ ts, i ∈ own.map (·.2) := by decide) :
    SS X C W (.Assign [.Name y py] (.ListComp elt [⟨tg, iter, ifs, 0⟩] scope pos) spos) (sAsg (fAl (fComp it (own.map (·.2)) g t f)) (gN i)) := by
  refine ⟨PS.imp (ps_setLc (te := TE' X.K C W0 f) (tt := TT' X.K C W0 t) (g := TG' X.K C g ts) hc hN hy hyl hsw hi.pi ok (fun s H C1 cl fp => (hg s H C1 cl fp).pg) (fun s H C1 cl fp => (ht s H C1 cl fp).pts) (fun s H C1 cl fp => (he s H C1 cl fp).pe) hs) ?_⟩
  rintro Dn σ H ⟨mu, S, ρ, R, re, h⟩
  refine comp_read hv ⟨mu, S, ρ, R, re, ?_⟩
  have h' := PostS.bind (RA := QD X.K) R re h
  unfold fAl at h'
  cases e1 : fComp it (own.map (·.2)) g t f ρ S with
  | none => rw [e1] at h'; exact h'.elim
  | some p =>
    obtain ⟨r, S'⟩ := p
    rw [e1] at h'
    cases r with
    | error er => exact h'
    | ok ds =>
      rintro mu' H' v R' x ⟨p, vs, rfl, hp, rd, hf, h0⟩
      have hR := R'.take hf (o := .lst ds) ⟨vs, hp, rd⟩
      have z : RD X.K (muUp mu' S'.length p) (S' ++ [SO.lst ds]).length H' (.ref (muUp mu' S'.length p S'.length)) (.ref S'.length) := .ref (by simp)
      rw [muUp_same] at z
      obtain ⟨mu1, S1, d1, R1, x1, re1, r1, h1⟩ := h' (muUp mu' S'.length p) H' (.ref p) hR (by simpa using x.take h0) z
      exact h1 mu1 H' _ R1 .refl (re1.set r1 i)
end
end Sh

set_option Elab.async false
set_option linter.all false
set_option maxRecDepth 100000
set_option maxHeartbeats 4000000
set_option autoImplicit false
namespace Sh
open PySem PySem.Spec PyProof.Rows L2

/-! ### what a value, a store refers to -/
section
variable {K : PySem.W.Frag} {C : Cls0} {mu : Nat → Addr} {n n' : Nat} {S J : Store} {H : Hp}
end

/-! ### defs -/
/-- a def: what it hands back of these values at this store -/
abbrev M := List D → Store → Rs D
def spM (K : PySem.W.Frag) (C : Cls0) (n : Nat) (m : M) : Sp := fun vs H Q E => ∃ mu S ds, Rel K C mu S H ∧ RDs K mu S.length H vs ds ∧ ds.length = n ∧ PostG K C (fun c d H' => E c d H') mu S.length H (QD K) (m ds S) Q
theorem spM_len {K : PySem.W.Frag} {C : Cls0} {n : Nat} {m : M} {vs : List V} {H : Hp} {Q : VK} {E : XK} (h : spM K C n m vs H Q E) : vs.length = n := by
  obtain ⟨mu, S, ds, R, rd, hl, _⟩ := h
  rw [RDs.length rd, hl]
/-- room for calls, and nothing is being shown -/
structure RoomG (k : Nat) (A : Around) : Prop where
  room : Room k A
  gd : A.guards = some []
theorem RoomG.mono {j k : Nat} {A : Around} (r : RoomG k A) (h : j ≤ k) : RoomG j A := ⟨r.room.mono h, r.gd⟩
theorem RoomG.deeper {k : Nat} {A : Around} (r : RoomG (k + 1) A) (env : PySem.Env) : RoomG k (A.deeper env) := ⟨r.room.deeper env, r.gd⟩
/-- a def's promise where nothing is being shown -/
structure FnG (P : Program) (w : World) (K : PySem.W.Frag) (mg : Str → Option Value) (base : Heap) (k : Nat) (f : Addr) (fd : FuncData) (ps : List Str) (sp : Sp) : Prop where
  len : ∀ vs H Q E, sp vs H Q E → vs.length = ps.length
  run : ∀ (A : Around) (outer : List PySem.Env) (s : Shared) (H : Hp) (args : Args) (us : List Value) (vs : List V) (Q : VK) (E : XK), RoomG k A → Env0 P w K mg base A outer s H → BindsTo s fd args (ps.zip us) →
    Vals vs us → sp vs H Q E → codeAny (model P w) A (.call (.ref f) args) (CR (L2.CX P w) outer P w H s Q E) s
theorem FnG.mono {P : Program} {w : World} {K : PySem.W.Frag} {mg : Str → Option Value} {base : Heap} {j k : Nat} {f : Addr} {fd : FuncData} {ps : List Str} {sp : Sp} (F : FnG P w K mg base j f fd ps sp) (h : j ≤ k) : FnG P w K mg base k f fd ps sp :=
  ⟨F.len, fun A outer s H args us vs Q E hr => F.run A outer s H args us vs Q E (hr.mono h)⟩
/-- a def by its body -/
theorem fng_of {P : Program} {w : World} {K : PySem.W.Frag} {mg : Str → Option Value} {base : Heap} {x qual : Str} {st : Stmt} {f : Addr} {fd : FuncData} {N ps : List Str} {k : Nat} {sp : Sp} (F : Fun K x qual st f fd) (Sc : FnScope N ps (defScope st))
    (len : ∀ vs H Q E, sp vs H Q E → vs.length = ps.length)
    (hbody : ∀ (cdv : Value) (A : Around) (outer : List PySem.Env) (s : Shared) (H : Hp) (vs : List V) (Q : VK) (E : XK), RoomG k (A.deeper (envOfC qual (defScope st) s.heap.objs.size f cdv)) → sp vs H Q E →
      ∃ t, PSs (cxOf (L2.CX P w) P w K mg base N qual (defScope st) f cdv A outer s H E) (defBody st) t ∧ t { nx := fun _ H' => Q .non H', rt := Q } (L2.start N vs) H) : FnG P w K mg base (k + 1) f fd ps sp := by
  obtain ⟨oc, od, kV, doc, pm, an, cdv, ct, osl, rfl, lk, hcd⟩ := F.ex
  constructor
  · exact len
  intro A outer s H args us vs Q E hr e0 hb r hsp
  have stays : ∀ b o, base.get? b = some o → s.heap.get? b = some o := fun b o e => (e0.bs b o e).1
  have inK : K.In s.heap := e0.mod.kin.keeps stays
  refine codeAny_call_function hr.room.depth (inK _ _ lk) rfl Sc.co Sc.gen rfl (PySem.W.codeRec_of inK hcd) (hb _ _ _ _ ?_)
  have kinds : ∀ y ∈ ps.zip us, (defScope st).names.lookup y.1 = some .local ∨ ((defScope st).names.lookup y.1 = some .cell ∧ ((cellsFrom (s.heap.objs.size + 1) (defScope st).names []).lookup y.1).isSome = true) := by
    rintro ⟨a, v⟩ hy
    have q := Sc.par a (List.of_mem_zip hy).1
    exact q.imp id fun q => ⟨q, PySem.W.cellsFrom_some _ _ _ (.inl q)⟩
  refine wpAny_newFunctionEnv_cells Sc.kind kinds fun env he s1 x => ?_
  cases he
  refine ⟨(e0.mod.nolimit.keeps stays).keeps x.toInCall.keep, codeAny_func ?_⟩
  obtain ⟨t, ht, hq⟩ := hbody cdv A outer s H vs Q E (hr.deeper _) hsp
  have I := inv_start (CX := L2.CX P w) (E := E) Sc hr.room.hd e0 (len _ _ _ _ hsp) r x
  refine wpAny_mono (ht.run [] s1 _ H _ I hq) ?_ fun _ _ z => z
  intro fl s' hs
  cases fl with
  | ret u => obtain ⟨v, σ', H', J, rv, q⟩ := hs; exact ⟨v, H', J.os, J.bare, J.base, J.hok, rv, q⟩
  | next => obtain ⟨σ', H', J, q⟩ := hs; exact ⟨V.non, H', J.os, J.bare, J.base, J.hok, rfl, q⟩
  | brk => obtain ⟨_, _, _, q⟩ := hs; exact q.elim
  | cont => obtain ⟨_, _, _, q⟩ := hs; exact q.elim
structure Fn (P : Program) (w : World) (K : PySem.W.Frag) (mg : Str → Option Value) (base : Heap) (C : Cls0) (x : Str) (k n : Nat) (m : M) : Prop where
  ex : ∃ (f : Addr) (fd : FuncData) (ps : List Str), FnG P w K mg base k f fd ps (spM K C n m) ∧ mg x = some (.ref f) ∧ PySem.W.keepIn K (.ref f) = true ∧ Binds K fd ps []
theorem Fn.mono {P : Program} {w : World} {K : PySem.W.Frag} {mg : Str → Option Value} {base : Heap} {C : Cls0} {x : Str} {k k' n : Nat} {m : M} (F : Fn P w K mg base C x k n m) (h : k ≤ k') : Fn P w K mg base C x k' n m := by
  obtain ⟨f, fd, ps, a, b, c, d⟩ := F.ex
  exact ⟨f, fd, ps, a.mono h, b, c, d⟩
section
variable {X : Cx} {C : Cls0} {W : Wx}
def fApp (n : Nat) (m : M) (g : EF (List D)) : EF D := fun ρ S => bindR (g ρ S) fun ds S1 => if ds.length = n then m ds S1 else none
theorem se_call {x : Str} {k n : Nat} {m : M} {p pos : Pos} {e : Expr} {es : List Expr} {g : EF (List D)} (G : Fn X.prog X.w X.K X.mg X.base C x k n m) (hr : RoomG k X.A) (tk : Takes X W) (ha : SA X C W (e :: es) g) (hg : Gl X x := by rfl) (hdb : (x == ("__debug__" : Str)) = false := by decide)
    (he : starEach (e :: es) X.env = (false, eval e X.env) :: starEach es X.env := by rfl) (hpl : (backTo pos (starEach es X.env)).any (·.1) = false := by rfl) : SE X C W (.Call (.Name x p) (e :: es) [] pos) (fApp n m g) := by
  obtain ⟨f, fd, ps, F, hm, hk, hb⟩ := G.ex
  constructor
  constructor
  rintro pins s σ H Q I ⟨mu, S, ρ, R, re, h⟩
  have ha' := ha.pa.run pos pins s σ H _ I ⟨mu, S, ρ, R, re, PostG.bind (RA := QDs X.K) h⟩
  refine wpAny_Call_Name_kw (ld_glob I hg hm ?_ hdb)
  refine PySem.W.callWith_K (h₀ := X.base) I.ok.mod.kin hk (thn ha' ?_) he hpl
  rintro us s1 ⟨vs, H1, I1, rv, mu1, S1, d1, R1, x1, r1, h1⟩
  refine ⟨I1.kIn, ?_⟩
  by_cases hl : d1.length = n
  · rw [if_pos hl] at h1
    have sp1 : spM X.K C n m vs H1 Q (WE W σ) := ⟨mu1, S1, d1, R1, r1, hl, h1⟩
    have hul : us.length = ps.length := (Paired.length rv).symm.trans (F.len _ _ _ _ sp1)
    have bnd := hb s1 us I1.kIn (by rw [List.append_nil]; exact hul)
    rw [List.append_nil] at bnd
    refine wpAny_call (codeAny_mono (F.run X.A X.stack s1 H1 ⟨us, []⟩ us vs Q (WE W σ) hr I1.env0 bnd rv sp1) ?_)
    intro r s' hq
    cases r with
    | error e => exact passAt tk σ pins H1 s1 e s' I1 hq
    | ok fl =>
      cases fl with
      | ret u => exact I1.after hq
      | next => exact hq.elim
      | brk => exact hq.elim
      | cont => exact hq.elim
  · rw [if_neg hl] at h1; exact h1.elim
end
/-- what a body hands back -/
def outOf (r : Rf) : Rs D := match r with
  | some (.ret d, S) => okR d S
  | some (.nx _, S) => okR .non S
  | some (.exn e _, S) => some (.error e, S)
  | _ => none
@[simp] theorem outOf_ret (d : D) (S : Store) : outOf (some (.ret d, S)) = okR d S := rfl
@[simp] theorem outOf_nx (ρ : Rho) (S : Store) : outOf (some (.nx ρ, S)) = okR .non S := rfl
@[simp] theorem outOf_exn (e : Ex) (ρ : Rho) (S : Store) : outOf (some (.exn e ρ, S)) = some (.error e, S) := rfl
def startR (n : Nat) (ds : List D) : Rho := ds.map some ++ List.replicate (n - ds.length) none
theorem RE.begin {K : PySem.W.Frag} {mu : Nat → Addr} {n : Nat} {H : Hp} {N : List Str} {vs : List V} {ds : List D} (h : RDs K mu n H vs ds) : RE K mu n H (start N vs) (startR N.length ds) := by
  have hl := RDs.length h
  refine ⟨by simp [L2.start, startR, hl], fun i d e => ?_⟩
  unfold startR at e
  by_cases hi : i < ds.length
  · rw [List.getElem?_append_left (by simpa using hi), List.getElem?_map] at e
    cases q : ds[i]? with
    | none => rw [q] at e; cases e
    | some d' =>
      rw [q] at e
      cases e
      obtain ⟨v, e1, r⟩ := h.get q
      refine ⟨v, ?_, r⟩
      unfold L2.start
      rw [List.getElem?_append_left (by simp [hl, hi]), List.getElem?_map, e1]
      rfl
  · rw [List.getElem?_append_right (by simpa using Nat.le_of_not_lt hi), List.getElem?_replicate] at e
    split at e <;> cases e
section
variable {P : Program} {w : World} {K : PySem.W.Frag} {mg : Str → Option Value} {base : Heap} {C : Cls0}
end
end Sh

set_option Elab.async false
set_option linter.all false
set_option maxRecDepth 100000
set_option maxHeartbeats 4000000
set_option autoImplicit false
namespace Sh
open PySem PySem.Spec PyProof.Rows L2

/-! ### the law's own call -/
/-- the heap in which nothing but the script may be tracked -/
def scriptH (K : PySem.W.Frag) (a : Addr) (vs : List Value) (ns : List Int) : Hp := fun b => if b = a ∧ K.lookup a = none then some (.frz { cls := .type "list", data := .seq vs.toArray } (.lst (ns.map V.int))) else none
theorem scriptH_some {K : PySem.W.Frag} {a b : Addr} {vs : List Value} {ns : List Int} {u : HO} (h : scriptH K a vs ns b = some u) : b = a ∧ K.lookup a = none ∧ u = .frz { cls := .type "list", data := .seq vs.toArray } (.lst (ns.map V.int)) := by
  unfold scriptH at h
  by_cases hb : b = a ∧ K.lookup a = none
  · rw [if_pos hb] at h; cases h; exact ⟨hb.1, hb.2, rfl⟩
  · rw [if_neg hb] at h; cases h
section
variable {P : Program} {w : World} {K : PySem.W.Frag} {mg mb : Str → Option Value} {k : Nat} {fa a : Addr} {fd : FuncData} {x : Str} {s : Shared} {vs : List Value} {ns : List Int} {C : Cls0} {m : M}
/-- the law is called with the script -/
theorem law_runs (hK : K.In s.heap) (hm : s.heap.Ns mainGlobals mg) (hb : s.heap.Ns builtinsNs mb) (hbb : ∀ y : Str, y ≠ "__name__" → mb y = bootBuiltins y) (hlim : s.heap.NoLimit) (hg : s.gens = #[])
    (ha : s.heap.get? a = some { cls := .type "list", data := .seq vs.toArray }) (hi : IntsAre vs ns) (hl : ns.length ≤ sizeLine) (hr : Room k callerA)
    (F : ∀ base : Heap, K.In base → base.Ns mainGlobals mg → FnG P w K mg base k fa fd [x] (spM K C 1 m)) (hbind : ∀ (s : Shared) (u : Value), BindsTo s fd ⟨[u], []⟩ [(x, u)])
    (hm1 : ∃ S1, m [.fl (ns.map D.int)] [] = some (.ok (.bl true), S1)) :
    codeAny (model P w) callerA (.call (.ref fa) ⟨[.ref a], []⟩) (fun r s' => r = .ok (.ret (.bool true)) ∧ OldK s.heap s'.heap ∧ s'.os = s.os ∧ AllBare s'.gens) s := by
  have rv := vals_ints hi
  have hlv := hi.length
  have fz : FzL K (scriptH K a vs ns) a (ns.map V.int) := by
    cases e : K.lookup a with
    | none => exact .inl ⟨_, if_pos ⟨rfl, e⟩⟩
    | some o =>
      have q := hK a o e
      rw [ha] at q
      cases q
      exact .inr ⟨_, vs.toArray, _, e, rfl, rfl, rfl, by rw [List.size_toArray, hlv]; exact hl, by simpa using rv⟩
  have hok : HOk P w (scriptH K a vs ns) s.heap := fun b u e => by
    obtain ⟨rfl, _, rfl⟩ := scriptH_some e
    exact ⟨ha, by rw [List.length_map]; exact hl, vs, _, rv, ha⟩
  have free : ∀ {b : Addr} {o : Obj} {es : Array DictEntry} {ep : Nat}, s.heap.get? b = some o → o.data = .dict es ep → scriptH K a vs ns b = none := fun {b o es ep} e d => by
    cases q : scriptH K a vs ns b with
    | none => rfl
    | some u =>
      obtain ⟨rfl, _, _⟩ := scriptH_some q
      rw [ha] at e
      cases e
      cases d
  have nsOf : ∀ {b : Addr} {f : Str → Option Value}, s.heap.Ns b f → (hidT s.heap (scriptH K a vs ns)).Ns b f := fun {b f} ⟨o, es, ep, e, d, r⟩ => ⟨o, es, ep, hidT_get e (free e d), d, r⟩
  have inK : K.In (hidT s.heap (scriptH K a vs ns)) := fun b o e => hidT_get (hK b o e) (by
    cases q : scriptH K a vs ns b with
    | none => rfl
    | some u =>
      obtain ⟨rfl, z, _⟩ := scriptH_some q
      rw [z] at e; cases e)
  have hMod : Mod K mg (hidT s.heap (scriptH K a vs ns)) := ⟨inK, nsOf hm, ⟨mb, nsOf hb, hbb⟩, by obtain ⟨mc, h1, h2⟩ := hlim; exact ⟨mc, nsOf h1, h2⟩⟩
  have e0 : Env0 P w K mg (hidT s.heap (scriptH K a vs ns)) callerA [] s (scriptH K a vs ns) :=
    ⟨rfl, hMod, fun _ _ e => of_hidT e, Nat.le_of_eq (hidT_size _ _), trivial, (fun b z => absurd (show b ∈ ([] : List Addr) from z) List.not_mem_nil), hok, .of_eq hg⟩
  have rel : Rel K C (fun _ => 0) [] (scriptH K a vs ns) := ⟨fun i _ h => absurd h (Nat.not_lt_zero i), fun l o e => by simp at e⟩
  have rds : ∀ l : List Int, RDs K (fun _ => 0) 0 (scriptH K a vs ns) (l.map V.int) (l.map D.int) := fun l => by
    induction l with
    | nil => exact .nil
    | cons i l ih => exact .cons (.int i) ih
  obtain ⟨S1, em⟩ := hm1
  have sp : spM K C 1 m [.ref a] (scriptH K a vs ns) (fun v _ => v = .bl true) (fun _ _ _ => False) := by
    refine ⟨fun _ => 0, [], [.fl (ns.map D.int)], rel, .cons (.fl fz (rds ns)) .nil, rfl, ?_⟩
    rw [em]
    intro mu' H' v R' y rd
    cases rd
    rfl
  refine codeAny_mono ((F _ inK (nsOf hm)).run callerA [] s _ ⟨[.ref a], []⟩ [.ref a] [.ref a] _ _ ⟨hr, rfl⟩ e0 (hbind s (.ref a)) (.cons rfl .nil) sp) ?_
  intro r s' h
  cases r with
  | error e =>
    obtain ⟨_, _, _, _, _, _, _, _, _, _, _, _, z⟩ := h
    exact z.elim
  | ok fl =>
    cases fl with
    | next => exact h.elim
    | brk => exact h.elim
    | cont => exact h.elim
    | ret u =>
      obtain ⟨v, H', os, bare, un, hok', r', q⟩ := h
      obtain rfl : v = .bl true := q
      obtain rfl : u = Value.bool true := r'
      refine ⟨rfl, OldK.of_keep fun b o e => ?_, os, bare⟩
      cases q : scriptH K a vs ns b with
      | none => exact un.keep b o e q (fun z => absurd (show b ∈ ([] : List Addr) from z) List.not_mem_nil) (fun z => absurd z List.not_mem_nil)
      | some u =>
        obtain ⟨rfl, _, rfl⟩ := scriptH_some q
        obtain ⟨e1, _⟩ := hok b _ q
        obtain ⟨e2, _⟩ := hok' b _ (un.frzs b _ _ q)
        rw [e] at e1; cases e1
        exact e2
end
/-- what the head leaves, from the law's def -/
theorem law_walk {l : PySem.W.OpenLaw} {n k : Nat} {q : Program} {loose : List Str} {XP : (Str → Option Value) → Heap → Prop} {YP : World → Heap → Prop} {d : DefRec} {K : Params → PySem.W.Frag} {C : World → Cls0} {m : M} {x : Str}
    (hn : l.most = some n) (hn2 : n ≤ sizeLine) (hdf : d.params.defaults = []) (hr : Room k callerA) (hY : ∀ (w : World) (h : Heap), YP w h → (K w.params).In h)
    (F : ∀ (w : World) (mg : Str → Option Value) (fa : Addr) (h : Heap), (K w.params).In h → h.Ns mainGlobals mg → mg d.name = some (.ref fa) →
      ∃ fd : FuncData, (∀ (s : Shared) (u : Value), BindsTo s fd ⟨[u], []⟩ [(x, u)]) ∧ ∃ C : Cls0, ∀ base : Heap, (K w.params).In base → base.Ns mainGlobals mg → FnG l.prog w (K w.params) mg base k fa fd [x] (spM (K w.params) C 1 m))
    (hm : ∀ ns : List Int, ns.length ≤ n → ∃ S1, m [.fl (ns.map D.int)] [] = some (.ok (.bl true), S1)) :
    PySem.W.WalkO q loose XP YP l.row.toRowW d [] (fun f vs => PySem.call f vs) := by
  refine Att.attach_call hn hdf ?_
  intro w s₀ s₁ mg mb fa o pm cd doc a vs ns G Y ho hd hcd hmg hobj hints hlen hg
  have inK := hY w _ Y
  obtain ⟨fd, hb, C, hF⟩ := F w mg fa _ inK G.T.g hmg
  exact law_runs inK G.T.g G.T.b G.T.builtins G.T.nolimit hg hobj hints (Nat.le_trans hlen hn2) hr hF hb (hm ns hlen)

/-! ### data as a tree -/
/-- a value as the library's data, k deep at most -/
def pyD (S : Store) : Nat → D → Option PyData
  | _, .non => some .none
  | _, .bl b => some (.bool b)
  | _, .int i => some (.int i)
  | _, .str x => if PyData.canLay0 (.str x) = true then some (.str x) else none
  | k + 1, .tup xs => (xs.mapM (pyD S k)).map .tuple
  | k + 1, .fl xs => (xs.mapM (pyD S k)).map .list
  | k + 1, .ref l => match S[l]? with
    | some (.lst xs) => (xs.mapM (pyD S k)).map .list
    | _ => none
  | 0, .tup _ => none
  | 0, .fl _ => none
  | 0, .ref _ => none
  | _, .rng _ _ _ => none
  | _, .gd _ => none
section
variable {K : PySem.W.Frag} {C : Cls0} {mu : Nat → Addr} {S : Store} {H : Hp}
theorem pyD_all (k : Nat) (ih : ∀ {d : D} {v : V} {a : PyData}, RD K mu S.length H v d → pyD S k d = some a → Dp K H v a ∧ a.canLay0 = true ∧ a.depth ≤ k) :
    ∀ {ds : List D} {vs : List V} {as : List PyData}, RDs K mu S.length H vs ds → ds.mapM (pyD S k) = some as → DpAll K H vs as ∧ PyData.canLayAll0 as = true ∧ PyData.depthAll as ≤ k
  | [], vs, as, r, e => by
    cases r
    simp at e
    subst e
    exact ⟨.nil, by simp [PyData.canLayAll0], by simp [PyData.depthAll]⟩
  | d :: ds, vs, as, r, e => by
    cases r with
    | cons r1 r2 =>
      rw [List.mapM_cons] at e
      cases e1 : pyD S k d with
      | none => rw [e1] at e; cases e
      | some a =>
        rw [e1] at e
        cases e2 : ds.mapM (pyD S k) with
        | none => rw [e2] at e; cases e
        | some as' =>
          rw [e2] at e
          cases e
          obtain ⟨p1, p2, p3⟩ := ih r1 e1
          obtain ⟨q1, q2, q3⟩ := pyD_all k ih r2 e2
          exact ⟨.cons p1 q1, by simp [PyData.canLayAll0, p2, q2], by simp only [PyData.depthAll]; exact Nat.max_le.mpr ⟨p3, q3⟩⟩
theorem pyD_dp (R : Rel K C mu S H) : ∀ (k : Nat) {d : D} {v : V} {a : PyData}, RD K mu S.length H v d → pyD S k d = some a → Dp K H v a ∧ a.canLay0 = true ∧ a.depth ≤ k
  | k, .non, v, a, r, e => by cases r; simp [pyD] at e; subst e; exact ⟨.non, by simp [PyData.canLay0], by simp [PyData.depth]⟩
  | k, .bl b, v, a, r, e => by cases r; simp [pyD] at e; subst e; exact ⟨.bl b, by simp [PyData.canLay0], by simp [PyData.depth]⟩
  | k, .int b, v, a, r, e => by cases r; simp [pyD] at e; subst e; exact ⟨.int b, by simp [PyData.canLay0], by simp [PyData.depth]⟩
  | k, .str x, v, a, r, e => by
    cases r
    unfold pyD at e
    by_cases h : PyData.canLay0 (.str x) = true
    · rw [if_pos h] at e; cases e; exact ⟨.str x, h, by simp [PyData.depth]⟩
    · rw [if_neg h] at e; cases e
  | 0, .tup xs, v, a, r, e => by simp [pyD] at e
  | 0, .fl xs, v, a, r, e => by simp [pyD] at e
  | 0, .ref l, v, a, r, e => by simp [pyD] at e
  | k, .rng _ _ _, v, a, r, e => by cases k <;> simp [pyD] at e
  | k, .gd _, v, a, r, e => by cases k <;> simp [pyD] at e
  | k + 1, .tup xs, v, a, r, e => by
    cases r with
    | tup hs hd =>
      unfold pyD at e
      cases e1 : xs.mapM (pyD S k) with
      | none => rw [e1] at e; cases e
      | some as =>
        rw [e1] at e
        cases e
        obtain ⟨q1, q2, q3⟩ := pyD_all k (fun {d v a} => pyD_dp R k (d := d) (v := v) (a := a)) hd e1
        exact ⟨.tup hs q1, by simpa [PyData.canLay0] using q2, by simp only [PyData.depth]; omega⟩
  | k + 1, .fl xs, v, a, r, e => by
    cases r with
    | fl hs hd =>
      unfold pyD at e
      cases e1 : xs.mapM (pyD S k) with
      | none => rw [e1] at e; cases e
      | some as =>
        rw [e1] at e
        cases e
        obtain ⟨q1, q2, q3⟩ := pyD_all k (fun {d v a} => pyD_dp R k (d := d) (v := v) (a := a)) hd e1
        exact ⟨.lst hs.seq q1, by simpa [PyData.canLay0] using q2, by simp only [PyData.depth]; omega⟩
  | k + 1, .ref l, v, a, r, e => by
    cases r with
    | ref hl =>
      unfold pyD at e
      cases e0 : S[l]? with
      | none => rw [e0] at e; cases e
      | some o =>
        rw [e0] at e
        cases o with
        | ins c fs => cases e
        | dic _ _ => cases e
        | fdic _ _ => cases e
        | lst xs =>
          simp only at e
          obtain ⟨vs, h1, hd⟩ := R.obj l _ e0
          cases e1 : xs.mapM (pyD S k) with
          | none => rw [e1] at e; cases e
          | some as =>
            rw [e1] at e
            cases e
            obtain ⟨q1, q2, q3⟩ := pyD_all k (fun {d v a} => pyD_dp R k (d := d) (v := v) (a := a)) hd e1
            exact ⟨.lst (.of h1) q1, by simpa [PyData.canLay0] using q2, by simp only [PyData.depth]; omega⟩
theorem shaped_of {a : PyData} {k : Nat} (h1 : a.canLay0 = true) (h2 : a.depth ≤ k) (hk : k ≤ 64) : SeqAt.shaped a = true := by
  unfold SeqAt.shaped
  rw [h1, decide_eq_true (Nat.le_trans h2 hk)]
  rfl
end
end Sh

set_option Elab.async false
set_option linter.all false
set_option maxRecDepth 100000
set_option maxHeartbeats 4000000
set_option autoImplicit false
namespace Sh
open PySem PySem.Spec PyProof.Rows L2

/-! ### operations of ints, of all data -/
def pI2 (g : Int → Int → Option D) : P2 := fun d e S => match d, e with
  | .int i, .int j => match g i j with
    | some z => okR z S
    | none => none
  | _, _ => none
section
variable {K : PySem.W.Frag} {C : Cls0}
theorem srv_I {c : Int → Int → Prop} {f : Int → Int → V} {g : Int → Int → Option D} (hg : ∀ i j z, g i j = some z → c i j ∧ ∀ K mu n H, RD K mu n H (f i j) z) : Srv2 K C (rI c f) (pI2 g) := by
  intro XW mu S H x y d e Q R r1 r2 q
  cases r1 with
  | int i =>
    cases r2 with
    | int j =>
      simp only [pI2] at q
      cases e1 : g i j with
      | none => rw [e1] at q; exact q.elim
      | some z =>
        rw [e1] at q
        obtain ⟨h1, h2⟩ := hg i j z e1
        exact ⟨i, j, rfl, rfl, h1, q.ok R (h2 _ _ _ _)⟩
    | _ => exact q.elim
  | _ => exact q.elim
theorem srv_I0 {f : Int → Int → V} {g : Int → Int → Option D} (hg : ∀ i j z, g i j = some z → ∀ K mu n H, RD K mu n H (f i j) z) : Srv2 K C (rI0 f) (pI2 g) := by
  intro XW mu S H x y d e Q R r1 r2 q
  cases r1 with
  | int i =>
    cases r2 with
    | int j =>
      simp only [pI2] at q
      cases e1 : g i j with
      | none => rw [e1] at q; exact q.elim
      | some z =>
        rw [e1] at q
        exact ⟨i, j, rfl, rfl, q.ok R (hg i j z e1 _ _ _ _)⟩
    | _ => exact q.elim
  | _ => exact q.elim
end
def gSub : Int → Int → Option D := fun i j => some (.int (i - j))
def gMul : Int → Int → Option D := fun i j => if (-(2 ^ 64) < i ∧ i < 2 ^ 64) ∨ (-(2 ^ 64) < j ∧ j < 2 ^ 64) then some (.int (i * j)) else none
def gMod : Int → Int → Option D := fun i j => if j ≠ 0 then some (.int (i.fmod j)) else none
def gDiv : Int → Int → Option D := fun i j => if j ≠ 0 ∧ j.natAbs < 1073741824 then some (.int (i.fdiv j)) else none
def gPow : Int → Int → Option D := fun i j => if 0 ≤ j ∧ j ≤ 1000000 ∧ i.natAbs < 2 ^ 64 then some (.int (i ^ j.toNat)) else none
def gLt : Int → Int → Option D := fun i j => some (.bl (decide (i < j)))
def gLe : Int → Int → Option D := fun i j => some (.bl (decide (i ≤ j)))
def gGt : Int → Int → Option D := fun i j => some (.bl (decide (j < i)))
def gGe : Int → Int → Option D := fun i j => some (.bl (decide (j ≤ i)))
section
variable {K : PySem.W.Frag} {C : Cls0}
theorem sv_sub : Srv2 K C (rI0 fun i j => .int (i - j)) (pI2 gSub) := srv_I0 fun i j z e _ _ _ _ => by cases e; exact .int _
theorem sv_mul : Srv2 K C (rI CMul fun i j => .int (i * j)) (pI2 gMul) := srv_I fun i j z e => by
  unfold gMul at e
  split at e
  · cases e; exact ⟨by assumption, fun _ _ _ _ => .int _⟩
  · cases e
theorem sv_mod : Srv2 K C (rI (fun _ j => j ≠ 0) fun i j => .int (i.fmod j)) (pI2 gMod) := srv_I fun i j z e => by
  unfold gMod at e
  split at e
  · cases e; exact ⟨by assumption, fun _ _ _ _ => .int _⟩
  · cases e
theorem sv_div : Srv2 K C (rI CDivN fun i j => .int (i.fdiv j)) (pI2 gDiv) := srv_I fun i j z e => by
  unfold gDiv at e
  split at e
  · cases e; exact ⟨by assumption, fun _ _ _ _ => .int _⟩
  · cases e
theorem sv_pow : Srv2 K C (rI CPow fun i j => .int (i ^ j.toNat)) (pI2 gPow) := srv_I fun i j z e => by
  unfold gPow at e
  split at e
  · cases e; exact ⟨by assumption, fun _ _ _ _ => .int _⟩
  · cases e
theorem sv_lt : Srv2 K C (rI0 fun i j => .bl (decide (i < j))) (pI2 gLt) := srv_I0 fun i j z e _ _ _ _ => by cases e; exact .bl _
theorem sv_le : Srv2 K C (rI0 fun i j => .bl (decide (i ≤ j))) (pI2 gLe) := srv_I0 fun i j z e _ _ _ _ => by cases e; exact .bl _
theorem sv_gt : Srv2 K C (rI0 fun i j => .bl (decide (j < i))) (pI2 gGt) := srv_I0 fun i j z e _ _ _ _ => by cases e; exact .bl _
theorem sv_ge : Srv2 K C (rI0 fun i j => .bl (decide (j ≤ i))) (pI2 gGe) := srv_I0 fun i j z e _ _ _ _ => by cases e; exact .bl _
end
/-- a + b: ints, texts, tuples -/
def pAdd : P2 := fun d e S => match d, e with
  | .int i, .int j => okR (.int (i + j)) S
  | .str x, .str y => if x.length + y.length ≤ 16777216 then okR (.str (x ++ y)) S else none
  | .tup xs, .tup ys => if xs.length + ys.length ≤ 16777216 then okR (.tup (xs ++ ys)) S else none
  | _, _ => none
def rAddA (K : PySem.W.Frag) : R2 := fun x y H Q => (rI0 fun i j => .int (i + j)) x y H Q ∨ ((∃ i j, x = .str i ∧ y = .str j ∧ i.length + j.length ≤ sizeLine ∧ Q (.str (i ++ j)) H) ∨ rCatA K x y H Q)
theorem op_addA {X : Cx} : OpR X (binaryOp .Add) (rAddA X.K) := op_add.or (op_add_str.or op_catA)
section
variable {K : PySem.W.Frag} {C : Cls0}
theorem sv_add : Srv2 K C (rAddA K) pAdd := by
  intro XW mu S H x y d e Q R r1 r2 q
  cases r1 with
  | int i =>
    cases r2 with
    | int j => exact .inl ⟨i, j, rfl, rfl, q.ok R (.int _)⟩
    | _ => exact q.elim
  | str a =>
    cases r2 with
    | str b =>
      simp only [pAdd] at q
      split at q
      · rename_i hl
        exact .inr (.inl ⟨a, b, rfl, rfl, by rw [sizeLine_16]; exact hl, q.ok R (.str _)⟩)
      · exact q.elim
    | _ => exact q.elim
  | @tup a vs ds hs hd =>
    cases r2 with
    | @tup b ws es hs' hd' =>
      simp only [pAdd] at q
      split at q
      · rename_i hl
        have l1 := RDs.length hd
        have l2 := RDs.length hd'
        refine .inr (.inr ⟨a, b, vs, ws, rfl, rfl, hs, hs', by rw [sizeLine_16, l1, l2]; exact hl, fun e => ?_, fun _ e => ?_, fun _ _ p hp => ?_⟩)
        · subst e
          have : ds = [] := by cases ds with | nil => rfl | cons _ _ => simp at l1
          subst this
          exact q.ok R (.tup hs' hd')
        · subst e
          have : es = [] := by cases es with | nil => rfl | cons _ _ => simp at l2
          subst this
          rw [List.append_nil] at q
          exact q.ok R (.tup hs hd)
        · exact q mu _ _ (R.new hp) (.new hp) (.tup (.inl (.inl upd_same)) ((hd.append hd').mono R (.new hp)))
      · exact q.elim
    | _ => exact q.elim
  | _ => exact q.elim
end
/-- ==, != of all data -/
def eqO (S : Store) (d e : D) : Option Bool := match pyD S 60 d, pyD S 60 e with
  | some a, some b => some (PyData.eqv a b)
  | _, _ => none
def pEq : P2 := fun d e S => match d, e with
  | .str a, .str b => okR (.bl (a == b)) S
  | d, e => match eqO S d e with
    | some b => okR (.bl b) S
    | none => none
def pNe : P2 := fun d e S => match d, e with
  | .str a, .str b => okR (.bl (!(a == b))) S
  | d, e => match eqO S d e with
    | some b => okR (.bl (!b)) S
    | none => none
section
variable {K : PySem.W.Frag} {C : Cls0}
theorem eqO_dp {mu : Nat → Addr} {S : Store} {H : Hp} {d e : D} {x y : V} {b : Bool} (R : Rel K C mu S H) (r1 : RD K mu S.length H x d) (r2 : RD K mu S.length H y e) (h : eqO S d e = some b) :
    ∃ p q, Dp K H x p ∧ Dp K H y q ∧ SeqAt.shaped p = true ∧ SeqAt.shaped q = true ∧ b = PyData.eqv p q := by
  unfold eqO at h
  split at h
  · rename_i p q e1 e2
    cases h
    obtain ⟨a1, a2, a3⟩ := pyD_dp R 60 r1 e1
    obtain ⟨b1, b2, b3⟩ := pyD_dp R 60 r2 e2
    exact ⟨p, q, a1, b1, shaped_of a2 a3 (by decide), shaped_of b2 b3 (by decide), rfl⟩
  · cases h
theorem dec_strV {a b : Str} : decide (V.str a = V.str b) = (a == b) := by
  rw [Bool.eq_iff_iff]
  simp
theorem sv_eq : Srv2 K C (fun x y H Q => rEq x y H Q ∨ rEqD K x y H Q) pEq := by
  intro XW mu S H x y d e Q R r1 r2 q
  unfold pEq at q
  split at q
  · cases r1 with
    | str a =>
      cases r2 with
      | str b => exact .inl ⟨rfl, by rw [dec_strV]; exact q.ok R (.bl _)⟩
  · cases h : eqO S d e with
    | none => rw [h] at q; exact q.elim
    | some b =>
      rw [h] at q
      obtain ⟨p, p', a1, a2, a3, a4, rfl⟩ := eqO_dp R r1 r2 h
      exact .inr ⟨p, p', a1, a2, a3, a4, q.ok R (.bl _)⟩
theorem sv_ne : Srv2 K C (fun x y H Q => rNe x y H Q ∨ rNeD K x y H Q) pNe := by
  intro XW mu S H x y d e Q R r1 r2 q
  unfold pNe at q
  split at q
  · cases r1 with
    | str a =>
      cases r2 with
      | str b => exact .inl ⟨rfl, by rw [dec_strV]; exact q.ok R (.bl _)⟩
  · cases h : eqO S d e with
    | none => rw [h] at q; exact q.elim
    | some b =>
      rw [h] at q
      obtain ⟨p, p', a1, a2, a3, a4, rfl⟩ := eqO_dp R r1 r2 h
      exact .inr ⟨p, p', a1, a2, a3, a4, q.ok R (.bl _)⟩
end
section
variable {K : PySem.W.Frag} {C : Cls0}
end
/-! ### built-in functions -/
def p1L (p : P1) : PL := fun ds S => match ds with
  | [d] => p d S
  | _ => none
def pLen : P1 := fun d S => match d with
  | .tup ds => okR (.int ds.length) S
  | .fl ds => okR (.int ds.length) S
  | .str z => if z.length ≤ 16777216 then okR (.int z.length) S else none
  | .ref l => match S[l]? with
    | some (.lst ds) => okR (.int ds.length) S
    | _ => none
  | _ => none
def pAbs : P1 := fun d S => match d with
  | .int i => okR (.int (if i < 0 then -i else i)) S
  | _ => none
def pInt : P1 := fun d S => match d with
  | .int i => okR (.int i) S
  | .bl b => okR (.int (if b then 1 else 0)) S
  | _ => none
def rLenA (K : PySem.W.Frag) : List V → Hp → VK → Prop := fun xs H Q => (∃ p ys, xs = [.ref p] ∧ (SqL K H p ys ∨ SqT K H p ys) ∧ Q (.int ys.length) H) ∨ (∃ z, xs = [.str z] ∧ z.length ≤ sizeLine ∧ Q (.int z.length) H)
theorem call_lenA {X : Cx} : CallR X (.builtin "len") (rLenA X.K) := call_len_seq.or call_len_str
section
variable {K : PySem.W.Frag} {C : Cls0}
theorem srvL1 {r : List V → Hp → VK → Prop} {p : P1} (h : ∀ (XW : Value → Option Addr → Hp → Prop) (mu : Nat → Addr) (S : Store) (H : Hp) (x : V) (d : D) (Q : VK), Rel K C mu S H → RD K mu S.length H x d → PostG K C XW mu S.length H (QD K) (p d S) Q → r [x] H Q) : SrvL K C r (p1L p) := by
  intro XW mu S H xs ds Q R r1 q
  unfold p1L at q
  split at q
  · cases r1 with
    | cons r1 r2 =>
      cases r2
      exact h XW mu S H _ _ Q R r1 q
  · exact q.elim
theorem sv_len : SrvL K C (rLenA K) (p1L pLen) := srvL1 fun XW mu S H x d Q R r q => by
  cases r with
  | tup hs hd => exact .inl ⟨_, _, rfl, .inr hs, by rw [RDs.length hd]; exact q.ok R (.int _)⟩
  | fl hs hd => exact .inl ⟨_, _, rfl, .inl hs.seq, by rw [RDs.length hd]; exact q.ok R (.int _)⟩
  | str z =>
    simp only [pLen] at q
    split at q
    · rename_i hl
      exact .inr ⟨z, rfl, by rw [sizeLine_16]; exact hl, q.ok R (.int _)⟩
    · exact q.elim
  | @ref l hl =>
    simp only [pLen] at q
    cases e : S[l]? with
    | none => rw [e] at q; exact q.elim
    | some o =>
      rw [e] at q
      cases o with
      | ins _ _ => exact q.elim
      | dic _ _ => exact q.elim
      | fdic _ _ => exact q.elim
      | lst ds =>
        obtain ⟨vs, h1, hd⟩ := R.obj l _ e
        exact .inl ⟨_, vs, rfl, .inl (.of h1), by rw [RDs.length hd]; exact q.ok R (.int _)⟩
  | _ => exact q.elim
theorem sv_abs : SrvL K C (fun xs H Q => ∃ i, xs = [.int i] ∧ Q (.int (if i < 0 then -i else i)) H) (p1L pAbs) := srvL1 fun XW mu S H x d Q R r q => by
  cases r with
  | int i => exact ⟨i, rfl, q.ok R (.int _)⟩
  | _ => exact q.elim
theorem sv_int : SrvL K C (fun xs H Q => (∃ i, xs = [.int i] ∧ Q (.int i) H) ∨ ∃ k, xs = [.bl k] ∧ Q (.int (if k then 1 else 0)) H) (p1L pInt) := srvL1 fun XW mu S H x d Q R r q => by
  cases r with
  | int i => exact .inl ⟨i, rfl, q.ok R (.int _)⟩
  | bl b => exact .inr ⟨b, rfl, q.ok R (.int _)⟩
  | _ => exact q.elim
end
/-- tuple(x), list(x) of what holds items -/
def pTuple : P1 := fun d S => match d with
  | .tup ds => okR (.tup ds) S
  | .fl ds => okR (.tup ds) S
  | .ref l => match S[l]? with
    | some (.lst ds) => okR (.tup ds) S
    | _ => none
  | _ => none
section
variable {K : PySem.W.Frag} {C : Cls0}
theorem sv_tuple : SrvL K C (fun xs H Q => ∃ p ys, xs = [.ref p] ∧ ((SqL K H p ys ∧ ∀ l, H l = none → Q (.ref l) (upd H l (.tup ys))) ∨ (SqT K H p ys ∧ Q (.ref p) H))) (p1L pTuple) := srvL1 fun XW mu S H x d Q R r q => by
  cases r with
  | tup hs hd => exact ⟨_, _, rfl, .inr ⟨hs, q.ok R (.tup hs hd)⟩⟩
  | fl hs hd => exact ⟨_, _, rfl, .inl ⟨hs.seq, fun l hl => q mu _ _ (R.new hl) (.new hl) (.tup (.inl (.inl upd_same)) (hd.mono R (.new hl)))⟩⟩
  | @ref l hl =>
    simp only [pTuple] at q
    cases e : S[l]? with
    | none => rw [e] at q; exact q.elim
    | some o =>
      rw [e] at q
      cases o with
      | ins _ _ => exact q.elim
      | dic _ _ => exact q.elim
      | fdic _ _ => exact q.elim
      | lst ds =>
        obtain ⟨vs, h1, hd⟩ := R.obj l _ e
        exact ⟨_, vs, rfl, .inl ⟨.of h1, fun l hl => q mu _ _ (R.new hl) (.new hl) (.tup (.inl (.inl upd_same)) (hd.mono R (.new hl)))⟩⟩
  | _ => exact q.elim
end
section
variable {X : Cx} {C : Cls0} {W : Wx}
/-! ### what is done with a new list at once -/
/-- the hand layer's rule r of a list serves the function q of its items -/
def SrvF (K : PySem.W.Frag) (C : Cls0) (r : List V → Hp → VK → Prop) (q : List D → Store → Rs D) : Prop :=
  ∀ (XW : Value → Option Addr → Hp → Prop) (mu : Nat → Addr) (S : Store) (H : Hp) (p : Addr) (vs : List V) (ds : List D) (Q : VK), Rel K C mu S H → H p = some (.lst vs) → RDs K mu S.length H vs ds → PostG K C XW mu S.length H (QD K) (q ds S) Q → r [.ref p] H Q
def fNew (q : List D → Store → Rs D) (f : EF (List D)) : EF D := fun ρ S => bindR (f ρ S) q
theorem se_bltF {x : Str} {p pos : Pos} {e : Expr} {id : String} {r : List V → Hp → VK → Prop} {q : List D → Store → Rs D} {f : EF (List D)} (hc : CallR X (.builtin id) r) (hr : SrvF X.K C r q) (hm : X.mg x = none) (hv : bootBuiltins x = some (.builtin id)) (ha : SL X C W e f) (hg : Gl X x := by rfl) (hn : x ≠ "__name__" := by decide) (hdb : (x == ("__debug__" : Str)) = false := by decide)
    (he : starEach [e] X.env = (false, eval e X.env) :: starEach [] X.env := by rfl) (hpl : (backTo pos (starEach [] X.env)).any (·.1) = false := by rfl) : SE X C W (.Call (.Name x p) [e] [] pos) (fNew q f) := by
  refine ⟨PE.imp (pe_callB hc hg hm hv (pa_cons ha.pe pa_nil he) hn hdb he hpl) ?_⟩
  rintro σ H Q ⟨mu, S, ρ, R, re, h⟩
  refine ⟨mu, S, ρ, R, re, (PostG.bind (RA := RL X.K) h).mono ?_⟩
  rintro v H1 ⟨mu1, S1, d1, R1, x1, ⟨p, vs, rfl, hp, rd, _, _⟩, h1⟩
  exact hr _ mu1 S1 H1 p vs d1 Q R1 hp rd h1
theorem se_typF {x : Str} {p pos : Pos} {e : Expr} {id : String} {r : List V → Hp → VK → Prop} {q : List D → Store → Rs D} {f : EF (List D)} (hc : CallR X (.type id) r) (hr : SrvF X.K C r q) (hm : X.mg x = none) (hv : bootBuiltins x = some (.type id)) (ha : SL X C W e f) (hg : Gl X x := by rfl) (hn : x ≠ "__name__" := by decide) (hdb : (x == ("__debug__" : Str)) = false := by decide)
    (he : starEach [e] X.env = (false, eval e X.env) :: starEach [] X.env := by rfl) (hpl : (backTo pos (starEach [] X.env)).any (·.1) = false := by rfl) : SE X C W (.Call (.Name x p) [e] [] pos) (fNew q f) := by
  refine ⟨PE.imp (pe_callTy hc hg hm hv (pa_cons ha.pe pa_nil he) hn hdb he hpl) ?_⟩
  rintro σ H Q ⟨mu, S, ρ, R, re, h⟩
  refine ⟨mu, S, ρ, R, re, (PostG.bind (RA := RL X.K) h).mono ?_⟩
  rintro v H1 ⟨mu1, S1, d1, R1, x1, ⟨p, vs, rfl, hp, rd, _, _⟩, h1⟩
  exact hr _ mu1 S1 H1 p vs d1 Q R1 hp rd h1
end
def allB : List D → Option (List Bool)
  | [] => some []
  | .bl b :: r => (allB r).map (b :: ·)
  | _ => none
def allI : List D → Option (List Int)
  | [] => some []
  | .int b :: r => (allI r).map (b :: ·)
  | _ => none
section
variable {K : PySem.W.Frag} {C : Cls0} {mu : Nat → Addr} {n : Nat} {H : Hp}
theorem allB_rd : ∀ {ds : List D} {vs : List V} {bs : List Bool}, RDs K mu n H vs ds → allB ds = some bs → vs = bs.map V.bl
  | [], _, _, r, e => by cases r; cases e; rfl
  | .bl b :: ds, _, _, r, e => by
    cases r with
    | cons r1 r2 =>
      cases r1
      simp only [allB] at e
      cases e1 : allB ds with
      | none => rw [e1] at e; cases e
      | some bs =>
        rw [e1] at e
        cases e
        rw [allB_rd r2 e1]
        rfl
  | .non :: _, _, _, _, e => by cases e
  | .int _ :: _, _, _, _, e => by cases e
  | .str _ :: _, _, _, _, e => by cases e
  | .tup _ :: _, _, _, _, e => by cases e
  | .ref _ :: _, _, _, _, e => by cases e
  | .fl _ :: _, _, _, _, e => by cases e
theorem allI_rd : ∀ {ds : List D} {vs : List V} {bs : List Int}, RDs K mu n H vs ds → allI ds = some bs → vs = bs.map V.int
  | [], _, _, r, e => by cases r; cases e; rfl
  | .int b :: ds, _, _, r, e => by
    cases r with
    | cons r1 r2 =>
      cases r1
      simp only [allI] at e
      cases e1 : allI ds with
      | none => rw [e1] at e; cases e
      | some bs =>
        rw [e1] at e
        cases e
        rw [allI_rd r2 e1]
        rfl
  | .non :: _, _, _, _, e => by cases e
  | .bl _ :: _, _, _, _, e => by cases e
  | .str _ :: _, _, _, _, e => by cases e
  | .tup _ :: _, _, _, _, e => by cases e
  | .ref _ :: _, _, _, _, e => by cases e
  | .fl _ :: _, _, _, _, e => by cases e
end
def qAll : List D → Store → Rs D := fun ds S => match allB ds with
  | some bs => okR (.bl (bs.all id)) S
  | none => none
def qSum : List D → Store → Rs D := fun ds S => match allI ds with
  | some ns => okR (.int ns.sum) S
  | none => none
def greatest : List Int → Option Int
  | [] => none
  | n :: r => some (r.foldl max n)
def least : List Int → Option Int
  | [] => none
  | n :: r => some (r.foldl min n)
def qMax : List D → Store → Rs D := fun ds S => match allI ds with
  | some ns => match greatest ns with
    | some m => okR (.int m) S
    | none => none
  | none => none
def qMin : List D → Store → Rs D := fun ds S => match allI ds with
  | some ns => match least ns with
    | some m => okR (.int m) S
    | none => none
  | none => none
def qTuple : List D → Store → Rs D := fun ds S => okR (.tup ds) S
theorem foldl_max_ge : ∀ (r : List Int) (n : Int), n ≤ r.foldl max n ∧ (∀ y ∈ r, y ≤ r.foldl max n) ∧ (r.foldl max n = n ∨ r.foldl max n ∈ r)
  | [], n => ⟨Int.le_refl _, fun _ h => absurd h List.not_mem_nil, .inl rfl⟩
  | x :: r, n => by
    obtain ⟨h1, h2, h3⟩ := foldl_max_ge r (max n x)
    simp only [List.foldl_cons]
    refine ⟨by omega, fun y hy => ?_, ?_⟩
    · rcases List.mem_cons.mp hy with rfl | hy
      · omega
      · exact h2 y hy
    · rcases h3 with h3 | h3
      · rw [h3]
        by_cases hx : x ≤ n
        · left; omega
        · right; rw [show max n x = x by omega]; exact List.mem_cons_self
      · exact .inr (List.mem_cons_of_mem _ h3)
theorem foldl_min_le : ∀ (r : List Int) (n : Int), r.foldl min n ≤ n ∧ (∀ y ∈ r, r.foldl min n ≤ y) ∧ (r.foldl min n = n ∨ r.foldl min n ∈ r)
  | [], n => ⟨Int.le_refl _, fun _ h => absurd h List.not_mem_nil, .inl rfl⟩
  | x :: r, n => by
    obtain ⟨h1, h2, h3⟩ := foldl_min_le r (min n x)
    simp only [List.foldl_cons]
    refine ⟨by omega, fun y hy => ?_, ?_⟩
    · rcases List.mem_cons.mp hy with rfl | hy
      · omega
      · exact h2 y hy
    · rcases h3 with h3 | h3
      · rw [h3]
        by_cases hx : n ≤ x
        · left; omega
        · right; rw [show min n x = x by omega]; exact List.mem_cons_self
      · exact .inr (List.mem_cons_of_mem _ h3)
theorem greatest_of {ns : List Int} {m k : Int} (h : greatest ns = some k) (hm : m ∈ ns) (hle : ∀ y, y ∈ ns → y ≤ m) : m = k := by
  cases ns with
  | nil => cases h
  | cons n r =>
    cases h
    obtain ⟨h1, h2, h3⟩ := foldl_max_ge r n
    have up : m ≤ r.foldl max n := by
      rcases List.mem_cons.mp hm with rfl | hm
      · exact h1
      · exact h2 m hm
    have dn : r.foldl max n ≤ m := by
      rcases h3 with h3 | h3
      · rw [h3]; exact hle n List.mem_cons_self
      · exact hle _ (List.mem_cons_of_mem _ h3)
    omega
theorem least_of {ns : List Int} {m k : Int} (h : least ns = some k) (hm : m ∈ ns) (hle : ∀ y, y ∈ ns → m ≤ y) : m = k := by
  cases ns with
  | nil => cases h
  | cons n r =>
    cases h
    obtain ⟨h1, h2, h3⟩ := foldl_min_le r n
    have dn : r.foldl min n ≤ m := by
      rcases List.mem_cons.mp hm with rfl | hm
      · exact h1
      · exact h2 m hm
    have up : m ≤ r.foldl min n := by
      rcases h3 with h3 | h3
      · rw [h3]; exact hle n List.mem_cons_self
      · exact hle _ (List.mem_cons_of_mem _ h3)
    omega
section
variable {K : PySem.W.Frag} {C : Cls0}
theorem sf_all : SrvF K C (rAll K) qAll := by
  intro XW mu S H p vs ds Q R hp rd q
  unfold qAll at q
  cases e : allB ds with
  | none => rw [e] at q; exact q.elim
  | some bs => rw [e] at q; exact ⟨p, bs, rfl, .of (by rw [hp, allB_rd rd e]), q.ok R (.bl _)⟩
theorem sf_sum : SrvF K C (rSum K) qSum := by
  intro XW mu S H p vs ds Q R hp rd q
  unfold qSum at q
  cases e : allI ds with
  | none => rw [e] at q; exact q.elim
  | some bs => rw [e] at q; exact ⟨p, bs, rfl, .of (by rw [hp, allI_rd rd e]), q.ok R (.int _)⟩
theorem sf_tuple : SrvF K C (fun xs H Q => ∃ p ys, xs = [.ref p] ∧ ((SqL K H p ys ∧ ∀ l, H l = none → Q (.ref l) (upd H l (.tup ys))) ∨ (SqT K H p ys ∧ Q (.ref p) H))) qTuple := by
  intro XW mu S H p vs ds Q R hp rd q
  exact ⟨p, vs, rfl, .inl ⟨.of hp, fun l hl => q mu _ _ (R.new hl) (.new hl) (.tup (.inl (.inl upd_same)) (rd.mono R (.new hl)))⟩⟩
end
end Sh

set_option Elab.async false
set_option linter.all false
set_option maxRecDepth 100000
set_option maxHeartbeats 4000000
set_option autoImplicit false
namespace Sh
open PySem PySem.Spec PyProof.Rows L2

/-! ### the store is written -/
section
variable {K : PySem.W.Frag} {C : Cls0} {mu : Nat → Addr} {S : Store} {H : Hp} {l : Nat} {vs ws : List V} {ds es : List D}
theorem sqT_put {a p : Addr} {us : List V} (hp : H p = some (.lst vs)) (z : SqT K H a us) : SqT K (upd H p (.lst ws)) a us := by
  rcases z with (z | ⟨o, z⟩) | z
  · exact .inl (.inl (by rw [upd_ne (ne_of z hp (fun q => by cases q))]; exact z))
  · exact .inl (.inr ⟨o, by rw [upd_ne (ne_of z hp (fun q => by cases q))]; exact z⟩)
  · exact .inr z
theorem fzL_put {a p : Addr} {us : List V} (hp : H p = some (.lst vs)) (z : FzL K H a us) : FzL K (upd H p (.lst ws)) a us := by
  rcases z with ⟨o, z⟩ | z
  · exact .inl ⟨o, by rw [upd_ne (ne_of z hp (fun q => by cases q))]; exact z⟩
  · exact .inr z
theorem rgV_put {a p : Addr} {i j k : Int} (hp : H p = some (.lst vs)) (z : RgV H a i j k) : RgV (upd H p (.lst ws)) a i j k := by
  unfold RgV at z ⊢
  rw [upd_ne (ne_of z hp (fun q => by cases q))]
  exact z
theorem Rel.put (R : Rel K C mu S H) (hl : l < S.length) (hp : H (mu l) = some (.lst vs)) (hw : RDs K mu S.length H ws es) : Rel K C mu (S.set l (.lst es)) (upd H (mu l) (.lst ws)) := by
  have len : (S.set l (.lst es)).length = S.length := List.length_set
  refine ⟨fun i j hi hj e => R.inj i j (by rwa [len] at hi) (by rwa [len] at hj) e, fun k o e => ?_⟩
  rw [len]
  by_cases hk : k = l
  · subst hk
    rw [List.getElem?_set_self hl] at e
    cases e
    exact ⟨ws, upd_same, hw.mv (fun _ _ z => sqT_put hp z) (fun _ _ z => fzL_put hp z) (fun _ _ _ _ z => rgV_put hp z) (fun _ _ => rfl) (Nat.le_refl _)⟩
  · rw [List.getElem?_set_ne (fun e => hk e.symm)] at e
    have hkl : k < S.length := (List.getElem?_eq_some_iff.mp e).1
    exact (R.obj k o e).mv (fun _ _ => rfl) (Nat.le_refl _) (fun _ _ z => sqT_put hp z) (fun _ _ z => fzL_put hp z) (fun _ _ _ _ z => rgV_put hp z) (by rw [upd_ne (fun q => hk (R.inj k l hkl hl q))])
theorem Ext.put {n : Nat} {o : HO} (hl : l < n) (hp : ∃ u, H (mu l) = some u ∧ ∀ ob k, u ≠ .frz ob k) : Ext mu n H mu n (upd H (mu l) o) := by
  refine ⟨Nat.le_refl _, fun _ _ => rfl, fun a u e h => by rw [upd_ne (fun q => h l hl q.symm)]; exact e, fun a u e => ?_, fun _ h1 h2 => absurd (Nat.lt_of_lt_of_le h2 h1) (Nat.lt_irrefl _), fun a ob k e => by
    obtain ⟨u, hu, hn⟩ := hp
    rw [upd_ne (fun q => by rw [q, hu] at e; exact hn _ _ (Option.some.inj e))]; exact e⟩
  by_cases ha : a = mu l
  · subst ha; exact ⟨o, upd_same⟩
  · exact ⟨u, by rw [upd_ne ha]; exact e⟩
end
section
variable {X : Cx} {C : Cls0} {W : Wx}
/-! ### subscripts -/
def pIx : P2 := fun d e S => match e with
  | .int i => match d with
    | .tup ds => match atI ds i with
      | some x => okR x S
      | none => none
    | .fl ds => match atI ds i with
      | some x => okR x S
      | none => none
    | .ref l => match S[l]? with
      | some (.lst ds) => match atI ds i with
        | some x => okR x S
        | none => none
      | _ => none
    | .str z => if z.length ≤ 16777216 then match atI z.cps.toList i with
        | some c => okR (.str ⟨#[c]⟩) S
        | none => none
      else none
    | _ => none
  | _ => none
theorem atI_rd {K : PySem.W.Frag} {mu : Nat → Addr} {n : Nat} {H : Hp} {ds : List D} {vs : List V} {i : Int} {d : D} (r : RDs K mu n H vs ds) (e : atI ds i = some d) : ∃ v, atI vs i = some v ∧ RD K mu n H v d := by
  unfold atI at e ⊢
  rw [RDs.length r]
  cases q : ixN ds.length i with
  | none => rw [q] at e; cases e
  | some j =>
    rw [q] at e
    exact r.get e
theorem sv_ix {K : PySem.W.Frag} : Srv2 K C (rIx K) pIx := by
  intro XW mu S H x y d e Q R r1 r2 q
  cases r2 with
  | int i =>
    cases r1 with
    | @tup a vs ds hs hd =>
      simp only [pIx] at q
      cases h : atI ds i with
      | none => rw [h] at q; exact q.elim
      | some z =>
        rw [h] at q
        obtain ⟨v, e1, r⟩ := atI_rd hd h
        exact .inr (.inl ⟨a, vs, i, v, rfl, rfl, hs, e1, q.ok R r⟩)
    | @fl a vs ds hs hd =>
      simp only [pIx] at q
      cases h : atI ds i with
      | none => rw [h] at q; exact q.elim
      | some z =>
        rw [h] at q
        obtain ⟨v, e1, r⟩ := atI_rd hd h
        exact .inl ⟨a, vs, i, v, rfl, rfl, hs.seq, e1, q.ok R r⟩
    | @ref l hl =>
      simp only [pIx] at q
      cases h0 : S[l]? with
      | none => rw [h0] at q; exact q.elim
      | some o =>
        rw [h0] at q
        cases o with
        | ins _ _ => exact q.elim
        | dic _ _ => exact q.elim
        | fdic _ _ => exact q.elim
        | lst ds =>
          simp only at q
          obtain ⟨vs, h1, hd⟩ := R.obj l _ h0
          cases h : atI ds i with
          | none => rw [h] at q; exact q.elim
          | some z =>
            rw [h] at q
            obtain ⟨v, e1, r⟩ := atI_rd hd h
            exact .inl ⟨_, vs, i, v, rfl, rfl, .of h1, e1, q.ok R r⟩
    | str z =>
      simp only [pIx] at q
      split at q
      · rename_i hz
        cases h : atI z.cps.toList i with
        | none => rw [h] at q; exact q.elim
        | some c =>
          rw [h] at q
          exact .inr (.inr ⟨z, i, c, rfl, rfl, by rw [sizeLine_16]; exact hz, h, q.ok R (.str _)⟩)
      · exact q.elim
    | _ => exact q.elim
  | _ => exact q.elim
theorem se_ix {a b : Expr} {f g : EF D} {pos : Pos} (ha : SE X C W a f) (hb : SE X C W b g) (hs : PlainIx b := by exact fun _ _ => rfl) : SE X C W (.Subscript a b pos) (fBin pIx f g) :=
  ⟨PE.imp (pe_ix ix_seq ha.pe hb.pe hs) fun σ H Q h => bin' (e1 := a) (e2 := b) sv_ix h⟩
/-- the parts of a slice -/
abbrev OF := EF (Option Int)
def RO1 : Hp → (Nat → Addr) → Nat → Hp → Option Int → Option Int → Prop := fun _ _ _ _ a b => a = b
instance : Anti RO1 := ⟨fun _ h => h⟩
def TO' (K : PySem.W.Frag) (C : Cls0) (W : Wx) (f : OF) : TO := fun σ H Q => ∃ mu S ρ, Rel K C mu S H ∧ RE K mu S.length H σ ρ ∧ PostG K C (fun c d H' => W c d σ H') mu S.length H RO1 (f ρ S) Q
structure SO' (X : Cx) (C : Cls0) (W : Wx) (e : Option Expr) (f : OF) : Prop where
  po : PO X e (TO' X.K C W f)
theorem PO.imp {e : Option Expr} {t t' : TO} (h : PO X e t) (k : ∀ σ H Q, t' σ H Q → t σ H Q) : PO X e t' := ⟨fun pins s σ H Q I q => h.run pins s σ H Q I (k σ H Q q)⟩
def oNone : OF := fun _ S => okR none S
def oSome (f : EF D) : OF := fun ρ S => bindR (f ρ S) fun d S1 => match d with
  | .int i => okR (some i) S1
  | _ => none
theorem so_none : SO' X C W none oNone := ⟨PO.imp po_none fun σ H Q ⟨mu, S, ρ, R, re, h⟩ => h.ok R rfl⟩
theorem so_some {e : Expr} {f : EF D} (a : SE X C W e f) : SO' X C W (some e) (oSome f) := by
  refine ⟨PO.imp (po_some a.pe) ?_⟩
  rintro σ H Q ⟨mu, S, ρ, R, re, h⟩
  refine ⟨mu, S, ρ, R, re, (PostG.bind (RA := QD X.K) h).mono ?_⟩
  rintro v H1 ⟨mu1, S1, d1, R1, x1, r1, h1⟩
  cases r1 with
  | int i => exact ⟨i, rfl, h1.ok R1 rfl⟩
  | _ => exact h1.elim
def cutD {α : Type} (xs : List α) (lo hi : Option Int) : List α := (xs.drop (HT.sIx xs.length 0 lo)).take (HT.sIx xs.length xs.length hi - HT.sIx xs.length 0 lo)
theorem cut_rd {K : PySem.W.Frag} {mu : Nat → Addr} {n : Nat} {H : Hp} {ds : List D} {vs : List V} (lo hi : Option Int) (r : RDs K mu n H vs ds) : RDs K mu n H (cutV vs lo hi) (cutD ds lo hi) := by
  unfold cutV cutD
  rw [RDs.length r]
  exact (r.drop _).take _
/-- a[lo:hi]: a list's is a new list, a tuple's a tuple -/
def fSl (f : EF D) (lo hi : OF) : EF D := fun ρ S => bindR (f ρ S) fun d S1 => bindR (lo ρ S1) fun a S2 => bindR (hi ρ S2) fun b S3 => match d with
  | .tup ds => okR (.tup (cutD ds a b)) S3
  | .fl ds => okR (.ref S3.length) (S3 ++ [.lst (cutD ds a b)])
  | .ref l => match S3[l]? with
    | some (.lst ds) => okR (.ref S3.length) (S3 ++ [.lst (cutD ds a b)])
    | _ => none
  | _ => none
theorem sIx_whole {n : Nat} {lo hi : Option Int} (h : HT.sIx n 0 lo = 0 ∧ HT.sIx n n hi = n) {α : Type} (xs : List α) (hx : xs.length = n) : cutD xs lo hi = xs := by
  subst hx
  unfold cutD
  rw [h.1, h.2]
  simp
theorem new_list {K : PySem.W.Frag} {XW : Value → Option Addr → Hp → Prop} {mu : Nat → Addr} {S : Store} {H : Hp} {p : Addr} {vs : List V} {ds : List D} {Q : VK} (R : Rel K C mu S H) (hp : H p = none) (hd : RDs K mu S.length H vs ds)
    (q : PostG K C XW mu S.length H (QD K) (okR (.ref S.length) (S ++ [.lst ds])) Q) : Q (.ref p) (upd H p (.lst vs)) := by
  have R1 := R.new (o := .lst vs) hp
  have hf : ∀ l, l < S.length → mu l ≠ p := fun l hl e => by
    obtain ⟨u, hu, _⟩ := R.at hl
    rw [e, hp] at hu; cases hu
  have R2 := R1.take hf (o := .lst ds) ⟨vs, upd_same, hd.mono R (.new hp)⟩
  have x : Ext mu S.length H (muUp mu S.length p) (S.length + 1) (upd H p (.lst vs)) := (Ext.new hp).take hp
  have z : RD K (muUp mu S.length p) (S ++ [SO.lst ds]).length (upd H p (.lst vs)) (.ref (muUp mu S.length p S.length)) (.ref S.length) := .ref (by simp)
  rw [muUp_same] at z
  exact q _ _ _ R2 (by simpa using x) z
def rSlX (K : PySem.W.Frag) : V → Option Int → Option Int → Hp → VK → Prop := fun x lo hi H Q => rSlL K x lo hi H Q ∨ rSlA K x lo hi H Q
theorem se_slice {e : Expr} {lo hi : Option Expr} {f : EF D} {a b : OF} {pos p2 : Pos} (he : SE X C W e f) (hl : SO' X C W lo a) (hh : SO' X C W hi b) : SE X C W (.Subscript e (.Slice lo hi none p2) pos) (fSl f a b) := by
  refine ⟨PE.imp (pe_slice (r := rSlX X.K) (sl_list.or sl_tupA) he.pe hl.po hh.po) ?_⟩
  rintro σ H Q ⟨mu, S, ρ, R, re, h⟩
  refine ⟨mu, S, ρ, R, re, (PostG.bind (RA := QD X.K) h).mono ?_⟩
  rintro v H1 ⟨mu1, S1, d1, R1, x1, r1, h1⟩
  refine ⟨mu1, S1, ρ, R1, re.mono R x1, (PostG.bind (RA := RO1) h1).mono ?_⟩
  rintro o1 H2 ⟨mu2, S2, o1', R2, x2, rfl, h2⟩
  refine ⟨mu2, S2, ρ, R2, (re.mono R x1).mono R1 x2, (PostG.bind (RA := RO1) h2).mono ?_⟩
  rintro o2 H3 ⟨mu3, S3, o2', R3, x3, rfl, h3⟩
  have r3 := (r1.mono R1 x2).mono R2 x3
  cases r3 with
  | @tup p vs ds hs hd =>
    refine .inr ⟨p, vs, rfl, hs, fun w => ?_, fun w q hq => ?_⟩
    · have w' : HT.sIx ds.length 0 o1 = 0 ∧ HT.sIx ds.length ds.length o2 = ds.length := by rw [← RDs.length hd]; exact w
      simp only at h3
      rw [sIx_whole w' ds rfl] at h3
      exact h3.ok R3 (.tup hs hd)
    · exact h3 mu3 _ _ (R3.new hq) (.new hq) (.tup (.inl (.inl upd_same)) ((cut_rd o1 o2 hd).mono R3 (.new hq)))
  | @fl p vs ds hs hd => exact .inl ⟨p, vs, rfl, hs.seq, fun q hq => new_list R3 hq (cut_rd o1 o2 hd) h3⟩
  | @ref l hl' =>
    simp only at h3
    cases e0 : S3[l]? with
    | none => rw [e0] at h3; exact h3.elim
    | some o =>
      rw [e0] at h3
      cases o with
      | ins _ _ => exact h3.elim
      | dic _ _ => exact h3.elim
      | fdic _ _ => exact h3.elim
      | lst ds =>
        obtain ⟨vs, hv, hd⟩ := R3.obj l _ e0
        exact .inl ⟨_, vs, rfl, .of hv, fun q hq => new_list R3 hq (cut_rd o1 o2 hd) h3⟩
  | _ => exact h3.elim
/-- a[b] = .. -/
def gIx (f g : EF D) : GF := fun d ρ S => match f ρ S with
  | some (.ok (.ref l), S1) => match g ρ S1 with
    | some (.ok (.int k), S2) => match S2[l]? with
      | some (.lst ds) => match ixN ds.length k with
        | some j => some (ρ, S2.set l (.lst (ds.set j d)))
        | none => none
      | _ => none
    | _ => none
  | _ => none
theorem sg_ix {o i : Expr} {f g : EF D} {pos : Pos} (ho : SE X C W o f) (hi : SE X C W i g) (ha : ∀ v, assign (.Subscript o i pos) X.env v = (do
      let ov ← holding [v] (eval o X.env)
      let iv ← holding [v, ov] (eval i X.env)
      standAt pos
      holding [v, ov, iv] (setItem ov iv v)
      release [v, ov, iv] []) := by intro _; rfl) : SG X C (.Subscript o i pos) (gIx f g) [] := by
  refine ⟨PG.imp (pg_sub ho.pe hi.pe set_list ha) ?_⟩
  rintro v σ H Q ⟨mu, S, ρ, d, R, re, r, h⟩
  simp only [gIx] at h
  split at h
  · exact h.elim
  · rename_i ρ2 S4 eq
    split at eq
    · rename_i l S1 e1
      split at eq
      · rename_i k S2 e2
        split at eq
        · rename_i ds e3
          split at eq
          · rename_i j e4
            cases eq
            refine ⟨mu, S, ρ, R, re, ?_⟩
            rw [e1]
            intro mu1 H1 v1 R1 x1 r1
            cases r1 with
            | ref hl1 =>
            refine ⟨mu1, S1, ρ, R1, re.mono R x1, ?_⟩
            rw [e2]
            intro mu2 H2 v2 R2 x2 r2
            cases r2 with
            | int k =>
            obtain ⟨vs, hv, hd⟩ := R2.obj l _ e3
            have hl2 : l < S2.length := (List.getElem?_eq_some_iff.mp e3).1
            rw [x2.same l hl1] at hv
            refine ⟨_, vs, k, j, rfl, rfl, hv, by rw [RDs.length hd]; exact e4, ?_⟩
            rw [← x2.same l hl1] at hv ⊢
            have rd2 := (r.mono R x1).mono R1 x2
            have R3 := R2.put hl2 hv (RDs.set rd2 j hd)
            have x3 : Ext mu2 S2.length H2 mu2 S2.length (upd H2 (mu2 l) (.lst (vs.set j v))) := .put hl2 ⟨_, hv, fun _ _ z => by cases z⟩
            have len : (S2.set l (SO.lst (ds.set j d))).length = S2.length := List.length_set
            refine h mu2 _ σ R3 (by rw [len]; exact (x1.trans x2).trans x3) (by rw [len]; exact ((re.mono R x1).mono R1 x2).mono R2 x3) .refl
          · cases eq
        · cases eq
      · cases eq
    · cases eq
/-- xs.append(e) -/
def fApd (f g : EF D) : EF D := fun ρ S => match f ρ S with
  | some (.ok (.ref l), S1) => match S1[l]? with
    | some (.lst _) => bindR (g ρ S1) fun d S2 => match S2[l]? with
      | some (.lst ds) => if ds.length < 16777216 then okR .non (S2.set l (.lst (ds ++ [d]))) else none
      | _ => none
    | _ => none
  | _ => none
theorem se_append {o e : Expr} {f g : EF D} {apos cpos : Pos} (ho : SE X C W o f) (he : SE X C W e g) (hbase : attributeBase o "append" X.env (eval o X.env) = eval o X.env := by rfl)
    (hfew : ((backTo cpos (starEach [e] X.env)).all (fun x => !x.1) && (backToKw cpos (keywordEach [] X.env)).all (fun x => x.1.isSome) && decide ([e].length + ([] : List Keyword).length + (if ([] : List Keyword).isEmpty then 0 else 1) < 30)) = true := by rfl)
    (hline : (apos.endLine == cpos.line) = true := by rfl) (hs : starEach [e] X.env = (false, eval e X.env) :: starEach [] X.env := by rfl) (hplain : (backTo cpos (starEach [] X.env)).any (·.1) = false := by rfl) :
    SE X C W (.Call (.Attribute o "append" apos) [e] [] cpos) (fApd f g) := by
  refine ⟨PE.imp (pe_bm PySem.F.plainAttrs_list PySem.F.slot_list_append PySem.F.type_list_append mt_append ho.pe (pa_cons he.pe pa_nil hs) hbase hfew hline hs hplain) ?_⟩
  rintro σ H Q ⟨mu, S, ρ, R, re, h⟩
  refine ⟨mu, S, ρ, R, re, ?_⟩
  unfold fApd at h
  split at h
  · rename_i l S1 e1
    rw [e1]
    split at h
    · rename_i ds0 e0
      intro mu1 H1 v1 R1 x1 r1
      cases r1 with
      | ref hl1 =>
      obtain ⟨vs0, hv0, hd0⟩ := R1.obj l _ e0
      refine ⟨.inl ⟨rfl, vs0, .of hv0⟩, ?_⟩
      refine ⟨mu1, S1, ρ, R1, re.mono R x1, (PostG.bind (RA := QD X.K) (PostG.trans x1 h)).mono ?_⟩
      rintro v2 H2 ⟨mu2, S2, d2, R2, x2, r2, h2⟩
      split at h2
      · rename_i ds e3
        split at h2
        · rename_i hz
          obtain ⟨vs, hv, hd⟩ := R2.obj l _ e3
          have hl2 : l < S2.length := (List.getElem?_eq_some_iff.mp e3).1
          refine ⟨mu1 l, vs, v2, rfl, rfl, by rw [← x2.same l hl1]; exact hv, by rw [sizeLine_16, RDs.length hd]; exact hz, ?_⟩
          rw [← x2.same l hl1]
          have R3 := R2.put hl2 hv (hd.append (.cons r2 .nil))
          have x3 : Ext mu2 S2.length H2 mu2 S2.length (upd H2 (mu2 l) (.lst (vs ++ [v2]))) := .put hl2 ⟨_, hv, fun _ _ z => by cases z⟩
          have len : (S2.set l (SO.lst (ds ++ [d2]))).length = S2.length := List.length_set
          exact h2 mu2 _ .non R3 (by rw [len]; exact x3) .non
        · exact h2.elim
      · exact h2.elim
    · exact h.elim
  · exact h.elim
/-! ### lists joined, repeated -/
theorem new_fresh {K : PySem.W.Frag} {XW : Value → Option Addr → Hp → Prop} {mu0 mu : Nat → Addr} {n0 : Nat} {S : Store} {H0 H : Hp} {vs : List V} {ds : List D} {Q : VK} {q : Addr} (R : Rel K C mu S H) (x : Ext mu0 n0 H0 mu S.length H) (hq : H q = none) (hd : RDs K mu S.length H vs ds)
    (h : PostG K C XW mu0 n0 H0 (RL K) (okR ds S) Q) : Q (.ref q) (upd H q (.lst vs)) := by
  refine h mu _ _ (R.new hq) (x.trans (.new hq)) ⟨q, vs, rfl, upd_same, hd.mono R (.new hq), fun l hl e => ?_, ?_⟩
  · obtain ⟨u, hu, _⟩ := R.at hl
    rw [e, hq] at hu; cases hu
  · cases e : H0 q with
    | none => rfl
    | some o =>
      obtain ⟨o', e'⟩ := x.keep q o e
      rw [hq] at e'; cases e'
/-! ### in, not in -/
/-- xs.index(x) of a list -/
def findEq (a : PyData) : List PyData → Nat → Option Nat
  | [], _ => none
  | z :: r, k => if PyData.eqv z a = true then some k else findEq a r (k + 1)
theorem findEq_of {a : PyData} : ∀ {ds : List PyData} {k j : Nat}, findEq a ds k = some j → ∃ i z, j = k + i ∧ ds[i]? = some z ∧ PyData.eqv z a = true ∧ ∀ m z', m < i → ds[m]? = some z' → PyData.eqv z' a = false
  | [], _, _, h => by cases h
  | z :: r, k, j, h => by
    unfold findEq at h
    split at h
    · rename_i e
      cases h
      exact ⟨0, z, rfl, rfl, e, fun m _ hm => absurd hm (Nat.not_lt_zero m)⟩
    · rename_i e
      obtain ⟨i, z1, h1, h2, h3, h4⟩ := findEq_of h
      refine ⟨i + 1, z1, by omega, by simpa using h2, h3, fun m z' hm hz => ?_⟩
      cases m with
      | zero => simp at hz; subst hz; simpa using e
      | succ m => exact h4 m z' (by omega) (by simpa using hz)
def fIdx (f g : EF D) : EF D := fun ρ S => bindR (f ρ S) fun d S1 => match d with
  | .ref l => match S1[l]? with
    | some (.lst _) => bindR (g ρ S1) fun e S2 => match pyD S2 60 (.ref l), pyD S2 60 e with
      | some (.list as), some a => match findEq a as 0 with
        | some j => okR (.int (j : Nat)) S2
        | none => none
      | _, _ => none
    | _ => none
  | _ => none
theorem se_index {o e : Expr} {f g : EF D} {apos cpos : Pos} (hu : X.A.units + 65 < cLine) (ho : SE X C W o f) (he : SE X C W e g) (hbase : attributeBase o "index" X.env (eval o X.env) = eval o X.env := by rfl)
    (hfew : ((backTo cpos (starEach [e] X.env)).all (fun x => !x.1) && (backToKw cpos (keywordEach [] X.env)).all (fun x => x.1.isSome) && decide ([e].length + ([] : List Keyword).length + (if ([] : List Keyword).isEmpty then 0 else 1) < 30)) = true := by rfl)
    (hline : (apos.endLine == cpos.line) = true := by rfl) (hs : starEach [e] X.env = (false, eval e X.env) :: starEach [] X.env := by rfl) (hplain : (backTo cpos (starEach [] X.env)).any (·.1) = false := by rfl) :
    SE X C W (.Call (.Attribute o "index" apos) [e] [] cpos) (fIdx f g) := by
  refine ⟨PE.imp (pe_bm PySem.F.plainAttrs_list PySem.F.slot_list_index PySem.F.type_list_index (mt_indexD hu) ho.pe (pa_cons he.pe pa_nil hs) hbase hfew hline hs hplain) ?_⟩
  rintro σ H Q ⟨mu, S, ρ, R, re, h⟩
  refine ⟨mu, S, ρ, R, re, (PostG.bind (RA := QD X.K) h).mono ?_⟩
  rintro v1 H1 ⟨mu1, S1, d1, R1, x1, r1, h1⟩
  cases r1 with
  | @ref l hl =>
    simp only at h1
    cases e0 : S1[l]? with
    | none => rw [e0] at h1; exact h1.elim
    | some ob =>
      rw [e0] at h1
      cases ob with
      | ins _ _ => exact h1.elim
      | dic _ _ => exact h1.elim
      | fdic _ _ => exact h1.elim
      | lst ds0 =>
        obtain ⟨vs0, hv0, hd0⟩ := R1.obj l _ e0
        refine ⟨.inl ⟨rfl, vs0, .of hv0⟩, ?_⟩
        refine ⟨mu1, S1, ρ, R1, re.mono R x1, (PostG.bind (RA := QD X.K) h1).mono ?_⟩
        rintro v2 H2 ⟨mu2, S2, d2, R2, x2, r2, h2⟩
        split at h2
        · rename_i as a e1 e2
          cases e3 : findEq a as 0 with
          | none => rw [e3] at h2; exact h2.elim
          | some j =>
            rw [e3] at h2
            obtain ⟨i, z, rfl, q1, q2, q3⟩ := findEq_of e3
            have rl : RD X.K mu2 S2.length H2 (.ref (mu1 l)) (.ref l) := by
              rw [← x2.same l hl]
              exact .ref (Nat.lt_of_lt_of_le hl x2.le)
            obtain ⟨a1, a2, a3⟩ := pyD_dp R2 60 rl e1
            obtain ⟨b1, b2, b3⟩ := pyD_dp R2 60 r2 e2
            refine ⟨mu1 l, v2, a, as, i, z, rfl, rfl, a1, b1, shaped_of a2 a3 (by decide), shaped_of b2 b3 (by decide), q1, q2, q3, ?_⟩
            rw [Nat.zero_add] at h2
            exact h2.ok R2 (.int _)
        · exact h2.elim
  | _ => exact h1.elim
end
end Sh

set_option Elab.async false
set_option linter.all false
set_option maxRecDepth 100000
set_option maxHeartbeats 4000000
set_option autoImplicit false
namespace Sh
open PySem PySem.Spec PyProof.Rows L2

/-! ### kinds -/
def kindO (d : D) (S : Store) : Option String := match d with
  | .non => some "NoneType"
  | .bl _ => some "bool"
  | .int _ => some "int"
  | .str _ => some "str"
  | .tup _ => some "tuple"
  | .fl _ => some "list"
  | .ref l => match S[l]? with
    | some (.lst _) => some "list"
    | _ => none
  | .rng _ _ _ => none
  | .gd _ => none
section
variable {K : PySem.W.Frag} {C : Cls0} {mu : Nat → Addr} {S : Store} {H : Hp}
theorem sqT_tyx {a : Addr} {vs : List V} (h : SqT K H a vs) : TyX K H (.ref a) (.type "tuple") := by
  rcases h with (h | ⟨o, h⟩) | ⟨o, its, n, hk, hc, _⟩
  · exact .base (.tup h)
  · exact .fTuple h
  · exact .kTuple hk hc
theorem fzL_tyx {a : Addr} {vs : List V} (h : FzL K H a vs) : TyX K H (.ref a) (.type "list") := by
  rcases h with ⟨o, h⟩ | ⟨o, its, n, hk, hc, _⟩
  · exact .base (.frz h)
  · exact .kList hk hc
theorem kind_tyx {d : D} {v : V} {T : String} (R : Rel K C mu S H) (r : RD K mu S.length H v d) (e : kindO d S = some T) : TyX K H v (.type T) ∧ TyB K H v T := by
  cases r with
  | non => cases e; exact ⟨.base .non, .non⟩
  | bl b => cases e; exact ⟨.base (.bl b), .bl b⟩
  | int i => cases e; exact ⟨.base (.int i), .int i⟩
  | str x => cases e; exact ⟨.base (.str x), .str x⟩
  | tup hs hd => cases e; exact ⟨sqT_tyx hs, .tup hs⟩
  | fl hs hd => cases e; exact ⟨fzL_tyx hs, .lst hs.seq⟩
  | rng _ => cases e
  | gd _ => cases e
  | @ref l hl =>
    simp only [kindO] at e
    cases e0 : S[l]? with
    | none => rw [e0] at e; cases e
    | some o =>
      rw [e0] at e
      cases o with
      | ins _ _ => cases e
      | dic _ _ => cases e
      | fdic _ _ => cases e
      | lst ds =>
        cases e
        obtain ⟨vs, hv, _⟩ := R.obj l _ e0
        exact ⟨.base (.lst hv), .lst (.of hv)⟩
end
/-- isinstance(x, T) -/
def pIsi (T : String) : P1 := fun d S => match kindO d S with
  | some t => match kitB t T with
    | some b => okR (.bl b) S
    | none => none
  | none => none
section
variable {X : Cx} {C : Cls0} {W : Wx}
theorem se_isi {p p2 pos : Pos} {e : Expr} {f : EF D} {T : Str} {TS : String} (hm : X.mg "isinstance" = none) (hmT : X.mg T = none) (hT : bootBuiltins T = some (.type TS)) (ha : SE X C W e f) (hg : Gl X "isinstance" := by rfl) (hgT : Gl X T := by rfl)
    (hnT : T ≠ "__name__" := by decide) (hdT : (T == ("__debug__" : Str)) = false := by decide) (he : starEach [e, .Name T p2] X.env = (false, eval e X.env) :: starEach [.Name T p2] X.env := by rfl) (he2 : starEach [.Name T p2] X.env = (false, eval (.Name T p2) X.env) :: starEach [] X.env := by rfl)
    (hpl : (backTo pos (starEach [.Name T p2] X.env)).any (·.1) = false := by rfl) : SE X C W (.Call (.Name "isinstance" p) [e, .Name T p2] [] pos) (fUn (pIsi TS) f) := by
  have pT : PE X (.Name T p2) (tC (.ty TS)) := pe_bltn hgT hmT hT rfl hnT hdT
  refine ⟨PE.imp (pe_callB call_isi hg hm PyProof.Rows.boot_isinstance (pa_cons ha.pe (pa_cons pT pa_nil he2) he) (by decide) (by decide) he hpl) ?_⟩
  rintro σ H Q ⟨mu, S, ρ, R, re, h⟩
  refine ⟨mu, S, ρ, R, re, (PostG.bind (RA := QD X.K) h).mono ?_⟩
  rintro v H1 ⟨mu1, S1, d1, R1, x1, r1, h1⟩
  unfold pIsi at h1
  cases e1 : kindO d1 S1 with
  | none => rw [e1] at h1; exact h1.elim
  | some t =>
    rw [e1] at h1
    simp only at h1
    cases e2 : kitB t TS with
    | none => rw [e2] at h1; exact h1.elim
    | some b =>
      rw [e2] at h1
      exact ⟨v, .ty TS, .type t, .type TS, b, rfl, .ty TS, (kind_tyx R1 r1 e1).1, kit_ty e2, h1.ok R1 (.bl b)⟩
/-- type(x) is T -/
def pTyIs (T : String) : P1 := fun d S => match kindO d S with
  | some t => okR (.bl (decide (t = T))) S
  | none => none
theorem tyIs_read {e : Expr} {f : EF D} {TS : String} {σ : L2.St} {H : Hp} {Q : VK} (h : TE' X.K C W (fUn (pTyIs TS) f) σ H Q) :
    tOp (fun x y H Q => ∃ a b, x = .ty a ∧ y = .ty b ∧ Q (.bl (decide (a = b))) H) (tCB (rTyp X.K) (tCons (TE' X.K C W f) tNil)) (tC (.ty TS)) σ H Q := by
  obtain ⟨mu, S, ρ, R, re, h⟩ := h
  refine ⟨mu, S, ρ, R, re, (PostG.bind (RA := QD X.K) h).mono ?_⟩
  rintro v H1 ⟨mu1, S1, d1, R1, x1, r1, h1⟩
  unfold pTyIs at h1
  cases e1 : kindO d1 S1 with
  | none => rw [e1] at h1; exact h1.elim
  | some t =>
    rw [e1] at h1
    exact ⟨v, t, rfl, (kind_tyx R1 r1 e1).2, t, TS, rfl, rfl, h1.ok R1 (.bl _)⟩
theorem se_tyIs {p p2 pos pos2 : Pos} {e : Expr} {f : EF D} {T : Str} {TS : String} (hm : X.mg "type" = none) (hmT : X.mg T = none) (hT : bootBuiltins T = some (.type TS)) (ha : SE X C W e f) (hg : Gl X "type" := by rfl) (hgT : Gl X T := by rfl)
    (hnT : T ≠ "__name__" := by decide) (hdT : (T == ("__debug__" : Str)) = false := by decide) (he : starEach [e] X.env = (false, eval e X.env) :: starEach [] X.env := by rfl)
    (hpl : (backTo pos (starEach [] X.env)).any (·.1) = false := by rfl) (hmk : behindInMarks .Is (.Name T p2) = false := by first | exact nomark _ | rfl) : SE X C W (.Compare (.Call (.Name "type" p) [e] [] pos) [.Is] [.Name T p2] pos2) (fUn (pTyIs TS) f) := by
  have pT : PE X (.Name T p2) (tC (.ty TS)) := pe_bltn hgT hmT hT rfl hnT hdT
  exact ⟨PE.imp (pe_cmpR op_isTyB (pe_callTy call_type1 hg hm PyProof.Rows.boot_type (pa_cons ha.pe pa_nil he) (by decide) (by decide) he hpl) pT hmk) fun σ H Q h => tyIs_read (e := e) h⟩
/-! ### repr -/
def reprO (d : D) (S : Store) : Option Str := match pyD S 60 d with
  | some a => if a.showable = true ∧ a.hasDict = false ∧ a.shown.length ≤ 16777216 then some a.shown else none
  | none => none
def pRepr : P1 := fun d S => match reprO d S with
  | some x => okR (.str x) S
  | none => none
def rReprD (K : PySem.W.Frag) : List V → Hp → VK → Prop := fun xs H Q => ∃ x d, xs = [x] ∧ Dp K H x d ∧ d.showable = true ∧ d.hasDict = false ∧ d.depth ≤ 60 ∧ d.shown.length ≤ sizeLine ∧ Q (.str d.shown) H
theorem call_reprD {k : Nat} (hr : RoomG k X.A) : CallR X (.builtin "repr") (rReprD X.K) := by
  intro pins s σ H vs us Q I r h
  obtain ⟨x, d, rfl, hd, hs, hn, hdp, hz, q⟩ := h
  obtain ⟨u, rfl, rx⟩ := vals1 r
  obtain ⟨as, rd⟩ := Dp.reads I d x u hd rx
  have un := hr.room.un
  cases rd with
  | none => exact P.repr_of_none ⟨.str "None", H, I.tok _, ⟨_, rfl⟩, by simpa [PyData.shown] using q⟩
  | bool b =>
    refine P.repr_of_bool ⟨.str _, H, I.tok _, ⟨_, rfl⟩, ?_⟩
    simpa [PyData.shown] using q
  | int i t =>
    have hi : i.natAbs.log2 < 1920 := by simpa [PyData.showable] using hs
    refine P.repr_of_int hi ⟨.str _, H, I.tok _, ⟨_, rfl⟩, ?_⟩
    simpa [PyData.shown] using q
  | str z t =>
    refine P.repr_of_str ⟨.str _, H, I.tok _, ⟨_, rfl⟩, ?_⟩ (by simpa [PyData.shown] using hz)
    simpa [PyData.shown] using q
  | list h1 h2 h3 h4 =>
    exact repr_of_reads' (.list h1 h2 h3 h4) hs (PyData.noDict_hsm hn) hr.gd (by omega) (fun _ _ e => e) (fun h' u' tk hk => ⟨.str _, H, I.kept hk, ⟨_, rfl⟩, q⟩) hz
  | tuple h1 h2 h3 h4 =>
    exact repr_of_reads' (.tuple h1 h2 h3 h4) hs (PyData.noDict_hsm hn) hr.gd (by omega) (fun _ _ e => e) (fun h' u' tk hk => ⟨.str _, H, I.kept hk, ⟨_, rfl⟩, q⟩) hz
  | dict _ _ _ _ _ => cases hd
theorem sv_repr {K : PySem.W.Frag} : SrvL K C (rReprD K) (p1L pRepr) := srvL1 fun XW mu S H x d Q R r q => by
  unfold pRepr reprO at q
  cases e : pyD S 60 d with
  | none => rw [e] at q; exact q.elim
  | some a =>
    rw [e] at q
    simp only at q
    by_cases hz : a.showable = true ∧ a.hasDict = false ∧ a.shown.length ≤ 16777216
    · rw [if_pos hz] at q
      obtain ⟨h1, h2, h3⟩ := pyD_dp R 60 r e
      exact ⟨x, a, rfl, h1, hz.1, hz.2.1, h3, by rw [sizeLine_16]; exact hz.2.2, q.ok R (.str _)⟩
    · rw [if_neg hz] at q; exact q.elim
end
/-! ### errors of the program's own -/
/-- the classes, where the module has them -/
def CM (w : World) (mg : Str → Option Value) : Cls0 := ⟨fun x A => mg x = some (.ref A), w⟩
/-- __init__(self, f): self.f = f -/
def spI (K : PySem.W.Frag) (f : Str) : Sp := fun vs H Q _ => ∃ (a Ca : Addr) (v : V), vs = [.ref a, v] ∧ OexC K Ca ∧ PySem.W.findIn K (.ref Ca) f = some none ∧ H a = some (exo a Ca none) ∧
  ∀ dx, H dx = none → dx ≠ a → Q .non (upd (upd H dx (exd dx [(f, v)])) a (exo a Ca (some dx)))
theorem exc_init {P : Program} {w : World} {K : PySem.W.Frag} {mg : Str → Option Value} {base : Heap} {qual f : Str} {st : Stmt} {fI : Addr} {fd : FuncData} {p1 p2 p3 p4 : Pos} (F : Fun K "__init__" qual st fI fd) (Sc : FnScope ["self", f] ["self", f] (defScope st))
    (hb : defBody st = [.Assign [.Attribute (.Name "self" p1) f p2] (.Name f p3) p4]) (hd : (f == ("__debug__" : Str)) = false := by decide) (hcd : (f == ("__classdict__" : Str)) = false := by decide) : FnOk P w K mg base CX0 1 fI fd ["self", f] (spI K f) := by
  refine F.ok Sc (fun vs H Q E h => ?_) (fun cdv A outer s H vs Q E hr h => ?_)
  · obtain ⟨a, Ca, v, rfl, _⟩ := h
    rfl
  · obtain ⟨a, Ca, v, rfl, T, hno, ha, q⟩ := h
    rw [hb]
    have v0 : (defScope st).names.lookup ("self" : Str) = some NameKind.local ∨ (defScope st).names.lookup ("self" : Str) = some NameKind.cell ∨ (defScope st).names.lookup ("self" : Str) = some NameKind.free := (Sc.par "self" (by simp)).elim .inl fun z => .inr (.inl z)
    have v1 : (defScope st).names.lookup f = some NameKind.local ∨ (defScope st).names.lookup f = some NameKind.cell ∨ (defScope st).names.lookup f = some NameKind.free := (Sc.par f (by simp)).elim .inl fun z => .inr (.inl z)
    refine ⟨_, pss_one (ps_ost (pe_var (i := 0) rfl v0) (pe_var (i := 1) rfl v1 hd hcd)), ?_⟩
    exact ⟨v, rfl, .ref a, rfl, a, Ca, rfl, T, hno, .inl ⟨ha, fun dx h1 h2 => q dx h1 h2⟩⟩
structure Exc1 (P : Program) (w : World) (K : PySem.W.Frag) (mg : Str → Option Value) (base : Heap) (x f : Str) : Prop where
  ex : ∃ (A fI : Addr) (fd : FuncData), mg x = some (.ref A) ∧ OexC K A ∧ XfC K A ∧ PySem.W.findIn K (.ref A) f = some none ∧ PySem.W.findIn K (.ref A) "__init__" = some (some (.ref fI)) ∧ PySem.W.typeIn K (.ref fI) = some (.type "function") ∧
    FnOk P w K mg base CX0 1 fI fd ["self", f] (spI K f) ∧ Binds K fd ["self", f] []
section
variable {X : Cx} {W : Wx}
def sRaise (x f : Str) (g : EF D) : SF := fun ρ S => toS ρ (g ρ S) fun d S1 => some (.exn (x, [(f, d)]) ρ, S1)
theorem del_new {H : Hp} {a d : Addr} {C : Addr} {o1 o2 o3 : HO} {o : HO} (ha : H a = none) (hda : d ≠ a) : upd (del (upd (upd (upd H a o1) d o2) a o3) a) d o = upd H d o := by
  funext b
  by_cases hb : b = d
  · subst hb; rw [upd_same, upd_same]
  · rw [upd_ne hb, upd_ne hb]
    by_cases hb2 : b = a
    · subst hb2; rw [del_same, ha]
    · rw [del_ne hb2, upd_ne hb2, upd_ne hb, upd_ne hb2]
theorem ss_raise {x f : Str} {p pos pos2 : Pos} {e : Expr} {g : EF D} {k : Nat} (hc : X.calm = true) (T : Exc1 X.prog X.w X.K X.mg X.base x f) (hr : RoomG (k + 2) X.A) (tk : Takes X W) (ha : SE X (CM X.w X.mg) W e g) (hg : Gl X x := by rfl)
    (hdb : (x == ("__debug__" : Str)) = false := by decide) (he : starEach [e] X.env = (false, eval e X.env) :: starEach [] X.env := by rfl) (hpl : (backTo pos (starEach [] X.env)).any (·.1) = false := by rfl) : SS X (CM X.w X.mg) W (.Raise (some (.Call (.Name x p) [e] [] pos)) none pos2) (sRaise x f g) := by
  obtain ⟨A, fI, fd, gA, oC, xC, hno, iC, tI, F1, bI⟩ := T.ex
  refine ⟨PS.imp (ps_raise hc tk (pmk_oex (ds := []) (dvs := []) oC iC tI F1 (hr.room.mono (by omega)) bI .nil pass0 hg gA (pa_cons ha.pe pa_nil he) hdb he hpl)) ?_⟩
  rintro Dn σ H ⟨mu, S, ρ, R, re, h⟩
  refine ⟨mu, S, ρ, R, re, (PostS.bind (RA := QD X.K) R re h).mono ?_⟩
  rintro v H1 ⟨mu1, S1, d1, R1, x1, re1, r1, h1⟩
  refine ⟨by simp, fun a hn => ⟨a, A, v, rfl, oC, hno, upd_same, fun dx h2 h3 => ⟨rfl, dx, [(f, v)], upd_same, ?_, ?_, ?_⟩⟩⟩
  · rw [upd_ne h3, upd_same]
  · rw [upd_ne h3] at h2; exact h2
  · have hdx : H1 dx = none := by rw [upd_ne h3] at h2; exact h2
    rw [del_new (C := A) hn h3]
    exact h1 mu1 _ A dx [(f, v)] σ (R1.new hdx) (.new hdx) gA upd_same (.cons (r1.mono R1 (.new hdx)) .nil) (re1.mono R1 (.new hdx))
end
/-! ### try: .. except X as e: return .. -/
/-- the caught error -/
def XAt (K : PySem.W.Frag) (C : Cls0) (mu : Nat → Addr) (n : Nat) (H : Hp) (cls : Value) (d : Option Addr) (e : Ex) : Prop := ∃ A dx vs, cls = .ref A ∧ d = some dx ∧ C e.1 A ∧ H dx = some (.xd vs) ∧ RFs K mu n H vs e.2
theorem XAt.mono {K : PySem.W.Frag} {C : Cls0} {mu mu' : Nat → Addr} {n' : Nat} {S : Store} {H H' : Hp} {cls : Value} {d : Option Addr} {e : Ex} (h : XAt K C mu S.length H cls d e) (R : Rel K C mu S H) (x : Ext mu S.length H mu' n' H') : XAt K C mu' n' H' cls d e := by
  obtain ⟨A, dx, vs, h1, h2, h3, h4, h5⟩ := h
  refine ⟨A, dx, vs, h1, h2, h3, x.frame _ _ h4 fun l hl q => ?_, h5.mono R x⟩
  have r := R.obj l S[l] (List.getElem?_eq_getElem hl)
  rw [q] at r
  cases e : S[l] with
  | lst ds => rw [e] at r; obtain ⟨us, e1, _⟩ := r; rw [h4] at e1; cases e1
  | ins c fs => rw [e] at r; obtain ⟨B, dy, us, _, e1, _⟩ := r; rw [h4] at e1; cases e1
  | dic ks ds => rw [e] at r; obtain ⟨u1, us, e1, d, _⟩ := r; rw [h4] at e1; cases e1; rcases d.is with ⟨_, z⟩ | ⟨_, _, _, _, z⟩ <;> cases z
  | fdic ks ds => rw [e] at r; obtain ⟨ob, u1, us, e1, _⟩ := r; rw [h4] at e1; cases e1
def TX' (K : PySem.W.Frag) (C : Cls0) (i : Nat) (a : Addr) (cls : Value) (d : Option Addr) (f : Ex → EF D) : TE := fun σ H Q => ∃ mu S ρ e, Rel K C mu S H ∧ RE K mu S.length H σ ρ ∧ σ[i]? = some (some (.ref a)) ∧ XAt K C mu S.length H cls d e ∧
  PostG K C (fun _ _ _ => False) mu S.length H (QD K) (f e ρ S) Q
def TXA' (K : PySem.W.Frag) (C : Cls0) (i : Nat) (a : Addr) (cls : Value) (d : Option Addr) (f : Ex → EF (List D)) : TA := fun σ H Q => ∃ mu S ρ e, Rel K C mu S H ∧ RE K mu S.length H σ ρ ∧ σ[i]? = some (some (.ref a)) ∧ XAt K C mu S.length H cls d e ∧
  PostG K C (fun _ _ _ => False) mu S.length H (QDs K) (f e ρ S) Q
structure SX (X : Cx) (C : Cls0) (i : Nat) (ex : Expr) (f : Ex → EF D) : Prop where
  pe : ∀ (a : Addr) (oe : Obj) (cls : Value) (d : Option Addr) (pn : List (Addr × Obj)), Zc cls d oe → (∃ vs, oe.data = .fields vs) → PE (X.suite a ((a, oe) :: pn)) ex (TX' X.K C i a cls d f)
structure SXA (X : Cx) (C : Cls0) (i : Nat) (es : List Expr) (f : Ex → EF (List D)) : Prop where
  pa : ∀ (a : Addr) (oe : Obj) (cls : Value) (d : Option Addr) (pn : List (Addr × Obj)), Zc cls d oe → (∃ vs, oe.data = .fields vs) → PA (X.suite a ((a, oe) :: pn)) es (TXA' X.K C i a cls d f)
section
variable {X : Cx} {C : Cls0} {W : Wx} {i : Nat}
theorem sx_of {ex : Expr} {f : EF D} (h : ∀ (a : Addr) (oe : Obj) (pn : List (Addr × Obj)), SE (X.suite a ((a, oe) :: pn)) C W0 ex f) : SX X C i ex (fun _ => f) :=
  ⟨fun a oe cls d pn _ _ => PE.imp (h a oe pn).pe fun σ H Q ⟨mu, S, ρ, e, R, re, _, _, q⟩ => ⟨mu, S, ρ, R, re, q⟩⟩
theorem sxa_nil : SXA X C i [] (fun _ => fNil) := ⟨fun a oe cls d pn _ _ => PA.imp pa_nil fun σ H Q ⟨mu, S, ρ, e, R, re, _, _, q⟩ => q.ok R .nil⟩
theorem sxa_cons {e : Expr} {es : List Expr} {f : Ex → EF D} {g : Ex → EF (List D)} (h1 : SX X C i e f) (h2 : SXA X C i es g) (hs : ∀ (a : Addr) (oe : Obj) (pn : List (Addr × Obj)), starEach (e :: es) (X.suite a ((a, oe) :: pn)).env = (false, eval e (X.suite a ((a, oe) :: pn)).env) :: starEach es (X.suite a ((a, oe) :: pn)).env := by intro _ _ _; rfl) :
    SXA X C i (e :: es) (fun x => fCons (f x) (g x)) := by
  refine ⟨fun a oe cls d pn z1 z2 => PA.imp (pa_cons (h1.pe a oe cls d pn z1 z2) (h2.pa a oe cls d pn z1 z2) (hs a oe pn)) ?_⟩
  rintro σ H Q ⟨mu, S, ρ, x, R, re, hi, hx, h⟩
  refine ⟨mu, S, ρ, x, R, re, hi, hx, (PostG.bind (RA := QD X.K) h).mono ?_⟩
  rintro v H1 ⟨mu1, S1, d1, R1, x1, r1, h1⟩
  refine ⟨mu1, S1, ρ, x, R1, re.mono R x1, hi, hx.mono R x1, (PostG.bind (RA := QDs X.K) h1).mono ?_⟩
  rintro vs H2 ⟨mu2, S2, d2, R2, x2, r2, h2⟩
  exact h2.ok R2 (.cons (r1.mono R1 x2) r2)
theorem sx_tup {es : List Expr} {pos : Pos} {x1} {g : Ex → EF (List D)} (h : SXA X C i es g) : SX X C i (.Tuple es x1 pos) (fun x => fTup (g x)) := by
  refine ⟨fun a oe cls d pn z1 z2 => PE.imp (pe_tup (h.pa a oe cls d pn z1 z2)) ?_⟩
  rintro σ H Q ⟨mu, S, ρ, x, R, re, hi, hx, h⟩
  refine ⟨mu, S, ρ, x, R, re, hi, hx, (PostG.bind (RA := QDs X.K) h).mono ?_⟩
  rintro vs H1 ⟨mu1, S1, d1, R1, x1, r1, h1⟩
  split at h1
  · rename_i hl
    exact ⟨by rw [RDs.length r1, sizeLine_16]; exact hl, fun p hp => h1 mu1 _ _ (R1.new hp) (.new hp) (.tup (.inl (.inl upd_same)) (r1.mono R1 (.new hp)))⟩
  · exact h1.elim
/-- e.f -/
def fFld (names : List Str) (f : Str) : Ex → EF D := fun x _ S => if x.1 ∈ names then match x.2.lookup f with
    | some d => okR d S
    | none => none
  else none
theorem lookup_rf {K : PySem.W.Frag} {mu : Nat → Addr} {n : Nat} {H : Hp} {f : Str} : ∀ {ds : List (Str × D)} {vs : List (Str × V)} {d : D}, RFs K mu n H vs ds → ds.lookup f = some d → ∃ v, vs.lookup f = some v ∧ RD K mu n H v d
  | [], _, _, _, e => by cases e
  | (g, d0) :: ds, _, d, r, e => by
    cases r with
    | cons r1 r2 =>
      by_cases hg : f = g
      · subst hg
        simp [List.lookup] at e
        subst e
        exact ⟨_, by simp [List.lookup], r1⟩
      · have hb : (f == g) = false := by simpa using hg
        simp only [List.lookup, hb] at e ⊢
        exact lookup_rf r2 e
theorem sx_fld {n f : Str} {p pos : Pos} {names : List Str} (hT : ∀ x ∈ names, ∀ A, C x A → XfC X.K A ∧ PySem.W.findIn X.K (.ref A) f = some none) (hN : X.N[i]? = some n := by rfl) (hv : Vis X.env.scope n := by first | exact Or.inl rfl | exact Or.inr (Or.inl rfl) | exact Or.inr (Or.inr rfl)) (hd : (n == ("__debug__" : Str)) = false := by decide)
    (hcd : (n == ("__classdict__" : Str)) = false := by decide) (hb : attributeBase (.Name n p) f X.env (eval (.Name n p) X.env) = eval (.Name n p) X.env := by rfl) : SX X C i (.Attribute (.Name n p) f pos) (fFld names f) := by
  refine ⟨fun a oe cls d pn z1 z2 => ?_⟩
  constructor
  rintro pins s σ H Q I ⟨mu, S, ρ, x, R, re, hi, hx, h⟩
  obtain ⟨A, dx, vs, rfl, rfl, hC, hdx, rf⟩ := hx
  unfold fFld at h
  by_cases hm : x.1 ∈ names
  · rw [if_pos hm] at h
    cases e : x.2.lookup f with
    | none => rw [e] at h; exact h.elim
    | some d =>
      rw [e] at h
      obtain ⟨v, hv1, r⟩ := lookup_rf rf e
      obtain ⟨t1, t2⟩ := hT x.1 hm A hC
      exact (pe_xf (X := X) t1 t2 z1 z2 (pe_var (X := X.suite a ((a, oe) :: pn)) hN hv hd hcd) hb).run pins s σ H Q I ⟨.ref a, hi, rfl, rfl, dx, vs, v, rfl, hdx, hv1, h.ok R r⟩
  · rw [if_neg hm] at h; exact h.elim
end
end Sh

set_option Elab.async false
set_option linter.all false
set_option maxRecDepth 100000
set_option maxHeartbeats 4000000
set_option autoImplicit false
namespace Sh
open PySem PySem.Spec PyProof.Rows L2

/-! ### zip, enumerate -/
abbrev Chk := List (Nat × List D)
section
variable {K : PySem.W.Frag} {C : Cls0} {mu : Nat → Addr} {S : Store} {H : Hp}
end
section
variable {X : Cx} {C : Cls0} {W : Wx}
end

/-! ### comprehensions of two clauses -/
noncomputable def inGo (L : Nat) (g : GF) (t : EF Bool) (f : EF D) (ρ : Rho) (p : List D × Chk) : List D → Store → Rs Unit
  | [], S => if chkOk p S = true then okR () S else none
  | d :: r, S => if chkOk p S = true then
      match g d ρ S with
      | none => none
      | some (ρ2, S2) => bindR (noX (t ρ2 S2)) fun b S3 => if b = true then bindR (noX (f ρ2 S3)) fun y S4 => match S4[L]? with
            | some (.lst acc) => if acc.length < 16777216 then inGo L g t f ρ p r (S4.set L (.lst (acc ++ [y]))) else none
            | _ => none
          else inGo L g t f ρ p r S3
    else none
noncomputable def comp2Go (L : Nat) (g : GF) (t : EF Bool) (it1 : IF) (vs1 : List Nat) (g1 : GF) (t1 : EF Bool) (f : EF D) (ρ : Rho) (p : List D × Chk) : List D → Store → Rs D
  | [], S => if chkOk p S = true then okR (.ref L) S else none
  | d :: r, S => if chkOk p S = true then
      match g d ρ S with
      | none => none
      | some (ρ2, S2) => bindR (noX (t ρ2 S2)) fun b S3 => if b = true then bindR (noX (it1 ρ2 S3)) fun p1 S4 => bindR (noX (inGo L g1 t1 f (wipeR ρ2 vs1) p1 p1.1 S4)) fun _ S5 => comp2Go L g t it1 vs1 g1 t1 f ρ p r S5
          else comp2Go L g t it1 vs1 g1 t1 f ρ p r S3
    else none
noncomputable def fComp2 (it : IF) (vs : List Nat) (g : GF) (t : EF Bool) (it1 : IF) (vs1 : List Nat) (g1 : GF) (t1 : EF Bool) (f : EF D) : EF D := fun ρ S => bindR (it ρ S) fun p S1 => comp2Go S1.length g t it1 vs1 g1 t1 f (wipeR ρ vs) p p.1 (S1 ++ [.lst []])
theorem noX_some {α β : Type} {r : Rs α} {k : α → Store → Rs β} {b : Except Ex β} {S' : Store} (h : bindR (noX r) k = some (b, S')) : ∃ a S1, r = some (.ok a, S1) ∧ k a S1 = some (b, S') := by
  cases r with
  | none => cases h
  | some q =>
    obtain ⟨x, S1⟩ := q
    cases x with
    | error e => cases h
    | ok a => exact ⟨a, S1, rfl, h⟩
theorem inGo_end {L : Nat} {g : GF} {t : EF Bool} {f : EF D} {ρ : Rho} {p : List D × Chk} {S S' : Store} {x : Except Ex Unit} (h : inGo L g t f ρ p [] S = some (x, S')) : chkOk p S = true ∧ S' = S := by
  simp only [inGo] at h
  by_cases hk : chkOk p S = true
  · rw [if_pos hk] at h; cases h; exact ⟨hk, rfl⟩
  · rw [if_neg hk] at h; cases h
theorem inGo_step {L : Nat} {g : GF} {t : EF Bool} {f : EF D} {ρ : Rho} {p : List D × Chk} {d : D} {r : List D} {S S' : Store} {x : Except Ex Unit} (h : inGo L g t f ρ p (d :: r) S = some (x, S')) :
    chkOk p S = true ∧ ∃ ρ2 S2, g d ρ S = some (ρ2, S2) ∧ ∃ b S3, t ρ2 S2 = some (.ok b, S3) ∧
      ((b = false ∧ inGo L g t f ρ p r S3 = some (x, S')) ∨ (b = true ∧ ∃ y S4 acc, f ρ2 S3 = some (.ok y, S4) ∧ S4[L]? = some (.lst acc) ∧ acc.length < 16777216 ∧ inGo L g t f ρ p r (S4.set L (.lst (acc ++ [y]))) = some (x, S'))) := by
  simp only [inGo] at h
  by_cases hk : chkOk p S = true
  · rw [if_pos hk] at h
    refine ⟨hk, ?_⟩
    cases e1 : g d ρ S with
    | none => rw [e1] at h; cases h
    | some q =>
      obtain ⟨ρ2, S2⟩ := q
      rw [e1] at h
      simp only at h
      obtain ⟨b, S3, e2, h⟩ := noX_some h
      refine ⟨ρ2, S2, rfl, b, S3, e2, ?_⟩
      cases b with
      | false => exact .inl ⟨rfl, h⟩
      | true =>
        rw [if_pos rfl] at h
        obtain ⟨y, S4, e3, h⟩ := noX_some h
        split at h
        · rename_i acc e4
          by_cases hz : acc.length < 16777216
          · rw [if_pos hz] at h
            exact .inr ⟨rfl, y, S4, acc, e3, e4, hz, h⟩
          · rw [if_neg hz] at h; cases h
        · cases h
  · rw [if_neg hk] at h; cases h
theorem comp2Go_end {L : Nat} {g : GF} {t : EF Bool} {it1 : IF} {vs1 : List Nat} {g1 : GF} {t1 : EF Bool} {f : EF D} {ρ : Rho} {p : List D × Chk} {S S' : Store} {x : Except Ex D} (h : comp2Go L g t it1 vs1 g1 t1 f ρ p [] S = some (x, S')) : chkOk p S = true ∧ x = .ok (.ref L) ∧ S' = S := by
  simp only [comp2Go] at h
  by_cases hk : chkOk p S = true
  · rw [if_pos hk] at h; cases h; exact ⟨hk, rfl, rfl⟩
  · rw [if_neg hk] at h; cases h
theorem comp2Go_step {L : Nat} {g : GF} {t : EF Bool} {it1 : IF} {vs1 : List Nat} {g1 : GF} {t1 : EF Bool} {f : EF D} {ρ : Rho} {p : List D × Chk} {d : D} {r : List D} {S S' : Store} {x : Except Ex D} (h : comp2Go L g t it1 vs1 g1 t1 f ρ p (d :: r) S = some (x, S')) :
    chkOk p S = true ∧ ∃ ρ2 S2, g d ρ S = some (ρ2, S2) ∧ ∃ b S3, t ρ2 S2 = some (.ok b, S3) ∧
      ((b = false ∧ comp2Go L g t it1 vs1 g1 t1 f ρ p r S3 = some (x, S')) ∨ (b = true ∧ ∃ p1 S4 S5, it1 ρ2 S3 = some (.ok p1, S4) ∧ inGo L g1 t1 f (wipeR ρ2 vs1) p1 p1.1 S4 = some (.ok (), S5) ∧ comp2Go L g t it1 vs1 g1 t1 f ρ p r S5 = some (x, S'))) := by
  simp only [comp2Go] at h
  by_cases hk : chkOk p S = true
  · rw [if_pos hk] at h
    refine ⟨hk, ?_⟩
    cases e1 : g d ρ S with
    | none => rw [e1] at h; cases h
    | some q =>
      obtain ⟨ρ2, S2⟩ := q
      rw [e1] at h
      simp only at h
      obtain ⟨b, S3, e2, h⟩ := noX_some h
      refine ⟨ρ2, S2, rfl, b, S3, e2, ?_⟩
      cases b with
      | false => exact .inl ⟨rfl, h⟩
      | true =>
        rw [if_pos rfl] at h
        obtain ⟨p1, S4, e3, h⟩ := noX_some h
        obtain ⟨_, S5, e4, h⟩ := noX_some h
        exact .inr ⟨rfl, p1, S4, S5, e3, e4, h⟩
  · rw [if_neg hk] at h; cases h
section
variable {X : Cx} {C : Cls0} {W : Wx}
/-- the inner clause -/
theorem in_read {g : GF} {ts : List Nat} {t : EF Bool} {f : EF D} {vs : List Nat} (hv : ∀ i ∈ ts, i ∈ vs) {J : It} {p : List D × Chk} {mu1 : Nat → Addr} {S1 Sf : Store} {H1 : Hp} {σ : L2.St} {ρ : Rho} {L : Nat} {Dd : Addr} {x : Except Ex Unit} {Nx : Hp → Prop}
    (R1 : Rel X.K C mu1 S1 H1) (re1 : RE X.K mu1 S1.length H1 σ ρ) (ig : ItG X.K C J p.1 p.2 mu1 S1.length H1) (hL : L < S1.length) (eL : mu1 L = Dd) (er : inGo L g t f (wipeR ρ vs) p p.1 S1 = some (x, Sf))
    (hE : ∀ mu H, Rel X.K C mu Sf H → Ext mu1 S1.length H1 mu Sf.length H → Nx H) :
    ∃ W1 : Nat → Nat → Hp → Prop, (∃ m, W1 0 m H1) ∧ ∀ j k H, W1 j k H →
      (J.stop j H ∧ Nx H) ∨ (J.go j H ∧ ∃ Nx1 : Hp → Prop, (∀ H', Nx1 H' → ∃ k', k' < k ∧ W1 (j + 1) k' H') ∧ ∀ x H', J.yld j H x H' → TG' X.K C g ts x (wipe σ vs) H' fun σ3 H5 => wipe σ3 vs = wipe σ vs ∧ TT' X.K C W0 t σ3 H5 fun b H6 =>
        if b = true then TE' X.K C W0 f σ3 H6 fun y H7 => ∃ acc, H7 Dd = some (.lst acc) ∧ acc.length < sizeLine ∧ Nx1 (upd H7 Dd (.lst (acc ++ [y]))) else Nx1 H6) := by
  refine ⟨fun i m H => i ≤ p.1.length ∧ m = p.1.length - i ∧ ∃ mu S, Rel X.K C mu S H ∧ Ext mu1 S1.length H1 mu S.length H ∧ inGo L g t f (wipeR ρ vs) p (p.1.drop i) S = some (x, Sf),
    ⟨p.1.length, Nat.zero_le _, by simp, mu1, S1, R1, .refl, by simpa using er⟩, ?_⟩
  rintro i m H2 ⟨hi', rfl, mu2, S2, R2, x2, h2⟩
  by_cases hlt : i < p.1.length
  · right
    rw [List.drop_eq_getElem_cons hlt] at h2
    obtain ⟨hk, ρ4, S4, e1, b0, S5, e2, h3⟩ := inGo_step h2
    have ck := chkOk_of hk
    refine ⟨ig.go mu2 S2 H2 i R2 x2 ck hlt, fun H' => i + 1 ≤ p.1.length ∧ ∃ mu S, Rel X.K C mu S H' ∧ Ext mu1 S1.length H1 mu S.length H' ∧ inGo L g t f (wipeR ρ vs) p (p.1.drop (i + 1)) S = some (x, Sf),
      fun H' ⟨q1, q2⟩ => ⟨p.1.length - (i + 1), by omega, q1, rfl, q2⟩, fun x H3 y => ?_⟩
    obtain ⟨d, e, R3, x3, r3⟩ := ig.yld mu2 S2 H2 i x H3 R2 x2 ck hlt y
    rw [List.getElem?_eq_getElem hlt] at e
    cases e
    have re3 : RE X.K mu2 S2.length H3 (wipe σ vs) (wipeR ρ vs) := (re1.mono R1 (x2.trans x3)).wipe vs
    refine ⟨mu2, S2, wipeR ρ vs, _, R3, re3, r3, ?_⟩
    rw [e1]
    intro mu4 H4 σ4 R4 x4 re4 tc
    refine ⟨(tc.wipe hv).trans (wipe_idem σ vs), mu4, S4, ρ4, R4, re4, ?_⟩
    rw [e2]
    rintro mu5 H5 b R5 x5 r5
    obtain rfl : b = b0 := r5
    have x15 := x2.trans ((x3.trans x4).trans x5)
    rcases h3 with ⟨rfl, h3⟩ | ⟨rfl, y0, S6, acc, e3, eA, hz, h3⟩
    · exact ⟨hlt, mu5, S5, R5, x15, h3⟩
    · rw [if_pos rfl]
      refine ⟨mu5, S5, ρ4, R5, re4.mono R4 x5, ?_⟩
      rw [e3]
      rintro mu6 H6 v R6 x6 r6
      have x16 := x15.trans x6
      have eL6 : mu6 L = Dd := (x16.same L hL).trans eL
      have hL6 : L < S6.length := Nat.lt_of_lt_of_le hL x16.le
      obtain ⟨us, eD, rd⟩ := R6.obj L _ eA
      rw [eL6] at eD
      refine ⟨us, eD, by rw [sizeLine_16, RDs.length rd]; exact hz, hlt, mu6, S6.set L (.lst (acc ++ [y0])), ?_, ?_, h3⟩
      · rw [← eL6] at eD ⊢
        exact R6.put hL6 eD (rd.append (.cons r6 .nil))
      · rw [List.length_set, ← eL6]
        exact x16.trans (.put hL6 ⟨_, by rw [eL6]; exact eD, fun _ _ z => by cases z⟩)
  · left
    have e : i = p.1.length := by omega
    subst e
    rw [List.drop_length] at h2
    obtain ⟨hk, rfl⟩ := inGo_end h2
    exact ⟨ig.stop mu2 _ H2 R2 x2 (chkOk_of hk), hE mu2 H2 R2 x2⟩
theorem comp2_read {it it1 : IF} {g g1 : GF} {ts ts1 : List Nat} {t t1 : EF Bool} {f : EF D} {vs vs1 : List Nat} (hv : ∀ i ∈ ts, i ∈ vs) (hv1 : ∀ i ∈ ts1, i ∈ vs1) {σ : L2.St} {H : Hp} {Q : VK} (h : TE' X.K C W (fComp2 it vs g t it1 vs1 g1 t1 f) σ H Q) :
    tLc2 (TI' X.K C W it) (TG' X.K C g ts) (TT' X.K C W0 t) (TI' X.K C W0 it1) (TG' X.K C g1 ts1) (TT' X.K C W0 t1) (TE' X.K C W0 f) vs vs1 σ H Q := by
  obtain ⟨mu, S, ρ, R, re, h⟩ := h
  refine ⟨mu, S, ρ, R, re, (PostG.bind (RA := RI X.K C) h).mono ?_⟩
  rintro J H1 ⟨mu1, S1, p, R1, x1, ig, h1⟩
  intro D hD
  have re1 := re.mono R x1
  have hf1 : ∀ l, l < S1.length → mu1 l ≠ D := fun l hl e => by
    obtain ⟨u, hu, _⟩ := R1.at hl
    rw [e, hD] at hu; cases hu
  have RD0 : Rel X.K C (muUp mu1 S1.length D) (S1 ++ [SO.lst []]) (upd H1 D (.lst [])) := (R1.new hD).take hf1 ⟨[], upd_same, .nil⟩
  have xD0 : Ext mu1 S1.length H1 (muUp mu1 S1.length D) (S1 ++ [SO.lst []]).length (upd H1 D (.lst [])) := by
    have z := (Ext.new (mu := mu1) (n := S1.length) (o := .lst []) hD).take hD
    simpa using z
  cases er : comp2Go S1.length g t it1 vs1 g1 t1 f (wipeR ρ vs) p p.1 (S1 ++ [SO.lst []]) with
  | none => rw [er] at h1; exact h1.elim
  | some q =>
  obtain ⟨res, Sf⟩ := q
  rw [er] at h1
  refine ⟨fun i m H => i ≤ p.1.length ∧ m = p.1.length - i ∧ ∃ mu S, Rel X.K C mu S H ∧ Ext mu1 S1.length H1 mu S.length H ∧ S1.length < S.length ∧ mu S1.length = D ∧ comp2Go S1.length g t it1 vs1 g1 t1 f (wipeR ρ vs) p (p.1.drop i) S = some (res, Sf),
    ⟨p.1.length, Nat.zero_le _, by simp, _, _, RD0, xD0, by simp, muUp_same, by simpa using er⟩, ?_⟩
  rintro i m H2 ⟨hi', rfl, mu2, S2, R2, x2, hL2, eL2, h2⟩
  by_cases hlt : i < p.1.length
  · right
    rw [List.drop_eq_getElem_cons hlt] at h2
    obtain ⟨hk, ρ4, S4, e1, b0, S5, e2, h3⟩ := comp2Go_step h2
    have ck := chkOk_of hk
    refine ⟨ig.go mu2 S2 H2 i R2 x2 ck hlt, fun H' => i + 1 ≤ p.1.length ∧ ∃ mu S, Rel X.K C mu S H' ∧ Ext mu1 S1.length H1 mu S.length H' ∧ S1.length < S.length ∧ mu S1.length = D ∧ comp2Go S1.length g t it1 vs1 g1 t1 f (wipeR ρ vs) p (p.1.drop (i + 1)) S = some (res, Sf),
      fun H' ⟨q1, q2⟩ => ⟨p.1.length - (i + 1), by omega, q1, rfl, q2⟩, fun x H3 y => ?_⟩
    obtain ⟨d, e, R3, x3, r3⟩ := ig.yld mu2 S2 H2 i x H3 R2 x2 ck hlt y
    rw [List.getElem?_eq_getElem hlt] at e
    cases e
    have re3 : RE X.K mu2 S2.length H3 (wipe σ vs) (wipeR ρ vs) := (re1.mono R1 (x2.trans x3)).wipe vs
    refine ⟨mu2, S2, wipeR ρ vs, _, R3, re3, r3, ?_⟩
    rw [e1]
    intro mu4 H4 σ4 R4 x4 re4 tc
    refine ⟨(tc.wipe hv).trans (wipe_idem σ vs), mu4, S4, ρ4, R4, re4, ?_⟩
    rw [e2]
    rintro mu5 H5 b R5 x5 r5
    obtain rfl : b = b0 := r5
    have x25 := (x3.trans x4).trans x5
    have x15 := x2.trans x25
    have hL5 := Nat.lt_of_lt_of_le hL2 x25.le
    have eL5 := (x25.same _ hL2).trans eL2
    rcases h3 with ⟨rfl, h3⟩ | ⟨rfl, p1, S6, S7, e3, e4, h3⟩
    · exact ⟨hlt, mu5, S5, R5, x15, hL5, eL5, h3⟩
    · rw [if_pos rfl]
      have re5 := re4.mono R4 x5
      refine ⟨mu5, S5, ρ4, R5, re5, ?_⟩
      rw [e3]
      rintro mu6 H6 J1 R6 x6 ig6
      have hL6 := Nat.lt_of_lt_of_le hL5 x6.le
      have eL6 := (x6.same _ hL5).trans eL5
      refine in_read (X := X) hv1 R6 (re5.mono R5 x6) ig6 hL6 eL6 e4 fun mu7 H7 R7 x7 => ?_
      exact ⟨hlt, mu7, S7, R7, (x15.trans x6).trans x7, Nat.lt_of_lt_of_le hL6 x7.le, (x7.same _ hL6).trans eL6, h3⟩
  · left
    have e : i = p.1.length := by omega
    subst e
    rw [List.drop_length] at h2
    obtain ⟨hk, rfl, rfl⟩ := comp2Go_end h2
    refine ⟨ig.stop mu2 _ H2 R2 x2 (chkOk_of hk), h1 mu2 H2 (.ref D) R2 x2 ?_⟩
    have z : RD X.K mu2 Sf.length H2 (.ref (mu2 S1.length)) (.ref S1.length) := .ref hL2
    rw [eL2] at z
    exact z
/-- [elt for tg in iter if .. for tg1 in iter1 if ..] -/
theorem se_comp2 {elt tg iter tg1 iter1 : Expr} {ifs ifs1 : List Expr} {scope : Scope} {own : List (Str × Nat)} (vs1 : List Nat) {pos : Pos} {it it1 : IF} {g g1 : GF} {ts ts1 : List Nat} {t t1 : EF Bool} {f : EF D} (hc : X.calm = true) (hN : X.N.Nodup) (hi : SI X C W tg iter it) (ok : BlkOk X.N X.env.scope scope own)
    (hg : ∀ (s : Shared) (H : Hp) (C1 : Addr) (cl : List (Str × Addr)) (fp : List Addr), SG (X.blk s H scope (compEnvC scope cl C1 X.env) fp) C tg g ts) (ht : ∀ (s : Shared) (H : Hp) (C1 : Addr) (cl : List (Str × Addr)) (fp : List Addr), STs (X.blk s H scope (compEnvC scope cl C1 X.env) fp) C ifs t)
    (hi1 : ∀ (s : Shared) (H : Hp) (C1 : Addr) (cl : List (Str × Addr)) (fp : List Addr), SI (X.blk s H scope (compEnvC scope cl C1 X.env) fp) C W0 tg1 iter1 it1)
    (hg1 : ∀ (s : Shared) (H : Hp) (C1 : Addr) (cl : List (Str × Addr)) (fp : List Addr), SG (X.blk s H scope (compEnvC scope cl C1 X.env) fp) C tg1 g1 ts1) (ht1 : ∀ (s : Shared) (H : Hp) (C1 : Addr) (cl : List (Str × Addr)) (fp : List Addr), STs (X.blk s H scope (compEnvC scope cl C1 X.env) fp) C ifs1 t1)
    (he : ∀ (s : Shared) (H : Hp) (C1 : Addr) (cl : List (Str × Addr)) (fp : List Addr), SE (X.blk s H scope (compEnvC scope cl C1 X.env) fp) C W0 elt f) (hs : ∀ x, foldedSetIterable iter X.env x = pure x := by intro _; rfl) (hs1 : ∀ env x, foldedSetIterable iter1 env x = pure x := by intro _ _; rfl)
    (hv : ∀ i ∈ ts, i ∈ own.map (·.2) := by decide) (hv1 : ∀ i ∈ ts1, i ∈ vs1 := by decide) (hv2 : ∀ i ∈ vs1, i ∈ own.map (·.2) := by decide) :
    SE X C W (.ListComp elt [⟨tg, iter, ifs, 0⟩, ⟨tg1, iter1, ifs1, 0⟩] scope pos) (fComp2 it (own.map (·.2)) g t it1 vs1 g1 t1 f) :=
  ⟨PE.imp (pe_lc2 (te := TE' X.K C W0 f) (tt := TT' X.K C W0 t) (g := TG' X.K C g ts) (wi1 := TI' X.K C W0 it1) (tt1 := TT' X.K C W0 t1) (g1 := TG' X.K C g1 ts1) hc hN hi.pi ok hv2 (fun s H C1 cl fp => (hg s H C1 cl fp).pg) (fun s H C1 cl fp => (ht s H C1 cl fp).pts)
    (fun s H C1 cl fp => (hi1 s H C1 cl fp).pi) (fun s H C1 cl fp => (hg1 s H C1 cl fp).pg) (fun s H C1 cl fp => (ht1 s H C1 cl fp).pts) (fun s H C1 cl fp => (he s H C1 cl fp).pe) hs hs1) fun σ H Q h => comp2_read hv hv1 h⟩
end
end Sh

set_option Elab.async false
set_option linter.all false
set_option maxRecDepth 100000
set_option maxHeartbeats 4000000
set_option autoImplicit false
namespace Sh
open PySem PySem.Spec PyProof.Rows L2

theorem RoomG.u65 {k : Nat} {A : Around} (r : RoomG k A) : A.units + 65 < cLine := by have := r.room.un; omega
theorem RoomG.u64 {k : Nat} {A : Around} (r : RoomG k A) : A.units + 64 < cLine := r.room.units
/-! ### sum, max, min, all, any of tuples -/
section
variable {prog : Program} {w : World} {A : Around} {E : Value → Shared → Prop} {s : Shared} {l : Addr}
theorem iter_tupA {items : Array Value} {Q : Value → Shared → Prop} (hl : s.heap.IsTuple l items)
    (h : ∀ s₂ : Shared, s₂ = { s with heap := s.heap.push { cls := .type "tuple_iterator", data := .fields #[.ref l, .int 0 0] } } →
      (s₂.heap.IsTupleIter s.heap.objs.size l 0 ∧ s₂.heap.IsTuple l items) → (∀ b ∈ [s.heap.objs.size, l], b < s₂.heap.objs.size) → l ≠ s.heap.objs.size → Q (.ref s.heap.objs.size) s₂) :
    wpAny (model prog w) A (pyIter (.ref l)) Q E s := by
  have hlt : l < s.heap.objs.size := by obtain ⟨_, e, _⟩ := hl; exact Heap.lt_size e
  have hp : (s.heap.push { cls := .type "tuple_iterator", data := .fields #[.ref l, .int 0 0] }).IsTuple l items := by
    obtain ⟨o, e1, e2⟩ := hl
    exact ⟨o, Heap.get?_push_of_some _ e1, e2⟩
  refine wpAny_pyIter_tuple hl (h _ rfl ⟨⟨_, Heap.get?_push_size _ rfl, rfl, rfl⟩, hp⟩ (fun b hb => ?_) (Nat.ne_of_lt hlt))
  show b < (s.heap.push _).objs.size
  rw [Heap.size_push]
  have e : b = s.heap.objs.size ∨ b = l := by simpa using hb
  rcases e with e | e
  · rw [e]; exact Nat.lt_succ_self _
  · rw [e]; exact Nat.lt_succ_of_lt hlt
theorem old_keptT {h' : Heap} (hk : ∀ b o, b ∉ [s.heap.objs.size] → (s.heap.push { cls := .type "tuple_iterator", data := .fields #[.ref l, .int 0 0] }).get? b = some o → h'.get? b = some o) :
    ∀ b o, s.heap.get? b = some o → h'.get? b = some o := fun b o e => by
  refine hk b o (fun hm => ?_) (Heap.get?_push_of_some _ e)
  have e1 : b = s.heap.objs.size := by simpa using hm
  exact absurd (e1 ▸ Heap.lt_size e) (Nat.lt_irrefl _)
variable {xs : Array (Int × Tok)}
theorem max_intTup {Q : Value → Shared → Prop} (hh : A.handled = none) (hl : s.heap.IsTuple l (intItems xs)) (hne : 0 < xs.size)
    (h : ∀ v h' tk, (intItems xs)[argBest (fun i j => decide (numAt xs i > numAt xs j)) (xs.size - 1)]? = some v → (∀ b o, s.heap.get? b = some o → h'.get? b = some o) → Q v { s with heap := h', toks := tk }) :
    wpAny (model prog w) A (call (.builtin "max") [.ref l]) Q E s := by
  refine call_max_walk (iter_tupA hl fun s₂ e st hfp hlI => ?_)
  subst e
  refine ⟨_, _, _, _, _, _, _, rfl, Walks.tuple (A := A.in1) hh _ l hlI (intItems xs), st, hfp, by simpa [intItems] using hne, CmpOf.ints_gt (numAt xs) (fun _ _ => intItems_at), fun v h' tk hP hk => ?_⟩
  exact h v h' tk (by simpa [intItems] using hP) (old_keptT hk)
theorem min_intTup {Q : Value → Shared → Prop} (hh : A.handled = none) (hl : s.heap.IsTuple l (intItems xs)) (hne : 0 < xs.size)
    (h : ∀ v h' tk, (intItems xs)[argBest (fun i j => decide (numAt xs i < numAt xs j)) (xs.size - 1)]? = some v → (∀ b o, s.heap.get? b = some o → h'.get? b = some o) → Q v { s with heap := h', toks := tk }) :
    wpAny (model prog w) A (call (.builtin "min") [.ref l]) Q E s := by
  refine call_min_walk (iter_tupA hl fun s₂ e st hfp hlI => ?_)
  subst e
  refine ⟨_, _, _, _, _, _, _, rfl, Walks.tuple (A := A.in1) hh _ l hlI (intItems xs), st, hfp, by simpa [intItems] using hne, CmpOf.ints_lt (numAt xs) (fun _ _ => intItems_at), fun v h' tk hP hk => ?_⟩
  exact h v h' tk (by simpa [intItems] using hP) (old_keptT hk)
variable {its : List Value} {ns : List Int}
theorem maxT_raw {Q : Value → Shared → Prop} (hh : A.handled = none) (hl : s.heap.IsTuple l its.toArray) (hi : IntsAre its ns) (hne : 0 < ns.length)
    (h : ∀ h' tk M t', (∀ b o, s.heap.get? b = some o → h'.get? b = some o) → M ∈ ns → (∀ a, a ∈ ns → a ≤ M) → Q (.int M t') { s with heap := h', toks := tk }) : wpAny (model prog w) A (call (.builtin "max") [.ref l]) Q E s := by
  obtain ⟨xs, e⟩ := hi.allInts.items
  have hn : numsOf (intItems xs).toList = ns := by rw [← e]; exact hi.numsOf
  rw [nums_intItems] at hn
  subst hn
  rw [e] at hl
  have hsz : 0 < xs.size := by simpa using hne
  refine max_intTup hh hl hsz fun v h' tk hv hk => ?_
  obtain ⟨t, rfl⟩ := intItems_at hv
  obtain ⟨h1, h2⟩ := argBest_gt (numAt xs) (xs.size - 1)
  refine h h' tk _ t hk ?_ fun a ha => ?_
  · rw [numAt_eq]; exact PySem.getD_mem (by rw [List.length_map, Array.length_toList]; omega)
  · obtain ⟨j, hj, rfl⟩ := mem_getD ha
    rw [List.length_map, Array.length_toList] at hj
    rw [← numAt_eq]; exact h2 j (by omega)
theorem minT_raw {Q : Value → Shared → Prop} (hh : A.handled = none) (hl : s.heap.IsTuple l its.toArray) (hi : IntsAre its ns) (hne : 0 < ns.length)
    (h : ∀ h' tk M t', (∀ b o, s.heap.get? b = some o → h'.get? b = some o) → M ∈ ns → (∀ a, a ∈ ns → M ≤ a) → Q (.int M t') { s with heap := h', toks := tk }) : wpAny (model prog w) A (call (.builtin "min") [.ref l]) Q E s := by
  obtain ⟨xs, e⟩ := hi.allInts.items
  have hn : numsOf (intItems xs).toList = ns := by rw [← e]; exact hi.numsOf
  rw [nums_intItems] at hn
  subst hn
  rw [e] at hl
  have hsz : 0 < xs.size := by simpa using hne
  refine min_intTup hh hl hsz fun v h' tk hv hk => ?_
  obtain ⟨t, rfl⟩ := intItems_at hv
  obtain ⟨h1, h2⟩ := argBest_lt (numAt xs) (xs.size - 1)
  refine h h' tk _ t hk ?_ fun a ha => ?_
  · rw [numAt_eq]; exact PySem.getD_mem (by rw [List.length_map, Array.length_toList]; omega)
  · obtain ⟨j, hj, rfl⟩ := mem_getD ha
    rw [List.length_map, Array.length_toList] at hj
    rw [← numAt_eq]; exact h2 j (by omega)
end
section
variable {X : Cx}
def rMaxT (K : PySem.W.Frag) : List V → Hp → VK → Prop := fun vs H Q => ∃ (a : Addr) (ns : List Int), vs = [V.ref a] ∧ SqT K H a (ns.map V.int) ∧ 0 < ns.length ∧ ∀ m, m ∈ ns → (∀ y, y ∈ ns → y ≤ m) → Q (.int m) H
def rMinT (K : PySem.W.Frag) : List V → Hp → VK → Prop := fun vs H Q => ∃ (a : Addr) (ns : List Int), vs = [V.ref a] ∧ SqT K H a (ns.map V.int) ∧ 0 < ns.length ∧ ∀ m, m ∈ ns → (∀ y, y ∈ ns → m ≤ y) → Q (.int m) H
theorem cr_maxT (hc : X.calm = true) : CallR X (.builtin "max") (rMaxT X.K) := by
  intro pins s σ H vs us Q I r h
  obtain ⟨a, ns, rfl, hs, hne, q⟩ := h
  obtain ⟨its, rv, hl, _⟩ := I.tuple hs
  rw [Vals.ref1 r]
  exact maxT_raw (I.ok.hd hc) hl rv.ints hne fun h' tk m t' hk h1 h2 => ⟨.int _, H, I.kept hk, ⟨_, rfl⟩, q m h1 h2⟩
theorem cr_minT (hc : X.calm = true) : CallR X (.builtin "min") (rMinT X.K) := by
  intro pins s σ H vs us Q I r h
  obtain ⟨a, ns, rfl, hs, hne, q⟩ := h
  obtain ⟨its, rv, hl, _⟩ := I.tuple hs
  rw [Vals.ref1 r]
  exact minT_raw (I.ok.hd hc) hl rv.ints hne fun h' tk m t' hk h1 h2 => ⟨.int _, H, I.kept hk, ⟨_, rfl⟩, q m h1 h2⟩
end
/-- what is done with the items of a list or a tuple -/
def pSeq (q : List D → Store → Rs D) : P1 := fun d S => match seqOf d S with
  | some ds => q ds S
  | none => none
section
variable {K : PySem.W.Frag} {C : Cls0}
/-- rL of lists, rT of tuples -/
theorem srv_seq {rL rT : List V → Hp → VK → Prop} {q : List D → Store → Rs D}
    (hL : ∀ (XW : Value → Option Addr → Hp → Prop) (mu : Nat → Addr) (S : Store) (H : Hp) (p : Addr) (vs : List V) (ds : List D) (Q : VK), Rel K C mu S H → SqL K H p vs → RDs K mu S.length H vs ds → PostG K C XW mu S.length H (QD K) (q ds S) Q → rL [.ref p] H Q)
    (hT : ∀ (XW : Value → Option Addr → Hp → Prop) (mu : Nat → Addr) (S : Store) (H : Hp) (p : Addr) (vs : List V) (ds : List D) (Q : VK), Rel K C mu S H → SqT K H p vs → RDs K mu S.length H vs ds → PostG K C XW mu S.length H (QD K) (q ds S) Q → rT [.ref p] H Q) :
    SrvL K C (fun xs H Q => rL xs H Q ∨ rT xs H Q) (p1L (pSeq q)) := srvL1 fun XW mu S H x d Q R rd z => by
  unfold pSeq at z
  cases e : seqOf d S with
  | none => rw [e] at z; exact z.elim
  | some ds =>
    rw [e] at z
    obtain ⟨a, vs, rfl, hs, rds⟩ := seqOf_sq R rd e
    rcases hs with hs | hs
    · exact .inr (hT XW mu S H a vs ds Q R hs rds z)
    · exact .inl (hL XW mu S H a vs ds Q R hs rds z)
theorem ss_max : SrvL K C (fun xs H Q => rMax K xs H Q ∨ rMaxT K xs H Q) (p1L (pSeq qMax)) := by
  refine srv_seq ?_ ?_
  all_goals
    intro XW mu S H p vs ds Q R hp rd q
    unfold qMax at q
    cases e : allI ds with
    | none => rw [e] at q; exact q.elim
    | some bs =>
      rw [e] at q
      simp only at q
      rw [allI_rd rd e] at hp
      cases e2 : greatest bs with
      | none => rw [e2] at q; exact q.elim
      | some k =>
        rw [e2] at q
        refine ⟨p, bs, rfl, hp, ?_, fun m hm hle => ?_⟩
        · cases bs with
          | nil => cases e2
          | cons _ _ => simp
        · rw [greatest_of e2 hm hle]; exact q.ok R (.int _)
theorem ss_min : SrvL K C (fun xs H Q => rMin K xs H Q ∨ rMinT K xs H Q) (p1L (pSeq qMin)) := by
  refine srv_seq ?_ ?_
  all_goals
    intro XW mu S H p vs ds Q R hp rd q
    unfold qMin at q
    cases e : allI ds with
    | none => rw [e] at q; exact q.elim
    | some bs =>
      rw [e] at q
      simp only at q
      rw [allI_rd rd e] at hp
      cases e2 : least bs with
      | none => rw [e2] at q; exact q.elim
      | some k =>
        rw [e2] at q
        refine ⟨p, bs, rfl, hp, ?_, fun m hm hle => ?_⟩
        · cases bs with
          | nil => cases e2
          | cons _ _ => simp
        · rw [least_of e2 hm hle]; exact q.ok R (.int _)
def pNeg : P1 := fun d S => match d with
  | .int i => okR (.int (-i)) S
  | _ => none
theorem sv_neg : Srv1 K C (rU fun i => .int (-i)) pNeg := by
  intro XW mu S H x d Q R r q
  cases r with
  | int i => exact ⟨i, rfl, q.ok R (.int _)⟩
  | _ => exact q.elim
end
section
variable {X : Cx} {C : Cls0} {W : Wx}
def refSeq (d : D) (S : Store) : Option (List D) := match d with
  | .ref l => match S[l]? with
    | some (.lst ds) => some ds
    | _ => none
  | _ => none
theorem refSeq_lst {K : PySem.W.Frag} {mu : Nat → Addr} {S : Store} {H : Hp} {d : D} {v : V} {ds : List D} (R : Rel K C mu S H) (r : RD K mu S.length H v d) (e : refSeq d S = some ds) :
    ∃ a vs, v = .ref a ∧ H a = some (.lst vs) ∧ RDs K mu S.length H vs ds := by
  cases r with
  | @ref l hl =>
    unfold refSeq at e
    simp only at e
    split at e
    · rename_i ds' e1
      cases e
      obtain ⟨vs, e2, rd⟩ := R.obj _ _ e1
      exact ⟨_, vs, rfl, e2, rd⟩
    · cases e
  | _ => cases e
/-- a + b of two lists of the store -/
def fCatE (f g : EF D) : EF (List D) := fun ρ S => bindR (f ρ S) fun d S1 => bindR (g ρ S1) fun e S2 => match refSeq d S2, refSeq e S2 with
  | some xs, some ys => if xs.length + ys.length ≤ 16777216 then okR (xs ++ ys) S2 else none
  | _, _ => none
theorem sl_catE {a b : Expr} {f g : EF D} {pos : Pos} (ha : SE X C W a f) (hb : SE X C W b g) : SL X C W (.BinOp a .Add b pos) (fCatE f g) := by
  refine ⟨PE.imp (pe_op op_cat ha.pe hb.pe) ?_⟩
  rintro σ H Q ⟨mu, S, ρ, R, re, h⟩
  refine ⟨mu, S, ρ, R, re, (PostG.bind (RA := QD X.K) h).mono ?_⟩
  rintro v1 H1 ⟨mu1, S1, d, R1, x1, r1, h1⟩
  refine ⟨mu1, S1, ρ, R1, re.mono R x1, (PostG.bind (RA := QD X.K) h1).mono ?_⟩
  rintro v2 H2 ⟨mu2, S2, e, R2, x2, r2, h2⟩
  split at h2
  · rename_i xs ys e1 e2
    obtain ⟨p, vs, rfl, hp, rd1⟩ := refSeq_lst R2 (r1.mono R1 x2) e1
    obtain ⟨p2, ws, rfl, hp2, rd2⟩ := refSeq_lst R2 r2 e2
    by_cases hz : xs.length + ys.length ≤ 16777216
    · rw [if_pos hz] at h2
      refine ⟨p, p2, vs, ws, rfl, rfl, hp, hp2, by rw [sizeLine_16, RDs.length rd1, RDs.length rd2]; exact hz, fun q hq => ?_⟩
      exact new_fresh R2 .refl hq (rd1.append rd2) h2
    · rw [if_neg hz] at h2; exact h2.elim
  · exact h2.elim
end
end Sh

set_option Elab.async false
set_option linter.all false
set_option maxRecDepth 100000
set_option maxHeartbeats 4000000
set_option autoImplicit false
namespace Sh
open PySem PySem.Spec PyProof.Rows L2
section
variable {P : Program} {w : World} {K : PySem.W.Frag} {mg : Str → Option Value} {base : Heap} {C : Cls0}
end
/-- what an except clause makes of a class -/
theorem exm_of {K : PySem.W.Frag} {A S : Addr} {b : Bool} (h1 : PySem.W.subIn K (.ref S) (.type "BaseException") = some true) (h2 : PySem.W.isClsIn K S = true) (h3 : PySem.W.typeIn K (.ref S) = some (.type "type")) (h4 : PySem.W.subIn K (.ref A) (.ref S) = some b) :
    PySem.W.exmOne K (.ref A) (.ref S) = some b := by
  have e1 : (PySem.W.subIn K (.ref S) (.type "BaseException") == some true) = true := by rw [h1] <;> rfl
  have e2 : ((PySem.W.clsIn K S).isSome && PySem.W.typeIn K (.ref S) == some (.type "type")) = true := by
    have h2' : (PySem.W.clsIn K S).isSome = true := h2
    rw [h2', h3] <;> rfl
  show (if (PySem.W.subIn K (.ref S) (.type "BaseException") == some true) = true then (if ((PySem.W.clsIn K S).isSome && PySem.W.typeIn K (.ref S) == some (.type "type")) = true then PySem.W.subIn K (.ref A) (.ref S) else none) else none) = some b
  rw [if_pos e1, if_pos e2]
  exact h4
/-- a class of errors, from what the heap holds -/
theorem exc1_mk {P : Program} {w : World} {K : PySem.W.Frag} {mg : Str → Option Value} {base : Heap} {x f qual : Str} {st : Stmt} {A fI : Addr} {fd : FuncData} {p1 p2 p3 p4 : Pos}
    {nm q : Str} {N : Addr} {bs bm : List Value} {sn : List Str} {sub : List Value} {ab : Bool} {col : Option Bool} {dd : Option Addr} {m0 m1 m2 m3 m5 : Option Value}
    (gA : mg x = some (.ref A)) (xL : K.lookup A = some (excClassObj nm q A N bs bm true sn sub ab col dd m0 m1 m2 m3 m5 "ValueError.__new__")) (rb : PySem.HandSPX.refsVE bm = true)
    (sa : PySem.W.findIn K (.ref A) "__setattr__" = some (some (.builtin "object.__setattr__"))) (ga : PySem.W.findIn K (.ref A) "__getattribute__" = some (some (.builtin "BaseException.__getattribute__"))) (gg : PySem.W.findIn K (.ref A) "__getattr__" = some none)
    (nb : PySem.W.findIn K (.ref A) f = some none) (iC : PySem.W.findIn K (.ref A) "__init__" = some (some (.ref fI))) (tI : PySem.W.typeIn K (.ref fI) = some (.type "function"))
    (F : Fun K "__init__" qual st fI fd) (Sc : FnScope ["self", f] ["self", f] (defScope st)) (hb : defBody st = [.Assign [.Attribute (.Name "self" p1) f p2] (.Name f p3) p4]) (bI : Binds K fd ["self", f] [])
    (kC : PySem.W.keepIn K (.ref A) = true) (eC : PySem.W.subIn K (.ref A) (.type "BaseException") = some true) (tC : PySem.W.typeIn K (.ref A) = some (.type "type")) (hC : PySem.W.hasDictIn K A = true)
    (hd : (f == ("__debug__" : Str)) = false := by decide) (hcd : (f == ("__classdict__" : Str)) = false := by decide) : Exc1 P w K mg base x f :=
  ⟨A, fI, fd, gA, ⟨⟨nm, q, N, bs, bm, sn, sub, ab, col, dd, m0, m1, m2, m3, m5, xL, rb⟩, sa, eC, tC, kC⟩, ⟨ga, gg, eC, hC⟩, nb, iC, tI, exc_init F Sc hb hd hcd, bI⟩
def clsDef (i j : Nat) (b : List Stmt) : Stmt := match b.getD i (.Pass ⟨0, 0, 0, 0⟩) with
  | .ClassDef _ _ _ body _ _ _ _ _ _ _ => body.getD j (.Pass ⟨0, 0, 0, 0⟩)
  | x => x
/-- a def that is just what its body says -/
noncomputable def mOf (N : List Str) (np : Nat) (b : SF) : M := fun ds S => if ds.length = np then outOf (b (startR N.length ds) S) else none
section
variable {P : Program} {w : World} {K : PySem.W.Frag} {mg : Str → Option Value} {base : Heap} {C : Cls0}
theorem fng_mk0 {x qual : Str} {st : Stmt} {f : Addr} {fd : FuncData} {N ps : List Str} {k : Nat} {b : SF} (F : Fun K x qual st f fd) (Sc : FnScope N ps (defScope st))
    (body : ∀ (cdv : Value) (A : Around) (outer : List PySem.Env) (s : Shared) (H : Hp) (E : XK), RoomG k (A.deeper (envOfC qual (defScope st) s.heap.objs.size f cdv)) →
      SB (cxOf (L2.CX P w) P w K mg base N qual (defScope st) f cdv A outer s H E) C (fun c d _ H => E c d H) (defBody st) b) :
    FnG P w K mg base (k + 1) f fd ps (spM K C ps.length (mOf N ps.length b)) := by
  refine fng_of F Sc (fun vs H Q E h => spM_len h) (fun cdv A outer s H vs Q E hr h => ?_)
  refine ⟨_, (body cdv A outer s H E hr).pss, ?_⟩
  obtain ⟨mu, S, ds, R, rd, hl, hq⟩ := h
  refine ⟨mu, S, startR N.length ds, R, RE.begin rd, ?_⟩
  unfold mOf at hq
  rw [if_pos hl] at hq
  cases e1 : b (startR N.length ds) S with
  | none => rw [e1] at hq; exact hq.elim
  | some z =>
    obtain ⟨fl, S2⟩ := z
    rw [e1] at hq
    cases fl with
    | ret d => exact hq
    | nx ρ => exact fun mu' H' σ' R' y re' => hq mu' H' .non R' y .non
    | exn e ρ => exact fun mu' H' A' dx vs' σ' R' y c hd rf' re' => hq mu' H' A' dx vs' R' y c hd rf'
    | bk ρ => exact hq.elim
    | ct ρ => exact hq.elim
theorem fn_mk0 {x qual : Str} {st : Stmt} {f : Addr} {fd : FuncData} {N ps : List Str} {k : Nat} {b : SF} (F : Fun K x qual st f fd) (Sc : FnScope N ps (defScope st)) (bn : Binds K fd ps []) (gm : mg x = some (.ref f))
    (body : ∀ (cdv : Value) (A : Around) (outer : List PySem.Env) (s : Shared) (H : Hp) (E : XK), RoomG k (A.deeper (envOfC qual (defScope st) s.heap.objs.size f cdv)) →
      SB (cxOf (L2.CX P w) P w K mg base N qual (defScope st) f cdv A outer s H E) C (fun c d _ H => E c d H) (defBody st) b) :
    Fn P w K mg base C x (k + 1) ps.length (mOf N ps.length b) := ⟨f, fd, ps, fng_mk0 F Sc body, gm, F.kp, bn⟩
end
end Sh

set_option Elab.async false
set_option linter.all false
set_option maxRecDepth 100000
set_option maxHeartbeats 4000000
set_option autoImplicit false
namespace Sh
open PySem
/-! ### working out what a denotation says: values that leave the store as it was, but for new things behind it -/
theorem pre_get {S T : Store} (h : S <+: T) {l : Nat} {o : SO} (e : S[l]? = some o) : T[l]? = some o := by
  obtain ⟨J, rfl⟩ := h
  rw [List.getElem?_append_left (List.getElem?_eq_some_iff.mp e).1]
  exact e
theorem pre_self (S : Store) : S <+: S := List.prefix_rfl
theorem pre_new (S : Store) (o : SO) : S <+: S ++ [o] := List.prefix_append _ _
def Ev {α : Type} (f : EF α) (ρ : Rho) (S : Store) (a : α) : Prop := ∀ T, S <+: T → ∃ T', T <+: T' ∧ f ρ T = some (.ok a, T')
section
variable {α β : Type} {ρ : Rho} {S S' T : Store}
theorem Ev.up {f : EF α} {a : α} (h : Ev f ρ S a) (p : S <+: S') : Ev f ρ S' a := fun T q => h T (p.trans q)
theorem Ev.here {f : EF α} {a : α} (h : Ev f ρ S a) : ∃ T, S <+: T ∧ f ρ S = some (.ok a, T) := h S (pre_self S)
/-- the next step behind a value -/
theorem ev_bind {f : EF α} {a : α} {k : α → Store → Rs β} {b : β} (h : Ev f ρ S a) (hk : ∀ T, S <+: T → ∃ T', T <+: T' ∧ k a T = some (.ok b, T')) : Ev (fun ρ S => bindR (f ρ S) k) ρ S b := fun T p => by
  obtain ⟨T1, p1, e1⟩ := h T p
  obtain ⟨T2, p2, e2⟩ := hk T1 (p.trans p1)
  exact ⟨T2, p1.trans p2, by simp only [e1, bindR_ok, e2]⟩
theorem ev_var {i : Nat} {d : D} (h : ρ[i]? = some (some d)) : Ev (fVar i) ρ S d := fun T p => ⟨T, pre_self T, by simp [fVar, h]⟩
theorem ev_C {d : D} : Ev (fC d) ρ S d := fun T p => ⟨T, pre_self T, rfl⟩
theorem ev_nil : Ev fNil ρ S [] := fun T p => ⟨T, pre_self T, rfl⟩
theorem ev_cons {f : EF D} {g : EF (List D)} {d : D} {ds : List D} (a : Ev f ρ S d) (b : Ev g ρ S ds) : Ev (fCons f g) ρ S (d :: ds) :=
  ev_bind a fun T p => (b.up p) T (pre_self T) |>.elim fun T' ⟨q, e⟩ => ⟨T', q, by simp only [e, bindR_ok]⟩
theorem ev_bin {p : P2} {f g : EF D} {d e z : D} (a : Ev f ρ S d) (b : Ev g ρ S e) (h : ∀ T, S <+: T → p d e T = okR z T) : Ev (fBin p f g) ρ S z :=
  ev_bind a fun T q => (b.up q) T (pre_self T) |>.elim fun T' ⟨q', e⟩ => ⟨T', q', by simp only [e, bindR_ok]; exact h T' (q.trans q')⟩
theorem ev_call {p : PL} {g : EF (List D)} {ds : List D} {z : D} (a : Ev g ρ S ds) (h : ∀ T, S <+: T → p ds T = okR z T) : Ev (fCall p g) ρ S z := ev_bind a fun T q => ⟨T, pre_self T, h T q⟩
/-- a function of data -/
def Pu (m : M) (ds : List D) (S : Store) (z : D) : Prop := ∀ T, S <+: T → ∃ T', T <+: T' ∧ m ds T = some (.ok z, T')
theorem Pu.up {m : M} {ds : List D} {z : D} (h : Pu m ds S z) (p : S <+: S') : Pu m ds S' z := fun T q => h T (p.trans q)
theorem ev_lst {g : EF (List D)} {ds : List D} (a : Ev g ρ S ds) (hl : ds.length ≤ 16777216) : Ev (fLst g) ρ S ds := ev_bind a fun T q => ⟨T, pre_self T, by rw [if_pos hl]⟩
theorem ev_T {f : EF D} {b : Bool} (a : Ev f ρ S (.bl b)) : Ev (fT f) ρ S b := fun T q => by
  obtain ⟨T', q', e⟩ := a T q
  exact ⟨T', q', by unfold fT; unfold asB; simp [e]⟩
/-! ### comprehensions -/
open Classical in
theorem chk_all {p : List D × Chk} (h : ∀ q ∈ p.2, S[q.1]? = some (.lst q.2)) : chkOk p S = true := by
  unfold chkOk
  exact decide_eq_true h
theorem ev_iR1 {g : EF (List D)} {j : Int} (a : Ev g ρ S [.int j]) (hj : j < 2 ^ 62 ∧ -(2 ^ 62) ≤ j) : Ev (iR1 g) ρ S (dInts 0 j.toNat, []) := ev_bind a fun T q => ⟨T, pre_self T, by simp only [if_pos hj]⟩

/-! ### statements -/
def Wp (b : SF) (ρ : Rho) (S : Store) (Q : Fl → Store → Prop) : Prop := ∃ fl T, b ρ S = some (fl, T) ∧ Q fl T
theorem Wp.mono {b : SF} {Q Q' : Fl → Store → Prop} (h : Wp b ρ S Q) (k : ∀ fl T, Q fl T → Q' fl T) : Wp b ρ S Q' := let ⟨fl, T, e, q⟩ := h; ⟨fl, T, e, k fl T q⟩
theorem wp_seq {a b : SF} {Q : Fl → Store → Prop} (h : Wp a ρ S fun fl T => match fl with | .nx ρ' => Wp b ρ' T Q | x => Q x T) : Wp (sSeq a b) ρ S Q := by
  obtain ⟨fl, T, e, q⟩ := h
  cases fl with
  | nx ρ' => obtain ⟨fl2, T2, e2, q2⟩ := q; exact ⟨fl2, T2, by simp only [sSeq, e, e2], q2⟩
  | _ => exact ⟨_, T, by simp only [sSeq, e], q⟩
theorem wp_nil {Q : Fl → Store → Prop} (h : Q (.nx ρ) S) : Wp sNil ρ S Q := ⟨_, _, rfl, h⟩
theorem wp_set {f : EF D} {d : D} {i : Nat} {Q : Fl → Store → Prop} (a : Ev f ρ S d) (h : ∀ T, S <+: T → Q (.nx (ρ.set i (some d))) T) : Wp (sAsg f (gN i)) ρ S Q := by
  obtain ⟨T, p, e⟩ := a.here
  exact ⟨_, T, by simp only [sAsg, e, toS_ok, gN], h T p⟩
theorem wp_setL {f : EF (List D)} {ds : List D} {i : Nat} {Q : Fl → Store → Prop} (a : Ev f ρ S ds) (h : ∀ T l, S <+: T → S.length ≤ l → T[l]? = some (.lst ds) → Q (.nx (ρ.set i (some (.ref l)))) T) : Wp (sAsg (fAl f) (gN i)) ρ S Q := by
  obtain ⟨T, p, e⟩ := a.here
  refine ⟨_, T ++ [.lst ds], by simp only [sAsg, fAl, e, bindR_ok, toS_ok, gN], h _ _ (p.trans (pre_new _ _)) p.length_le (by simp)⟩
theorem wp_ret {f : EF D} {d : D} {Q : Fl → Store → Prop} (a : Ev f ρ S d) (h : ∀ T, S <+: T → Q (.ret d) T) : Wp (sRet f) ρ S Q := by
  obtain ⟨T, p, e⟩ := a.here
  exact ⟨_, T, by simp only [sRet, e, toS_ok], h T p⟩
theorem wp_if {c : EF Bool} {f g : SF} {b : Bool} {Q : Fl → Store → Prop} (a : Ev c ρ S b) (h1 : b = true → ∀ T, S <+: T → Wp f ρ T Q) (h2 : b = false → ∀ T, S <+: T → Wp g ρ T Q) : Wp (sIf c f g) ρ S Q := by
  obtain ⟨T, p, e⟩ := a.here
  cases b with
  | true => obtain ⟨fl, T', e', q⟩ := h1 rfl T p; exact ⟨fl, T', by simp only [sIf, e, toS_ok, if_true, e'], q⟩
  | false => obtain ⟨fl, T', e', q⟩ := h2 rfl T p; exact ⟨fl, T', by simp only [sIf, e, toS_ok, Bool.false_eq_true, if_false, e'], q⟩
/-- a loop over what stands, by an invariant of the items done -/
theorem forGo_wp {g : GF} {b : SF} {p : List D × Chk} {Q : Fl → Store → Prop} (I : List D → Rho → Store → Prop) (hk : ∀ n ρ T, I n ρ T → ∀ q ∈ p.2, T[q.1]? = some (.lst q.2)) :
    ∀ (done rest : List D) (ρ : Rho) (S : Store), done ++ rest = p.1 → I done ρ S →
      (∀ done d rest ρ T, done ++ d :: rest = p.1 → I done ρ T → ∃ ρ1 T1, g d ρ T = some (ρ1, T1) ∧ Wp b ρ1 T1 fun fl T2 => match fl with | .nx ρ2 => I (done ++ [d]) ρ2 T2 | .ct ρ2 => I (done ++ [d]) ρ2 T2 | .bk ρ2 => Q (.nx ρ2) T2 | x => Q x T2) →
      (∀ ρ T, I p.1 ρ T → Q (.nx ρ) T) → ∃ fl T, forGo g b p rest ρ S = some (fl, T) ∧ Q fl T
  | done, [], ρ, S, e, hI, _, hE => by
    rw [List.append_nil] at e
    subst e
    have : chkOk p S = true := chk_all (hk _ _ _ hI)
    exact ⟨.nx ρ, S, by simp [forGo, this], hE ρ S hI⟩
  | done, d :: rest, ρ, S, e, hI, hS, hE => by
    have ck : chkOk p S = true := chk_all (hk _ _ _ hI)
    obtain ⟨ρ1, T1, e1, fl, T2, e2, q⟩ := hS done d rest ρ S e hI
    have e' : done ++ [d] ++ rest = p.1 := by rw [List.append_assoc]; exact e
    cases fl with
    | nx ρ2 =>
      obtain ⟨fl3, T3, e3, q3⟩ := forGo_wp I hk (done ++ [d]) rest ρ2 T2 e' q hS hE
      exact ⟨fl3, T3, by simp only [forGo, ck, if_true, e1, e2, e3], q3⟩
    | ct ρ2 =>
      obtain ⟨fl3, T3, e3, q3⟩ := forGo_wp I hk (done ++ [d]) rest ρ2 T2 e' q hS hE
      exact ⟨fl3, T3, by simp only [forGo, ck, if_true, e1, e2, e3], q3⟩
    | bk ρ2 => exact ⟨_, T2, by simp only [forGo, ck, if_true, e1, e2], q⟩
    | ret d' => exact ⟨_, T2, by simp only [forGo, ck, if_true, e1, e2], q⟩
    | exn x ρ2 => exact ⟨_, T2, by simp only [forGo, ck, if_true, e1, e2], q⟩
theorem wp_for {it : IF} {g : GF} {b : SF} {p : List D × Chk} {Q : Fl → Store → Prop} (a : Ev it ρ S p) (I : List D → Rho → Store → Prop) (hk : ∀ n ρ T, I n ρ T → ∀ q ∈ p.2, T[q.1]? = some (.lst q.2)) (h0 : ∀ T, S <+: T → I [] ρ T)
    (hS : ∀ done d rest ρ T, done ++ d :: rest = p.1 → I done ρ T → ∃ ρ1 T1, g d ρ T = some (ρ1, T1) ∧ Wp b ρ1 T1 fun fl T2 => match fl with | .nx ρ2 => I (done ++ [d]) ρ2 T2 | .ct ρ2 => I (done ++ [d]) ρ2 T2 | .bk ρ2 => Q (.nx ρ2) T2 | x => Q x T2)
    (hE : ∀ ρ T, I p.1 ρ T → Q (.nx ρ) T) : Wp (sFor it g b) ρ S Q := by
  obtain ⟨T, r, e⟩ := a.here
  obtain ⟨fl, T2, e2, q⟩ := forGo_wp I hk [] p.1 ρ T rfl (h0 T r) hS hE
  exact ⟨fl, T2, by simp only [sFor, e, toS_ok, e2], q⟩
/-- from a body to a def -/
theorem mOf_wp {N : List Str} {np : Nat} {b : SF} {ds : List D} {Q : Except Ex D → Store → Prop} (hl : ds.length = np)
    (h : Wp b (startR N.length ds) S fun fl T => match fl with | .ret d => Q (.ok d) T | .nx _ => Q (.ok .non) T | .exn e _ => Q (.error e) T | _ => False) : ∃ r T, mOf N np b ds S = some (r, T) ∧ Q r T := by
  obtain ⟨fl, T, e, q⟩ := h
  unfold mOf
  rw [if_pos hl, e]
  cases fl with
  | ret d => exact ⟨_, T, rfl, q⟩
  | nx ρ => exact ⟨_, T, rfl, q⟩
  | exn e ρ => exact ⟨_, T, rfl, q⟩
  | bk ρ => exact q.elim
  | ct ρ => exact q.elim
end
end Sh

set_option Elab.async false
set_option linter.all false
set_option maxRecDepth 100000
set_option maxHeartbeats 4000000
set_option autoImplicit false
namespace Sh
open PySem L2
/-! ### working out what a denotation says: values that change the store -/
def We {α : Type} (f : EF α) (ρ : Rho) (S : Store) (Q : α → Store → Prop) : Prop := ∃ a T, f ρ S = some (.ok a, T) ∧ Q a T
section
variable {α β : Type} {ρ : Rho} {S : Store}
theorem We.mono {f : EF α} {Q Q' : α → Store → Prop} (h : We f ρ S Q) (k : ∀ a T, Q a T → Q' a T) : We f ρ S Q' := let ⟨a, T, e, q⟩ := h; ⟨a, T, e, k a T q⟩
theorem we_ev {f : EF α} {a : α} {Q : α → Store → Prop} (h : Ev f ρ S a) (k : ∀ T, S <+: T → Q a T) : We f ρ S Q := let ⟨T, p, e⟩ := h.here; ⟨a, T, e, k T p⟩
theorem we_bind {f : EF α} {k : α → Store → Rs β} {Q : β → Store → Prop} (h : We f ρ S fun a T => ∃ b T', k a T = some (.ok b, T') ∧ Q b T') : We (fun ρ S => bindR (f ρ S) k) ρ S Q := by
  obtain ⟨a, T, e, b, T', e', q⟩ := h
  exact ⟨b, T', by simp only [e, bindR_ok, e'], q⟩
theorem we_var {i : Nat} {d : D} {Q : D → Store → Prop} (h : ρ[i]? = some (some d)) (q : Q d S) : We (fVar i) ρ S Q := ⟨d, S, by simp [fVar, h], q⟩
theorem we_iE {f : EF D} {Q : List D × Chk → Store → Prop} (h : We f ρ S fun d T => ∃ p, walkOf d T = some p ∧ Q p T) : We (iE f) ρ S Q := we_bind (h.mono fun d T ⟨p, e, q⟩ => ⟨p, T, by rw [e], q⟩)
theorem we_apd {f g : EF D} {l : Nat} {Q : D → Store → Prop} (h : We f ρ S fun d T => d = .ref l ∧ (∃ ds, T[l]? = some (.lst ds)) ∧ We g ρ T fun e T2 => ∃ ds, T2[l]? = some (.lst ds) ∧ ds.length < 16777216 ∧ Q .non (T2.set l (.lst (ds ++ [e])))) : We (fApd f g) ρ S Q := by
  obtain ⟨d, T, e1, rfl, ⟨ds0, e2⟩, e, T2, e3, ds, e4, hl, q⟩ := h
  exact ⟨.non, _, by simp only [fApd, e1, e2, e3, bindR_ok, e4, if_pos hl], q⟩
/-! ### statements -/
theorem wpe_expr {f : EF D} {Q : Fl → Store → Prop} (a : We f ρ S fun _ T => Q (.nx ρ) T) : Wp (sExpr f) ρ S Q := by
  obtain ⟨d, T, e, q⟩ := a
  exact ⟨_, T, by simp only [sExpr, e, toS_ok], q⟩
theorem wpe_for {it : IF} {g : GF} {b : SF} {Q : Fl → Store → Prop} (a : We it ρ S fun p T => ∃ I : List D → Rho → Store → Prop, (∀ n ρ T, I n ρ T → ∀ q ∈ p.2, T[q.1]? = some (.lst q.2)) ∧ I [] ρ T ∧
    (∀ done d rest ρ T, done ++ d :: rest = p.1 → I done ρ T → ∃ ρ1 T1, g d ρ T = some (ρ1, T1) ∧ Wp b ρ1 T1 fun fl T2 => match fl with | .nx ρ2 => I (done ++ [d]) ρ2 T2 | .ct ρ2 => I (done ++ [d]) ρ2 T2 | .bk ρ2 => Q (.nx ρ2) T2 | x => Q x T2) ∧
    (∀ ρ T, I p.1 ρ T → Q (.nx ρ) T)) : Wp (sFor it g b) ρ S Q := by
  obtain ⟨p, T, e, I, hk, h0, hS, hE⟩ := a
  obtain ⟨fl, T2, e2, q⟩ := forGo_wp I hk [] p.1 ρ T rfl h0 hS hE
  exact ⟨fl, T2, by simp only [sFor, e, toS_ok, e2], q⟩
end
end Sh

set_option Elab.async false
set_option linter.all false
set_option maxRecDepth 100000
set_option maxHeartbeats 4000000
set_option autoImplicit false
namespace Sh
open PySem L2
/-! ### values -/
section
variable {S T : Store} {i j : Int}
theorem modI (h : j ≠ 0) : pI2 gMod (.int i) (.int j) S = okR (.int (i.fmod j)) S := by simp only [pI2, gMod]; rw [if_pos h]
theorem divI (h : j ≠ 0 ∧ j.natAbs < 1073741824) : pI2 gDiv (.int i) (.int j) S = okR (.int (i.fdiv j)) S := by simp only [pI2, gDiv]; rw [if_pos h]
theorem ixN_nat {n k : Nat} (h : k < n) : ixN n (k : Int) = some k := by
  unfold ixN
  rw [if_pos (by omega), if_pos (by omega)]
  simp
theorem atI_of {α : Type} {xs : List α} {k : Nat} (h : k < xs.length) : atI xs (k : Int) = some xs[k] := by
  unfold atI
  rw [ixN_nat h]
  simp [h]
/-- an index within the bounds -/
theorem atI_in {α : Type} {xs : List α} (h0 : 0 ≤ i) (h1 : i < xs.length) : ∃ x, atI xs i = some x ∧ x ∈ xs ∧ xs[i.toNat]? = some x := by
  obtain ⟨k, rfl⟩ := Int.eq_ofNat_of_zero_le h0
  have hk : k < xs.length := by omega
  exact ⟨xs[k], atI_of hk, List.getElem_mem hk, by simp [hk]⟩
theorem pre_set {l : Nat} {o : SO} (h : S <+: T) (hl : S.length ≤ l) : S <+: T.set l o := by
  obtain ⟨J, rfl⟩ := h
  rw [List.set_append_right _ _ hl]
  exact List.prefix_append _ _
theorem eqv_int {a b : Int} : PyData.eqv (.int a) (.int b) = (a == b) := by
  simp [PyData.eqv]
theorem mem_dInts {lo : Int} {n : Nat} {d : D} (h : d ∈ dInts lo n) : ∃ k : Nat, k < n ∧ d = .int (lo + (k : Nat)) := by
  unfold dInts at h
  obtain ⟨k, hk, rfl⟩ := List.mem_map.mp h
  exact ⟨k, List.mem_range.mp hk, rfl⟩
theorem mem_split {α : Type} {done rest ds : List α} {d : α} (e : done ++ d :: rest = ds) : d ∈ ds := by
  rw [← e]; exact List.mem_append_right _ (List.mem_cons_self ..)
end
end Sh

set_option Elab.async false
set_option linter.all false
set_option maxRecDepth 100000
set_option maxHeartbeats 4000000
set_option autoImplicit false
namespace Sh
open PySem PySem.Spec PyProof.Rows L2 HT
/-! ### t[::-1] -/
section
variable {prog : Program} {w : World} {A : Around} {E : Value → Shared → Prop} {s : Shared}
theorem adjust_rev (n : Nat) : Builtin.Slice.sliceAdjust none none (-1) (n : Int) = ((n : Int) - 1, -1) := by
  unfold Builtin.Slice.sliceAdjust
  simp
theorem places_rev (n : Nat) : Builtin.Slice.slicePlaces ((n : Int) - 1) (-1) (-1) = n := by
  unfold Builtin.Slice.slicePlaces
  simp
  split <;> omega
theorem sliceApplied_rev {sl : Addr} {vl vu vs : Value} {n : Nat} {Q : Int × Int × Nat → Shared → Prop} (hs : s.heap.IsSliceOf sl vl vu vs) (pl : IsPart vl none) (pu : IsPart vu none) (ps : IsPart vs (some (-1)))
    (h : Q ((n : Int) - 1, -1, n) s) : wpAny (model prog w) A (Builtin.Slice.sliceApplied (.ref sl) (pure (n : Int))) Q E s := by
  obtain ⟨os, hos, hcs, hds⟩ := id hs
  unfold Builtin.Slice.sliceApplied Builtin.Slice.sliceFields
  refine wpAny_bind (wpAny_bind (wpAny_field hos hds (x := vl) rfl (wpAny_bind (wpAny_field hos hds (x := vu) rfl (wpAny_bind (wpAny_field hos hds (x := vs) rfl (wpAny_pure ?_)))))))
  refine wpAny_bind (slicePart_ ps ?_)
  show wpAny _ _ (if ((-1 : Int) == 0) = true then _ else _) _ _ s
  rw [if_neg (by decide)]
  refine wpAny_bind (slicePart_ pl (wpAny_bind (slicePart_ pu (wpAny_bind (wpAny_pure ?_)))))
  show wpAny _ _ (match Builtin.Slice.sliceAdjust none none (-1) (n : Int) with | (lo, hi) => pure (lo, (-1 : Int), Builtin.Slice.slicePlaces lo hi (-1))) _ _ s
  rw [adjust_rev n]
  show wpAny _ _ (pure ((n : Int) - 1, (-1 : Int), Builtin.Slice.slicePlaces ((n : Int) - 1) (-1) (-1))) _ _ s
  rw [places_rev]
  exact wpAny_pure h
theorem pick_rev (xs : Array Value) : ((List.range xs.size).filterMap fun (m : Nat) => xs[((xs.size : Int) - 1 + (m : Int) * (-1)).toNat]?).toArray = xs.toList.reverse.toArray := by
  congr 1
  refine List.ext_getElem? fun i => ?_
  have e : ∀ k, k ≤ xs.size → ((List.range k).filterMap fun (m : Nat) => xs[((xs.size : Int) - 1 + (m : Int) * (-1)).toNat]?) = (xs.toList.reverse.take k) := by
    intro k
    induction k with
    | zero => intro _; rfl
    | succ k ih =>
      intro hk
      rw [List.range_succ, List.filterMap_append, ih (by omega), List.take_add_one]
      congr 1
      have h1 : ((xs.size : Int) - 1 + (k : Int) * (-1)).toNat = xs.size - 1 - k := by omega
      have h2 : xs.size - 1 - k < xs.size := by omega
      have h3 : k < xs.toList.reverse.length := by simp; omega
      rw [List.getElem?_eq_getElem h3, List.getElem_reverse]
      simp only [List.filterMap_cons, List.filterMap_nil, h1, Array.getElem?_eq_getElem h2]
      simp
  rw [e xs.size (Nat.le_refl _), List.take_of_length_le (by simp)]
theorem getItem_tuple_rev {t sl : Addr} {items : Array Value} {vl vu vs : Value} {Q : Value → Shared → Prop} (ht : IsTup s.heap t items) (hs : s.heap.IsSliceOf sl vl vu vs) (pl : IsPart vl none) (pu : IsPart vu none) (ps : IsPart vs (some (-1)))
    (h : Q (.ref s.heap.objs.size) { s with heap := s.heap.push { cls := .type "tuple", data := .seq items.toList.reverse.toArray } })
    (hsz : items.size ≤ sizeLine) : wpAny (model prog w) A (getItem (.ref t) (.ref sl)) Q E s := by
  have htake : sizeOk (.seq items.toList.reverse.toArray) := by
    show items.toList.reverse.toArray.size ≤ sizeLine
    simp
    exact hsz
  obtain ⟨os, hos, hcs, hds⟩ := id hs
  have hTs : s.TypeIs (.ref sl) "slice" := ⟨os, hos, hcs⟩
  unfold getItem
  try with_reducible refine wpAny_holding ?_
  first | refine wpAny_bind (wpAny_pure ?_) | skip
  refine wpAny_bind (wpAny_sequenceKey ht.typeIs (by decide) ?_)
  refine wpAny_bind (wpAny_callSpecial?_slot (name := Str.ofString "__getitem__") ht.typeIs PyProof.Rows.slot_tuple_getitem
    (wpAny_call_entry PyProof.Rows.slot_tuple_getitem ht.typeIs entry_tuple_getitem ?_ (args_tuple_getitem _ _)))
  show wpAny _ _ (Builtin.Tuple.tupleItemsOf (.ref t) >>= _) _ _ s
  refine wpAny_bind (tupleItemsOf_ ht ?_)
  refine wpAny_bind (wpAny_typeOf hTs ?_)
  rw [if_pos (by decide)]
  refine wpAny_bind (sliceApplied_rev hs pl pu ps ?_)
  have hno : ¬ ((((items.size : Int) - 1) == 0 && (-1 : Int) == 1 && items.size == items.size) = true) := by simp
  show wpAny _ _ (if (((items.size : Int) - 1) == 0 && (-1 : Int) == 1 && items.size == items.size) = true then _ else _) _ _ s
  rw [if_neg hno, pick_rev]
  first
    | exact wpAny_bind (m := Builtin.Tuple.tupleExact _) (wpAny_newObj_type (wpAny_pure ⟨_, rfl, wpAny_pure h⟩) htake)
    | exact wpAny_bind (m := Builtin.Tuple.tupleExact _) (wpAny_newObj_type (wpAny_bind (wpAny_pure (wpAny_pure ⟨_, rfl, wpAny_pure h⟩))) htake)
    | exact wpAny_bind (wpAny_bind (m := Builtin.Tuple.tupleExact _) (wpAny_newObj_type (wpAny_pure (wpAny_pure ⟨_, rfl, wpAny_pure h⟩)) htake))
    | exact wpAny_bind (wpAny_bind (m := Builtin.Tuple.tupleExact _) (wpAny_newObj_type (wpAny_pure ⟨_, rfl, wpAny_pure h⟩) htake))
end
section
variable {X : Cx} {C : Cls0} {W : Wx}
/-- e[::-1]: a list's is a new list, a tuple's a tuple -/
def tRevA (K : PySem.W.Frag) (te : TE) : TE := fun σ H Q => te σ H fun x H1 => ∃ a xs, x = .ref a ∧ ((SqL K H1 a xs ∧ ∀ p, H1 p = none → Q (.ref p) (upd H1 p (.lst xs.reverse))) ∨ (SqT K H1 a xs ∧ ∀ p, H1 p = none → Q (.ref p) (upd H1 p (.tup xs.reverse))))
theorem pe_revA {e : Expr} {te : TE} {k : Nat} {p1 p2 p3 pos : Pos} (he : PE X e te) : PE X (.Subscript e (.Slice none none (some (.UnaryOp .USub (.Constant (.int 1) k p1) p2)) p3) pos) (tRevA X.K te) := by
  constructor
  intro pins s σ H Q I h
  refine Subscript_ (thn (he.run pins s σ H _ I h) fun v s1 ⟨x, H1, I1, r1, a, xs, ex, hx⟩ => ?_)
  subst ex
  cases r1
  have st : PO X (some (.UnaryOp .USub (.Constant (.int 1) k p1) p2)) (tPart (tUn (rU fun i => .int (-i)) (tC (.int 1)))) := po_some (pe_un un_neg pe_int)
  refine wpAny_Slice (thn (po_none.run pins s1 σ H1 (fun o H2 => o = none ∧ H2 = H1) I1 ⟨rfl, rfl⟩) ?_)
  rintro vl s2 ⟨l, H2, I2, pl, rfl, rfl⟩
  refine thn (po_none.run pins s2 σ H2 (fun o H3 => o = none ∧ H3 = H2) I2 ⟨rfl, rfl⟩) ?_
  rintro vu s3 ⟨u, H3, I3, pu, rfl, rfl⟩
  refine thn (st.run pins s3 σ H3 (fun o H4 => o = some (-1) ∧ H4 = H3) I3 ⟨1, rfl, -1, rfl, rfl, rfl⟩) ?_
  rintro vs s4 ⟨o, H4, I4, ps, rfl, rfl⟩
  have I5 : Inv X pins σ H4 { s4 with heap := s4.heap.push { cls := .type "slice", data := .fields #[vl, vu, vs] } } := I4.kept (t' := s4.toks) fun b ob q => Heap.get?_push_of_some _ q
  show wpAny (model X.prog X.w) X.A (subscriptTail e (.Slice none none (some (.UnaryOp .USub (.Constant (.int 1) k p1) p2)) p3) (.ref a) (.ref s4.heap.objs.size)) (EP X pins σ Q) X.xe { s4 with heap := s4.heap.push { cls := .type "slice", data := .fields #[vl, vu, vs] } }
  rcases hx with ⟨hx, q⟩ | ⟨hx, q⟩
  · obtain ⟨its, r, ht, hz⟩ := I5.list hx
    have hlen := r.length
    refine tail_any (ops := [.ref a, .ref s4.heap.objs.size]) ht.isList.typeIs (PySem.slot_list_getitem.lookup) ?_ (by with_unfolding_all rfl)
    refine wpAny_getItem_list_slice ht.isList (Heap.IsSliceOf.new _ vl vu vs) pl pu ps (by decide) ?_ (by rw [List.size_toArray]; omega)
    rw [PySem.W.krv_pick]
    refine ⟨.ref _, _, I5.laid (t' := s4.toks) (o := .lst xs.reverse) (fun b ob q => Heap.get?_push_of_some _ q) (Nat.le_refl _) ?_, rfl, q _ (I5.hok.fresh (Nat.le_refl _))⟩
    exact ⟨by rw [List.length_reverse]; exact hz, _, 0, r.reverse, Heap.get?_push_size _ rfl⟩
  · obtain ⟨its, r, ht, hz⟩ := I5.tuple hx
    have hlen := r.length
    refine tail_any (ops := [.ref a, .ref s4.heap.objs.size]) ht.typeIs (PyProof.Rows.slot_tuple_getitem.lookup) ?_ (by with_unfolding_all rfl)
    refine getItem_tuple_rev ht (Heap.IsSliceOf.new _ vl vu vs) pl pu ps ?_ (by rw [List.size_toArray]; omega)
    refine ⟨.ref _, _, I5.laid (t' := s4.toks) (o := .tup xs.reverse) (fun b ob q => Heap.get?_push_of_some _ q) (Nat.le_refl _) ?_, rfl, q _ (I5.hok.fresh (Nat.le_refl _))⟩
    exact ⟨by rw [List.length_reverse]; exact hz, _, r.reverse, ⟨_, Heap.get?_push_size _ rfl, rfl, 0, by simp⟩⟩
def fRev (f : EF D) : EF D := fun ρ S => bindR (f ρ S) fun d S1 => match d with
  | .tup xs => okR (.tup xs.reverse) S1
  | .fl xs => okR (.ref S1.length) (S1 ++ [.lst xs.reverse])
  | .ref l => match S1[l]? with
    | some (.lst xs) => okR (.ref S1.length) (S1 ++ [.lst xs.reverse])
    | _ => none
  | _ => none
theorem se_rev {e : Expr} {f : EF D} {k : Nat} {p1 p2 p3 pos : Pos} (a : SE X C W e f) : SE X C W (.Subscript e (.Slice none none (some (.UnaryOp .USub (.Constant (.int 1) k p1) p2)) p3) pos) (fRev f) := by
  refine ⟨PE.imp (pe_revA a.pe) ?_⟩
  rintro σ H Q ⟨mu, S, ρ, R, re, h⟩
  refine ⟨mu, S, ρ, R, re, (PostG.bind (RA := QD X.K) h).mono ?_⟩
  rintro v H1 ⟨mu1, S1, d1, R1, x1, r1, h1⟩
  cases r1 with
  | tup hs hd => exact ⟨_, _, rfl, .inr ⟨hs, fun p hp => h1 mu1 _ _ (R1.new hp) (.new hp) (.tup (.inl (.inl upd_same)) (hd.reverse.mono R1 (.new hp)))⟩⟩
  | fl hs hd => exact ⟨_, _, rfl, .inl ⟨hs.seq, fun p hp => new_list R1 hp hd.reverse h1⟩⟩
  | @ref l hl =>
    simp only at h1
    cases e1 : S1[l]? with
    | none => rw [e1] at h1; exact h1.elim
    | some o =>
      rw [e1] at h1
      cases o with
      | ins _ _ => exact h1.elim
      | dic _ _ => exact h1.elim
      | fdic _ _ => exact h1.elim
      | lst xs =>
        obtain ⟨vs, e2, rd⟩ := R1.obj _ _ e1
        exact ⟨_, vs, rfl, .inl ⟨.of e2, fun p hp => new_list R1 hp rd.reverse h1⟩⟩
  | _ => exact h1.elim
end
end Sh

set_option Elab.async false
set_option linter.all false
set_option maxRecDepth 100000
set_option maxHeartbeats 4000000
set_option autoImplicit false
namespace Sh
open PySem PySem.Spec PySem.Calls PyProof.Rows L2
/-! ### isinstance(e, X), e a caught error with its fields -/
section
variable {prog : Program} {w : World} {A : Around} {E : Value → Shared → Prop} {s : Shared} {K : PySem.W.Frag} {x D : Addr} {ox : Obj} {od : Option Obj}
end
section
variable {X : Cx} {C : Cls0} {W : Wx} {i : Nat}
/-- a suite that hands something back -/
structure SXB (X : Cx) (C : Cls0) (i : Nat) (sts : List Stmt) (f : Ex → EF D) : Prop where
  pss : ∀ (a : Addr) (oe : Obj) (cls : Value) (d : Option Addr) (pn : List (Addr × Obj)), Zc cls d oe → (∃ vs, oe.data = .fields vs) → PSs (X.suite a ((a, oe) :: pn)) sts (tRet (TX' X.K C i a cls d f))
theorem sxb_ret {ex : Expr} {f : Ex → EF D} {pos : Pos} (h : SX X C i ex f) : SXB X C i [.Return (some ex) pos] f := ⟨fun a oe cls d pn z1 z2 => pss_one (ps_ret (h.pe a oe cls d pn z1 z2))⟩
end
end Sh

set_option Elab.async false
set_option linter.all false
set_option maxRecDepth 100000
set_option maxHeartbeats 4000000
set_option autoImplicit false
namespace Sh
open PySem PySem.Spec PyProof.Rows L2 HT
/-! ### t[a:b:k] -/
/-- the items of xs[lo:hi:k] -/
def pickS {α : Type} (xs : List α) (a k : Int) (n : Nat) : List α := (List.range n).filterMap fun (m : Nat) => xs[(a + (m : Int) * k).toNat]?
def stepS {α : Type} (xs : List α) (lo hi : Option Int) (k : Int) : List α :=
  pickS xs (Builtin.Slice.sliceAdjust lo hi k (xs.length : Int)).1 k (Builtin.Slice.slicePlaces (Builtin.Slice.sliceAdjust lo hi k (xs.length : Int)).1 (Builtin.Slice.sliceAdjust lo hi k (xs.length : Int)).2 k)
section
variable {prog : Program} {w : World} {A : Around} {E : Value → Shared → Prop} {s : Shared}
end
section
variable {X : Cx} {C : Cls0} {W : Wx}
end
end Sh

set_option Elab.async false
set_option linter.all false
set_option maxRecDepth 100000
set_option maxHeartbeats 4000000
set_option autoImplicit false
namespace Sh
open PySem PySem.Spec PyProof.Rows L2
/-! ### enumerate(tuple) -/
section
variable {prog : Program} {w : World} {A : Around} {E : Value → Shared → Prop} {s : Shared}
end
section
variable {K : PySem.W.Frag} {C : Cls0} {mu : Nat → Addr} {S : Store} {H : Hp}
end
section
variable {X : Cx} {C : Cls0} {W : Wx}
end
/-! ### x in (a, b), flat items -/
section
variable {C : Cls0}
end
end Sh

set_option Elab.async false
set_option linter.all false
set_option maxRecDepth 100000
set_option maxHeartbeats 4000000
set_option autoImplicit false
namespace Sh
open PySem PySem.Spec PyProof.Rows L2
/-! ### t * k, text * k -/
theorem tuple_mul1 (l : Addr) (items : Array Value) (n : Nat) (dd : Option Addr) (sl : Array (Option Value)) (u : Tok) :
    Meets (Builtin.«tuple.__mul__» ⟨[.ref l, .int 1 u], []⟩) (fun _ R s => s.heap.get? l = some { cls := .type "tuple", dict := dd, data := .seq items n, slots := sl } ∧ R (.ok (.ret (.ref l))) s) := by
  refine .of_wp fun prog w A R s h => ?_
  obtain ⟨hp, g, d, tk, os⟩ := s; obtain ⟨hl, h⟩ := h
  have f1 := AutoSeq1.idx_int
  wp_walk using wpAny_loadPart' hl
  exact ⟨_, rfl, h⟩
def rRep1 (K : PySem.W.Frag) : R2 := fun x y H Q => ∃ l xs, x = .ref l ∧ y = .int 1 ∧ SqT K H l xs ∧ Q (.ref l) H
/-- a text, some times -/
def strRep (x : Str) (k : Nat) : Str := ⟨(List.replicate k x.cps).foldl (· ++ ·) #[]⟩
def rRepS : R2 := fun x y H Q => ∃ (z : Str) (k : Int), x = .str z ∧ y = .int k ∧ 2 ≤ k ∧ k ≤ 1000 ∧ 1 ≤ z.length ∧ z.length ≤ 1000 ∧ Q (.str (strRep z k.toNat)) H
section
variable {X : Cx}
theorem op_rep1 : OpR X (binaryOp .Mult) (rRep1 X.K) := by
  intro pins s σ H x y v u Q I rx ry h
  obtain ⟨l, xs, rfl, rfl, hT, q⟩ := h
  cases rx
  obtain ⟨t, rfl⟩ := ry
  obtain ⟨its, r, ⟨⟨cls, dd, data, sl⟩, ho, hc, n, hd⟩, hs⟩ := I.tuple hT
  simp only at hc hd
  subst hc hd
  refine wpAny_binaryOp_repeat_ref (T := "tuple") (U := "int") (by decide) ⟨_, ho, rfl⟩ (fun s' => typeIs_int s' 1 t) noFill_tuple_mul F.fills_int_mul F.slot_int_rmul repeat_tuple F.slot_int_index.lookup ?_
  refine call_meets F.slot_int_rmul (typeIs_int s 1 t) F.entry_int_rmul (F.args_int_rmul_2 _ _) (int_rmul_tuple 1 t l its.toArray n dd sl) ⟨ho, rfl, ⟨_, ho, rfl⟩, ?_⟩
  exact call_meets F.slot_tuple_mul ⟨_, ho, rfl⟩ F.entry_tuple_mul (F.args_tuple_mul_2 _ _) (tuple_mul1 l its.toArray n dd sl t) ⟨ho, ⟨.ref l, H, I, rfl, q⟩⟩
theorem op_repS : OpR X (binaryOp .Mult) rRepS := by
  intro pins s σ H x y v u Q I rx ry h
  obtain ⟨z, k, rfl, rfl, h1, h2, h3, h4, q⟩ := h
  obtain ⟨t, rfl⟩ := rx
  obtain ⟨t2, rfl⟩ := ry
  have n1 : (k == 1 || z.length == 0) = false := by
    rw [beq_eq_false_iff_ne.mpr (by omega : k ≠ 1), beq_eq_false_iff_ne.mpr (by omega : z.length ≠ 0)]; rfl
  refine PySem.P.mul_str (by rw [decide_eq_false (by omega), decide_eq_false (by omega)]; rfl) (fun _ _ => ?_) (fun _ _ => ?_) ?_
  · have : (1000 : Int) ≤ (2 ^ 63 - 1) / k := by
      rw [Int.le_ediv_iff_mul_le (by omega)]
      omega
    omega
  · have : z.length * k.toNat ≤ 1000 * 1000 := Nat.mul_le_mul h4 (by omega)
    unfold Builtin.Str.tooLong
    rw [sizeLine_eq]
    exact decide_eq_false (by omega)
  · rw [if_neg (by omega), if_neg (by rw [n1]; exact Bool.false_ne_true)]
    have hsz : ∀ (n : Nat) (acc : Array Nat), ((List.replicate n z.cps).foldl (· ++ ·) acc).size = acc.size + n * z.cps.size := by
      intro n
      induction n with
      | zero => intro acc; simp
      | succ n ih => intro acc; rw [List.replicate_succ, List.foldl_cons, ih, Array.size_append, Nat.succ_mul]; omega
    have hl : Str.length (strRep z k.toNat) ≤ 1000 * 1000 := by
      show ((List.replicate k.toNat z.cps).foldl (· ++ ·) #[]).size ≤ _
      rw [hsz]
      have h5 : z.cps.size ≤ 1000 := h4
      have := Nat.mul_le_mul (show k.toNat ≤ 1000 by omega) h5
      simpa using this
    exact ⟨Nat.le_trans hl (by rw [sizeLine_eq]; decide), ⟨.str (strRep z k.toNat), H, I.tok _, ⟨_, rfl⟩, q⟩⟩
end
/-- a * b: ints, tuples, texts -/
def pMulA : P2 := fun d e S => match d, e with
  | .int i, .int j => match gMul i j with
    | some z => okR z S
    | none => none
  | .tup xs, .int k => if xs ≠ [] ∧ 1 ≤ k ∧ k ≤ 1000 ∧ xs.length ≤ 1000 then okR (.tup (List.replicate k.toNat xs).flatten) S else none
  | .str z, .int k => if 2 ≤ k ∧ k ≤ 1000 ∧ 1 ≤ z.length ∧ z.length ≤ 1000 then okR (.str (strRep z k.toNat)) S else none
  | _, _ => none
def rMulA (K : PySem.W.Frag) : R2 := fun x y H Q => (rI CMul fun i j => .int (i * j)) x y H Q ∨ (rRepT K x y H Q ∨ (rRep1 K x y H Q ∨ rRepS x y H Q))
theorem op_mulA {X : Cx} : OpR X (binaryOp .Mult) (rMulA X.K) := op_mul.or (op_repT.or (op_rep1.or op_repS))
theorem rep_rd {K : PySem.W.Frag} {mu : Nat → Addr} {n : Nat} {H : Hp} {vs : List V} {ds : List D} (h : RDs K mu n H vs ds) : ∀ k : Nat, RDs K mu n H (List.replicate k vs).flatten (List.replicate k ds).flatten
  | 0 => .nil
  | k + 1 => by simp only [List.replicate_succ, List.flatten_cons]; exact h.append (rep_rd h k)
section
variable {C : Cls0}
theorem sv_mulA {K : PySem.W.Frag} : Srv2 K C (rMulA K) pMulA := by
  intro XW mu S H x y d e Q R r1 r2 q
  cases r1 with
  | int i =>
    cases r2 with
    | int j => exact .inl (sv_mul XW mu S H _ _ (.int i) (.int j) Q R (.int i) (.int j) q)
    | _ => exact q.elim
  | @tup p vs ds hs hd =>
    cases r2 with
    | int k =>
      simp only [pMulA] at q
      split at q
      · rename_i hc
        obtain ⟨h1, h2, h3, h4⟩ := hc
        have hl := RDs.length hd
        by_cases hk : k = 1
        · subst hk
          refine .inr (.inr (.inl ⟨p, vs, rfl, rfl, hs, q.ok R ?_⟩))
          have e : (List.replicate (1 : Int).toNat ds).flatten = ds := by simp
          rw [e]
          exact .tup hs hd
        · refine .inr (.inl ⟨p, k, vs, rfl, rfl, hs, fun z => h1 (List.eq_nil_of_length_eq_zero (by rw [← hl, z]; rfl)), by omega, h3, by omega, fun p2 hp => q mu _ _ (R.new hp) (.new hp) (.tup (.inl (.inl upd_same)) ((rep_rd hd k.toNat).mono R (.new hp)))⟩)
      · exact q.elim
    | _ => exact q.elim
  | str z =>
    cases r2 with
    | int k =>
      simp only [pMulA] at q
      split at q
      · rename_i hc
        obtain ⟨h1, h2, h3, h4⟩ := hc
        exact .inr (.inr (.inr ⟨z, k, rfl, rfl, h1, h2, h3, h4, q.ok R (.str _)⟩))
      · exact q.elim
    | _ => exact q.elim
  | _ => exact q.elim
end
end Sh

set_option Elab.async false
set_option linter.all false
set_option maxRecDepth 100000
set_option maxHeartbeats 4000000
set_option autoImplicit false
namespace Sh
open PySem PySem.Spec PyProof.Rows L2
section
variable {X : Cx} {C : Cls0} {W : Wx}
end
end Sh

set_option Elab.async false
set_option linter.all false
set_option maxRecDepth 100000
set_option maxHeartbeats 4000000
set_option autoImplicit false
namespace Sh
open PySem PySem.Spec PyProof.Rows L2
/-! ### tuples of numbers compared, x in a tuple of data -/
section
variable {K : PySem.W.Frag} {C : Cls0}
end
end Sh

set_option Elab.async false
set_option linter.all false
set_option maxRecDepth 100000
set_option maxHeartbeats 4000000
set_option autoImplicit false
namespace Sh
open PySem PySem.Spec PyProof.Rows L2
/-! ### several clauses `except X as e`, one behind the other -/
/-- what stands behind a clause whose name is at i: the name is gone -/
def gone (G : Ends) (i : Nat) : Ends := { nx := fun τ J => G.nx (τ.set i none) J, rt := G.rt, bk := fun τ J => G.bk (τ.set i none) J, ct := fun τ J => G.ct (τ.set i none) J }
abbrev Cl := Value × Nat × (Addr → Value → Option Addr → TS)
def wCls (K : PySem.W.Frag) (Wo : WX) (G : Ends) : List Cl → WX
  | [] => Wo
  | q :: r => fun cls d σ H => ∃ b, PySem.W.exmOne K cls q.1 = some b ∧ (b = true → ∀ a, H a = none → q.2.2 a cls d (gone G q.2.1) (σ.set q.2.1 (some (.ref a))) H) ∧ (b = false → wCls K Wo G r cls d σ H)
inductive ClsOk (X : Cx) : List ExceptHandler → List Cl → Prop
  | nil : ClsOk X [] []
  | cons {x n : Str} {i : Nat} {c : Value} {ts : Addr → Value → Option Addr → TS} {b1 : Stmt} {su : List Stmt} {p1 p2 : Pos} {hs : List ExceptHandler} {l : List Cl} (hi : X.N[i]? = some n) (hn : X.env.kindOf n = some .local) (hc : Names X x c)
      (hsu : ∀ (a : Addr) (oe : Obj) (cls : Value) (d : Option Addr) (pn : List (Addr × Obj)), Zc cls d oe → (∃ vs, oe.data = .fields vs) → PSs (X.suite a ((a, oe) :: pn)) (b1 :: su) (ts a cls d)) (r : ClsOk X hs l) :
      ClsOk X (.ExceptHandler (some (.Name x p1)) (some n) (b1 :: su) p2 :: hs) ((c, i, ts) :: l)
section
variable {X : Cx} {body : List Stmt} {h1 : ExceptHandler} {hs : List ExceptHandler} {l : List Cl} {pos : Pos} {tb : WX → TS} {Wo : WX}
theorem ps_tryCls (hst : X.stack = X.env :: X.outer) (hfr0 : X.env.frame = some X.env.locals) (hN : X.N.Nodup) (tk : Takes X Wo)
    (hb : ∀ (W1 : WX) (pn : List (Addr × Obj)) (xe : Value → Shared → Prop), Takes (X.tr pn xe) W1 → PassesOwn (model X.prog X.w) X.A X.env xe → PSs (X.tr pn xe) body (tb W1))
    (hh : ClsOk X (h1 :: hs) l) : PS X (.Try body (h1 :: hs) [] [] pos) (fun G σ H => tb (wCls X.K Wo G l) G σ H) := by
  constructor
  intro pins s σ H G I0 hw
  have ok0 := I0.ok
  have frs0 : X.A.frames = some (X.env :: X.outer) := by rw [ok0.frames, hst]
  refine wpAny_Try_except ?_
  refine wpAny_mono ((hb (wCls X.K Wo G l) (X.pn ++ pins) (fun e s1 => wpAny (model X.prog X.w) X.A (noteFrame e X.env) (fun _ s2 => wpAny (model X.prog X.w) X.A (setFlight e none) (fun _ s3 =>
    wpAny (model X.prog X.w) X.A (handleBy e X.env (h1 :: hs)) (SP X pins G) X.xe s3) X.xe s2) X.xe s1) (fun u t yy => ?_) PassesOwn.looking).run [] s σ H G (I0.toTry _) hw) (fun f s1 fin1 => ?_) (fun e s1 hx => hx)
  · obtain ⟨a, B, sI, pins1, σ1, H1, cls, d, rfl, I1, nb, up1, sky1, na, os, ag, ww⟩ := yy
    have J1 : Inv X pins σ1 H1 sI := I1.ofTry ok0
    have sky2 : Sky B (X.env :: X.outer) a (Zc cls d) X.env.locals t.heap := by rw [← hst]; exact sky1
    show wpAny (model X.prog X.w) X.A (noteFrame (.ref a) X.env) _ _ _
    refine Sky.land Zc.steady frs0 hfr0 sky2 fun g3 fl3 up3 => ?_
    have J3 : Inv X pins σ1 H1 { t with heap := g3 } := J1.landed nb fl3.1 (up1.trans up3) os ag
    obtain ⟨oe3, vs3, he3, hz3, hd3⟩ := fl3.there
    have off : ∀ {g : Heap} {o : Obj} {vs : Array Value}, g.FunFrames B (X.env :: X.outer) → g.get? a = some o → o.data = .fields vs → a ∉ frs (X.env :: X.outer) := by
      intro g o vs ff e0 dd hm
      obtain ⟨_, o2, e2, hnf⟩ := ff.mem hm
      rw [e0] at e2; cases e2
      exact hnf _ dd
    have n0 := off fl3.2.2.1 he3 hd3
    have nL : a ≠ X.env.locals := by
      intro z
      exact n0 (List.mem_filterMap.mpr ⟨X.env, List.mem_cons_self, by rw [hfr0, z]⟩)
    have nF : a ∉ X.fs := by
      intro hm
      obtain ⟨e0, he0, q0⟩ := List.mem_filterMap.mp hm
      exact n0 (List.mem_filterMap.mpr ⟨e0, List.mem_cons_of_mem _ he0, q0⟩)
    have S3 := J3.suite he3 hd3 na nL nF
    have go : ∀ {hs2 : List ExceptHandler} {l2 : List Cl}, ClsOk X hs2 l2 → wCls X.K Wo G l2 cls d σ1 H1 →
        wpAny (model X.prog X.w) X.A (handleBy (.ref a) X.env hs2) (SP X pins G) X.xe { t with heap := g3 } := by
      intro hs2 l2 hk
      induction hk with
      | nil =>
        intro w
        refine wpAny_handleBy_nil ?_
        obtain ⟨k1, k2, k3, oe, vs, T, oT, ts', he, hz, hd, hf1, hr⟩ := id fl3
        unfold PySem.passOn
        refine wpAny_bind (wpAny_field he hd hf1 ?_)
        rw [if_neg (by simp : ¬ ((Value.ref T == Value.none) = true))]
        have fin : wpAny (model X.prog X.w) X.A (setFlight (.ref a) X.env.frame) (fun _ s4 => wpAny (model X.prog X.w) X.A (throw (.ref a) : Sem Flow) (SP X pins G) X.xe s4) X.xe { t with heap := g3 } := by
          rw [hfr0]
          refine HandSPX.setFlight_upZ fl3 fun g4 hg4 up4 => wpAny_throw (tk _ _ ?_)
          exact ⟨a, B, sI, pins, σ1, H1, cls, d, rfl, J1, nb, (up1.trans up3).trans up4, .inr (.inr (by rw [hst]; exact hg4)), na, os, ag, w⟩
        first
          | exact wpAny_bind (wpAny_pure (wpAny_bind fin))
          | exact wpAny_bind fin
      | @cons x n i c ts b1 su p1 p2 hs3 l3 hi hln hc hsu r ih =>
        intro w
        obtain ⟨b, hb1, hyes, hno⟩ := w
        have hloc : Loc X.env.scope n := .inl hln
        refine wpAny_handleBy_cons (codeAny_handlers_test ?_) (by intro q; cases q)
        have LT : PySem.W.Looks (model X.prog X.w) g3 (typeOf (.ref a)) cls := by
          intro A Q E s k q
          exact wpAny_typeOf_ref (k _ _ he3) (by rw [hz3.1]; exact q)
        have LM := PySem.W.exm_one (M := model X.prog X.w) (J3.kIn) LT hb1
        have test : ∀ {Q : Value → Shared → Prop} {E : Value → Shared → Prop}, Q c { t with heap := g3 } → wpAny (model X.prog X.w) (X.A.mark (some (.ref a))) (eval (.Name x p1) X.env) Q E { t with heap := g3 } := by
          intro Q E q
          obtain ⟨hg, hdb, hm | ⟨hm, hv, hnn⟩⟩ := hc
          · exact ld_glob (X := X.suite a ((a, oe3) :: (X.pn ++ pins))) S3 hg hm q hdb
          · exact ld_blt (X := X.suite a ((a, oe3) :: (X.pn ++ pins))) S3 hg hm hv q hnn hdb
        refine test (LM.here ?_)
        cases b with
        | true =>
          refine codeAny_handlers_suite_as ?_
          refine HandSPX.lands_againZ fl3 fun g4 fl4 up4 => ?_
          have J4 : Inv X pins σ1 H1 { t with heap := g4 } := J1.landed nb fl4.1 ((up1.trans up3).trans up4) os ag
          obtain ⟨oe4, vs4, he4, hz4, hd4⟩ := fl4.there
          have S4 := J4.suite he4 hd4 na nL nF
          refine store_ok (X := X.suite a ((a, oe4) :: (X.pn ++ pins))) (v := .ref a) S4 hN hi hloc rfl (fun s5 S5 => ?_) (.inr hln)
          refine wpAny_mono ((hsu a oe4 cls d (X.pn ++ pins) hz4 ⟨_, hd4⟩).run [] s5 _ H1 _ S5 (hyes rfl a na)) (fun f s6 fin6 => ?_) (fun _ _ z => z.elim)
          have away : ∀ {τ : L2.St} {J : Hp} {Q : Shared → Prop}, Inv (X.suite a ((a, oe4) :: (X.pn ++ pins))) [] τ J s6 → (∀ s7, Inv X pins (τ.set i none) J s7 → Q s7) →
              wpAny (model X.prog X.w) X.A (do bindName X.env n .none; unbindBehindTheSuite X.env n p2) (fun _ s7 => Q s7) X.xe s6 := by
            intro τ J Q S6 hq
            exact gone_ok (S6.unsuite ok0) hN hi hln hq
          cases f with
          | next => obtain ⟨τ, J, S6, q6⟩ := fin6; exact away S6 fun s7 J7 => ⟨_, _, J7, q6⟩
          | brk => obtain ⟨τ, J, S6, q6⟩ := fin6; exact away S6 fun s7 J7 => ⟨_, _, J7, q6⟩
          | cont => obtain ⟨τ, J, S6, q6⟩ := fin6; exact away S6 fun s7 J7 => ⟨_, _, J7, q6⟩
          | ret u => obtain ⟨v6, τ, J, S6, r6, q6⟩ := fin6; exact away S6 fun s7 J7 => ⟨_, _, _, J7, r6, q6⟩
        | false =>
          show wpAny _ X.A (handleBy (.ref a) X.env hs3) _ _ _
          exact ih (hno rfl)
    exact go hh ww
  · cases f with
    | next => obtain ⟨τ, J, J', q⟩ := fin1; exact wpAny_execs_nil ⟨τ, J, J'.ofTry ok0, q⟩
    | brk => obtain ⟨τ, J, J', q⟩ := fin1; exact ⟨τ, J, J'.ofTry ok0, q⟩
    | cont => obtain ⟨τ, J, J', q⟩ := fin1; exact ⟨τ, J, J'.ofTry ok0, q⟩
    | ret u => obtain ⟨v, τ, J, J', r, q⟩ := fin1; exact ⟨v, τ, J, J'.ofTry ok0, r, q⟩
end
end Sh

set_option Elab.async false
set_option linter.all false
set_option maxRecDepth 100000
set_option maxHeartbeats 4000000
set_option autoImplicit false
namespace Sh
open PySem PySem.Spec PyProof.Rows L2
/-! ### try with several clauses -/
abbrev Cls1 := List (Str × Bool) × Nat × (Ex → EF D)
abbrev hNil : List Cls1 := []
abbrev hCons (mt : List (Str × Bool)) (i : Nat) (f : Ex → EF D) (r : List Cls1) : List Cls1 := (mt, i, f) :: r
def hdl : List Cls1 → Ex → Rho → Store → Rf
  | [], e, ρ', S' => some (.exn e ρ', S')
  | q :: r, e, ρ', S' => match q.1.lookup e.1 with
    | some true => if q.2.1 < ρ'.length then match q.2.2 e (ρ'.set q.2.1 none) S' with
      | some (.ok d, S2) => some (.ret d, S2)
      | _ => none
      else none
    | some false => hdl r e ρ' S'
    | none => none
def sTryM (b : SF) (l : List Cls1) : SF := fun ρ S => match b ρ S with
  | some (.exn e ρ', S') => hdl l e ρ' S'
  | r => r
inductive SHs (X : Cx) (C : Cls0) : List ExceptHandler → List Cl → List Cls1 → Prop
  | nil : SHs X C [] [] []
  | cons {x n : Str} {i : Nat} {c : Addr} {b0 : Stmt} {su : List Stmt} {np pos' : Pos} {mt : List (Str × Bool)} {f : Ex → EF D} {hs : List ExceptHandler} {l : List Cl} {m : List Cls1} (hgx : X.mg x = some (.ref c))
      (hmt : ∀ y v, mt.lookup y = some v → ∀ A, C y A → PySem.W.exmOne X.K (.ref A) (.ref c) = some v) (hsu : SXB X C i (b0 :: su) f)
      (hi : X.N[i]? = some n) (hln : X.env.kindOf n = some .local) (hg : Gl X x) (hdb : (x == ("__debug__" : Str)) = false) (r : SHs X C hs l m) :
      SHs X C (.ExceptHandler (some (.Name x np)) (some n) (b0 :: su) pos' :: hs) ((.ref c, i, fun a cls d => tRet (TX' X.K C i a cls d f)) :: l) ((mt, i, f) :: m)
section
variable {X : Cx} {C : Cls0} {W : Wx}
theorem shs_cons {x n : Str} {i : Nat} {c : Addr} {b0 : Stmt} {su : List Stmt} {np pos' : Pos} {mt : List (Str × Bool)} {f : Ex → EF D} {hs : List ExceptHandler} {l : List Cl} {m : List Cls1} (hgx : X.mg x = some (.ref c))
      (hmt : ∀ y v, mt.lookup y = some v → ∀ A, C y A → PySem.W.exmOne X.K (.ref A) (.ref c) = some v) (hsu : SXB X C i (b0 :: su) f) (r : SHs X C hs l m)
      (hi : X.N[i]? = some n := by rfl) (hln : X.env.kindOf n = some .local := by rfl) (hg : Gl X x := by rfl) (hdb : (x == ("__debug__" : Str)) = false := by decide) :
      SHs X C (.ExceptHandler (some (.Name x np)) (some n) (b0 :: su) pos' :: hs) ((.ref c, i, fun a cls d => tRet (TX' X.K C i a cls d f)) :: l) ((mt, i, f) :: m) := .cons hgx hmt hsu hi hln hg hdb r
theorem SHs.ok {hs : List ExceptHandler} {l : List Cl} {m : List Cls1} (h : SHs X C hs l m) : ClsOk X hs l := by
  induction h with
  | nil => exact .nil
  | cons hgx hmt hsu hi hln hg hdb r ih => exact .cons hi hln ⟨hg, hdb, .inl hgx⟩ hsu.pss ih
theorem ss_tryM {body : List Stmt} {h1 : ExceptHandler} {hs : List ExceptHandler} {l : List Cl} {m : List Cls1} {pos : Pos} {b : SF} (hst : X.stack = X.env :: X.outer) (hf : X.env.frame = some X.env.locals) (hN : X.N.Nodup) (tk : Takes X W)
    (hb : ∀ (W' : Wx) (pn : List (Addr × Obj)) (xe : Value → Shared → Prop), Takes (X.tr pn xe) W' → PassesOwn (model X.prog X.w) X.A X.env xe → SB (X.tr pn xe) C W' body b) (hh : SHs X C (h1 :: hs) l m) :
    SS X C W (.Try body (h1 :: hs) [] [] pos) (sTryM b m) := by
  refine ⟨PS.imp (ps_tryCls (tb := fun W' => TS' X.K C W' b) (Wo := W) hst hf hN tk (fun W' pn xe tk' po => (hb W' pn xe tk' po).pss) hh.ok) ?_⟩
  rintro Dn σ H ⟨mu, S, ρ, R, re, h⟩
  refine ⟨mu, S, ρ, R, re, ?_⟩
  unfold sTryM at h
  cases e : b ρ S with
  | none => rw [e] at h; exact h.elim
  | some p =>
    obtain ⟨fl, S'⟩ := p
    rw [e] at h
    cases fl with
    | nx ρ' => exact h
    | ret d => exact h
    | bk ρ' => exact h
    | ct ρ' => exact h
    | exn er ρ' =>
      intro mu' H' A dx vs σ' R' y hC hd rf re'
      simp only at h
      clear e
      have key : ∀ {hs2 : List ExceptHandler} {l2 : List Cl} {m2 : List Cls1}, SHs X C hs2 l2 m2 → PostS X.K C W mu S.length H (hdl m2 er ρ' S') Dn → wCls X.K W Dn l2 (.ref A) (some dx) σ' H' := by
        intro hs2 l2 m2 hk
        induction hk with
        | nil => exact fun h => h mu' H' A dx vs σ' R' y hC hd rf re'
        | @cons x n i c b0 su np pos' mt f hs l m hgx hmt hsu hi hln hg hdb r ih =>
          intro h
          unfold hdl at h
          simp only at h
          cases e1 : mt.lookup er.1 with
          | none => rw [e1] at h; exact h.elim
          | some v =>
            rw [e1] at h
            refine ⟨v, hmt _ _ e1 A hC, fun hv a ha => ?_, fun hv => ?_⟩
            · subst hv
              simp only at h
              have re2 : RE X.K mu' S'.length H' (σ'.set i (some (.ref a))) (ρ'.set i none) := by
                refine ⟨by simp [re'.len], fun j d q => ?_⟩
                by_cases hj : i = j
                · subst hj
                  by_cases hl : i < ρ'.length
                  · rw [List.getElem?_set_self hl] at q; cases q
                  · rw [List.getElem?_eq_none (by simpa using hl)] at q; cases q
                · rw [List.getElem?_set_ne hj] at q
                  obtain ⟨w, q1, q2⟩ := re'.get j d q
                  exact ⟨w, by rw [List.getElem?_set_ne hj]; exact q1, q2⟩
              by_cases hl : i < ρ'.length
              · rw [if_pos hl] at h
                refine ⟨mu', S', ρ'.set i none, er, R', re2, List.getElem?_set_self (re'.len ▸ hl), ⟨A, dx, vs, rfl, rfl, hC, hd, rf⟩, ?_⟩
                cases e2 : f er (ρ'.set i none) S' with
                | none => rw [e2] at h; exact h.elim
                | some q2 =>
                  obtain ⟨z, S2⟩ := q2
                  rw [e2] at h
                  cases z with
                  | error _ => exact h.elim
                  | ok d => exact fun mu2 H2 v2 R2 y2 r2 => h mu2 H2 v2 R2 (y.trans y2) r2
              · rw [if_neg hl] at h; exact h.elim
            · subst hv
              exact ih h
      exact key hh h
/-! ### range as a value, range with a step -/
def rgN (lo hi st : Int) : Nat := (Builtin.Range.rangeSize lo hi st).toNat
def rgOk (lo hi st : Int) : Bool := decide (st ≠ 0) && decide (st.natAbs < 1073741824) && Builtin.Range.small lo hi st && decide (0 ≤ Builtin.Range.rangeSize lo hi st)
theorem rgOk_c {lo hi st : Int} (h : rgOk lo hi st = true) : RgC lo hi st (rgN lo hi st) := by
  simp only [rgOk, Bool.and_eq_true, decide_eq_true_eq] at h
  obtain ⟨⟨⟨h1, h2⟩, h3⟩, h4⟩ := h
  exact ⟨h1, h2, h3, (Int.toNat_of_nonneg h4).symm⟩
def dStep (lo st : Int) (n : Nat) : List D := (List.range n).map fun i => D.int (lo + (i : Nat) * st)
theorem dStep_length {lo st : Int} {n : Nat} : (dStep lo st n).length = n := by simp [dStep]
theorem itg_step {K : PySem.W.Frag} {mu : Nat → Addr} {S : Store} {H : Hp} {lo st : Int} {n : Nat} : ItG K C (Itc lo st n) (dStep lo st n) [] mu S.length H where
  go := fun mu' S' H' i R' x _ hi => by rw [dStep_length] at hi; exact hi
  yld := fun mu' S' H' i v H'' R' x _ hi y => by
    obtain ⟨rfl, rfl⟩ := y
    rw [dStep_length] at hi
    exact ⟨.int (lo + (i : Nat) * st), by simp [dStep, hi], R', .refl, .int _⟩
  stop := fun mu' S' H' R' x _ => by show n ≤ (dStep lo st n).length; rw [dStep_length]; exact Nat.le_refl _
def iR3 (g : EF (List D)) : IF := fun ρ S => bindR (g ρ S) fun ds S1 => match ds with
  | [.int i, .int j, .int k] => if rgOk i j k = true then okR (dStep i k (rgN i j k), []) S1 else none
  | _ => none
theorem si_range3 {tg a b c : Expr} {p pos : Pos} {g : EF (List D)} (hm : X.mg "range" = none) (ha : SA X C W [a, b, c] g) (hg : Gl X "range" := by rfl) (hs : starEach [a, b, c] X.env = (false, eval a X.env) :: starEach [b, c] X.env := by rfl) (hpl : (backTo pos (starEach [b, c] X.env)).any (·.1) = false := by rfl) :
    SI X C W tg (.Call (.Name "range" p) [a, b, c] [] pos) (iR3 g) := by
  refine ⟨PI.imp (pi_range3 hg hm ha.pa hs hpl) ?_⟩
  rintro σ H Q ⟨mu, S, ρ, R, re, h⟩
  refine ⟨mu, S, ρ, R, re, (PostG.bind (RA := QDs X.K) h).mono ?_⟩
  rintro v H1 ⟨mu1, S1, d1, R1, x1, r1, h1⟩
  split at h1
  · rename_i i j k
    cases r1 with
    | cons r rr =>
      cases r
      cases rr with
      | cons r' rr =>
        cases r'
        cases rr with
        | cons r'' rr =>
          cases r''
          cases rr
          split at h1
          · rename_i hk
            exact ⟨i, j, k, _, rfl, rgOk_c hk, h1.ok R1 itg_step⟩
          · exact h1.elim
  · exact h1.elim
/-! ### gcd; min and max of two numbers -/
end
/-! ### min and max of data that are alike -/
section
variable {K : PySem.W.Frag} {mu : Nat → Addr} {n : Nat} {H : Hp}
end
section
variable {X : Cx}
end
section
variable {K : PySem.W.Frag} {C : Cls0}
end
end Sh

set_option Elab.async false
set_option linter.all false
set_option maxRecDepth 100000
set_option maxHeartbeats 4000000
set_option autoImplicit false
namespace Sh
open PySem PySem.Spec PyProof.Rows L2
/-! ### a dict whose keys are nested tuples, all its values True: made by a comprehension, read by list() -/
mutual
def nkD : D → Option NestedKey
  | .non => some .none
  | .int i => some (.num i)
  | .str x => some (.text x)
  | .tup ds => (nkDs ds).map .tup
  | _ => none
def nkDs : List D → Option (List NestedKey)
  | [] => some []
  | d :: ds => match nkD d, nkDs ds with
    | some k, some ks => some (k :: ks)
    | _, _ => none
end
section
variable {X : Cx} {pins : List (Addr × Obj)} {σ : L2.St} {H : Hp} {s : Shared} {mu : Nat → Addr} {n : Nat}
mutual
theorem nk_is (I : Inv X pins σ H s) : ∀ (d : D) (v : V) (u : Value) (k : NestedKey), RD X.K mu n H v d → RelV v u → nkD d = some k → NestedIs s.heap k u
  | .non, v, u, k, r, e, h => by
    cases r; cases e; simp only [nkD, Option.some.injEq] at h; subst h; exact .none
  | .int i, v, u, k, r, e, h => by
    cases r; obtain ⟨t, rfl⟩ := e; simp only [nkD, Option.some.injEq] at h; subst h; exact .int i t
  | .str x, v, u, k, r, e, h => by
    cases r; obtain ⟨t, rfl⟩ := e; simp only [nkD, Option.some.injEq] at h; subst h; exact .text x t
  | .tup ds, v, u, k, r, e, h => by
    cases r with
    | tup hs hd =>
      cases e
      simp only [nkD, Option.map_eq_some_iff] at h
      obtain ⟨ks, h, rfl⟩ := h
      obtain ⟨its, rv, ⟨o, ho, hc, m, hm⟩, _⟩ := I.tuple hs
      exact .tup ho hc hm (nks_is I ds _ its ks hd (by simpa using rv) h)
  | .bl _, _, _, _, _, _, h => by simp [nkD] at h
  | .ref _, _, _, _, _, _, h => by simp [nkD] at h
  | .fl _, _, _, _, _, _, h => by simp [nkD] at h
  | .rng _ _ _, _, _, _, _, _, h => by simp [nkD] at h
  | .gd _, _, _, _, _, _, h => by simp [nkD] at h
theorem nks_is (I : Inv X pins σ H s) : ∀ (ds : List D) (vs : List V) (us : List Value) (ks : List NestedKey), RDs X.K mu n H vs ds → Vals vs us → nkDs ds = some ks → NestedAll s.heap ks us
  | [], vs, us, ks, r, e, h => by
    cases r; cases e; simp only [nkDs, Option.some.injEq] at h; subst h; exact .nil
  | d :: ds, vs, us, ks, r, e, h => by
    cases r with
    | cons r1 r2 =>
      cases e with
      | cons e1 e2 =>
        simp only [nkDs] at h
        split at h
        · rename_i k ks' h1 h2
          cases h
          exact .cons (nk_is I d _ _ k r1 e1 h1) (nks_is I ds _ _ ks' r2 e2 h2)
        · cases h
end
end
def nkE (w : World) (q : NK) : DictEntry := ⟨q.1.hash w, .ref q.2, .bool true⟩
/-- the dict at D, by its entries -/
def dNF (w : World) (D : Addr) (ks : List NK) : Heap → Prop := fun h => (D == sysModules) = false ∧ ∃ es ep, h.DictRaw D es ep ∧ es.toList = ks.map (nkE w)
def dO (w : World) (D : Addr) (ks : List NK) : HO := .ext (dNF w D ks)
def putN (ks : List NK) (k : NestedKey) (a : Addr) : List NK := if ks.any (fun q => decide (q.1 = k)) then ks else ks ++ [(k, a)]
section
variable {X : Cx} {pins : List (Addr × Obj)} {σ : L2.St} {H : Hp} {s : Shared}
/-- list(d) -/
theorem kdl_raw {prog : Program} {w : World} {d : Addr} {es : Array DictEntry} {ep : Nat} (lo : (d == sysModules) = false) : PySem.W.KdlSrc prog w "dict" d d es.size (fun i v => ∃ hi : i < es.size, v = es[i].key) (fun h => h.DictRaw d es ep) where
  type := fun _ hm => hm.typeIs
  there := fun _ hm => let ⟨_, ho, _⟩ := hm; ⟨Heap.lt_size ho, Heap.lt_size ho⟩
  keep := fun _ _ hm hk => hm.at fun o e => hk d (.inl rfl) o e
  notList := by decide
  notTuple := by decide
  hint := fun _ _ _ _ hm hq => PySem.W.kdl_hint_dict hm.typeIs hq
  iter := fun _ s hh hm => ⟨_, _, (fun _ _ hq => wpAny_pyIter_dict_raw lo hm hq), Walks.rawKeys hh _ d (Nat.ne_of_lt (let ⟨_, ho, _⟩ := hm; Heap.lt_size ho)) es ep, ⟨⟨_, Heap.get?_push_size _ rfl, rfl, rfl⟩, hm.at fun o e => Heap.get?_push_of_some _ e⟩⟩
end
end Sh

set_option Elab.async false
set_option linter.all false
set_option maxRecDepth 100000
set_option maxHeartbeats 4000000
set_option autoImplicit false
namespace Sh
open PySem PySem.Spec PyProof.Rows L2
/-! ### {k: True for x in a for y in b} -/
section
variable {prog : Program} {w : World} {A : Around} {R : Result → Shared → Prop} {s : Shared} {kx vx t0 i0 t1 i1 : Expr} {scope : Scope} {pos : Pos} {it : Value} {D : Addr} {env : Env}
end
end Sh

set_option Elab.async false
set_option linter.all false
set_option maxRecDepth 100000
set_option maxHeartbeats 4000000
set_option autoImplicit false
namespace Sh
open PySem PySem.Spec PyProof.Rows L2
/-- the tuple at q.2 is the key q.1 -/
def NkH (K : PySem.W.Frag) (H : Hp) (q : NK) : Prop := q.1.depth ≤ 8 ∧ ∃ mu n d, RD K mu n H (.ref q.2) d ∧ nkD d = some q.1
theorem NkH.is {X : Cx} {pins : List (Addr × Obj)} {σ : L2.St} {H : Hp} {s : Shared} {q : NK} (I : Inv X pins σ H s) (h : NkH X.K H q) : (nestedKind X.prog X.w).is s.heap q.1 q.2 := by
  obtain ⟨h1, mu, n, d, h2, h3⟩ := h
  exact ⟨nk_is I d _ _ _ h2 rfl h3, h1⟩
def NkP (K : PySem.W.Frag) (w : World) (D : Addr) (y z : V) (H : Hp) (Nx : Hp → Prop) : Prop := z = .bl true ∧ ∃ ks a k, y = .ref a ∧ H D = some (dO w D ks) ∧ ks.length ≤ sizeLine ∧ (ks.map (·.1)).Nodup ∧ (∀ q ∈ ks, NkH K H q) ∧ NkH K H (k, a) ∧ Nx (upd H D (dO w D (putN ks k a)))
section
variable {X : Cx}
end
end Sh

set_option Elab.async false
set_option linter.all false
set_option maxRecDepth 100000
set_option maxHeartbeats 4000000
set_option autoImplicit false
namespace Sh
open PySem PySem.Spec PyProof.Rows L2
theorem dNF_rg (w : World) (D : Addr) (ks : List NK) (a : Addr) (lo hi st : Int) : dO w D ks ≠ .ext (rgF a lo hi st) := by
  intro e
  have e1 : dNF w D ks = rgF a lo hi st := by
    unfold dO at e
    exact HO.ext.inj e
  have h1 : rgF a lo hi st { objs := Array.replicate (a + 1) { cls := .type "range", data := .fields #[.int lo 0, .int hi 0, .int st 0] } } := by
    refine ⟨0, 0, 0, ?_⟩
    unfold Heap.get?
    simp [Array.getElem?_replicate]
  rw [← e1] at h1
  obtain ⟨_, es, ep, ⟨o, ho, hx, hd⟩, _⟩ := h1
  unfold Heap.get? at ho
  simp only [Array.getElem?_replicate] at ho
  split at ho
  · cases ho
  · rename_i o' ho' hn
    split at ho
    · cases ho
      have := hx.1
      simp at this
    · cases ho
def putD (acc : List D) (y : D) : Option (List D) := match y, nkD y with
  | .tup _, some k => if k.depth ≤ 8 then if acc.any (fun d => decide (nkD d = some k)) then some acc else some (acc ++ [y]) else none
  | _, _ => none
section
variable {K : PySem.W.Frag} {C : Cls0} {mu : Nat → Addr} {n : Nat} {S : Store} {H H1 : Hp} {w : World} {p : Addr} {ks ls : List NK}
theorem offRg (hp : H p = some (dO w p ks)) {u : HO} : (∀ a vs, SqT K H a vs → SqT K (upd H p u) a vs) ∧ (∀ a vs, FzL K H a vs → FzL K (upd H p u) a vs) ∧ (∀ a i j k, RgV H a i j k → RgV (upd H p u) a i j k) := by
  refine ⟨fun a vs' z => ?_, fun a vs' z => ?_, fun a i j k z => ?_⟩
  · rcases z with (z | ⟨o, z⟩) | z
    · exact .inl (.inl (by rw [upd_ne (ne_of z hp (fun q => by cases q))]; exact z))
    · exact .inl (.inr ⟨o, by rw [upd_ne (ne_of z hp (fun q => by cases q))]; exact z⟩)
    · exact .inr z
  · rcases z with ⟨o, z⟩ | z
    · exact .inl ⟨o, by rw [upd_ne (ne_of z hp (fun q => by cases q))]; exact z⟩
    · exact .inr z
  · unfold RgV at z ⊢
    rw [upd_ne (ne_of z hp (fun q => dNF_rg _ _ _ _ _ _ _ q.symm))]
    exact z
theorem Rel.offN (R : Rel K C mu S H) (hp : H p = some (dO w p ks)) (hf : ∀ l, l < S.length → mu l ≠ p) : Rel K C mu S (upd H p (dO w p ls)) :=
  let ⟨h1, h2, h3⟩ := offRg (K := K) hp (u := dO w p ls)
  ⟨R.inj, fun l ob e => (R.obj l ob e).mv (fun _ _ => rfl) (Nat.le_refl _) h1 h2 h3 (by rw [upd_ne (hf l (List.getElem?_eq_some_iff.mp e).1)])⟩
theorem RDs.offN {ds : List D} {us : List V} (hp : H p = some (dO w p ks)) (r : RDs K mu n H us ds) : RDs K mu n (upd H p (dO w p ls)) us ds :=
  let ⟨h1, h2, h3⟩ := offRg (K := K) hp (u := dO w p ls)
  r.mv h1 h2 h3 (fun _ _ => rfl) (Nat.le_refl _)
theorem Ext.offN {mu0 : Nat → Addr} {n0 : Nat} {H0 : Hp} (x : Ext mu0 n0 H0 mu n H) (h0 : H0 p = none) : Ext mu0 n0 H0 mu n (upd H p (dO w p ls)) :=
  ⟨x.le, x.same, fun a o e h => by rw [upd_ne (ne_of_none e h0)]; exact x.frame a o e h, fun a o e => by rw [upd_ne (ne_of_none e h0)]; exact x.keep a o e, x.fresh, fun a ob k e => by rw [upd_ne (ne_of_none e h0)]; exact x.fz a ob k e⟩
end
end Sh

set_option Elab.async false
set_option linter.all false
set_option maxRecDepth 100000
set_option maxHeartbeats 4000000
set_option autoImplicit false
namespace Sh
open PySem PySem.Spec PyProof.Rows L2
/-- what the dict at D holds -/
structure DN (K : PySem.W.Frag) (C : Cls0) (w : World) (mu1 : Nat → Addr) (n1 : Nat) (H1 : Hp) (Dd : Addr) (mu : Nat → Addr) (S : Store) (H : Hp) (ks : List NK) (acc : List D) : Prop where
  rel : Rel K C mu S H
  ext : Ext mu1 n1 H1 mu S.length H
  at' : H Dd = some (dO w Dd ks)
  rds : RDs K mu S.length H (ks.map fun q => V.ref q.2) acc
  keys : acc.map nkD = ks.map fun q => some q.1
  deep : ∀ q ∈ ks, q.1.depth ≤ 8
  nod : (ks.map (·.1)).Nodup
  off : ∀ l, l < S.length → mu l ≠ Dd
section
variable {K : PySem.W.Frag} {C : Cls0} {w : World} {mu1 mu mu' : Nat → Addr} {n1 : Nat} {H1 H H' : Hp} {D0 : Addr} {S S' : Store} {ks : List NK} {acc acc2 : List D}
theorem awayN {n n' : Nat} (x : Ext mu n H mu' n' H') (hD : H D0 = some (dO w D0 ks)) (hf : ∀ l, l < n → mu l ≠ D0) : H' D0 = some (dO w D0 ks) ∧ ∀ l, l < n' → mu' l ≠ D0 := by
  refine ⟨x.frame _ _ hD hf, fun l hl e => ?_⟩
  by_cases hl2 : l < n
  · exact hf l hl2 ((x.same l hl2).symm.trans e)
  · have z := x.fresh l (Nat.le_of_not_lt hl2) hl
    rw [e, hD] at z; cases z
theorem DN.step (h : DN K C w mu1 n1 H1 D0 mu S H ks acc) (R : Rel K C mu' S' H') (x : Ext mu S.length H mu' S'.length H') : DN K C w mu1 n1 H1 D0 mu' S' H' ks acc :=
  let ⟨a, b⟩ := awayN x h.at' h.off
  ⟨R, h.ext.trans x, a, h.rds.mono h.rel x, h.keys, h.deep, h.nod, b⟩
theorem DN.len (h : DN K C w mu1 n1 H1 D0 mu S H ks acc) : ks.length = acc.length := by
  have := congrArg List.length h.keys
  simpa using this.symm
theorem rds_pick : ∀ {ks : List NK} {acc : List D}, RDs K mu S.length H (ks.map fun q => V.ref q.2) acc → acc.map nkD = ks.map (fun q => some q.1) → ∀ q ∈ ks, ∃ d, RD K mu S.length H (.ref q.2) d ∧ nkD d = some q.1
  | [], _, _, _, q, hq => by simp at hq
  | k :: ks, acc, r, e, q, hq => by
    cases acc with
    | nil => simp at e
    | cons d ds =>
      simp only [List.map_cons] at r e
      cases r with
      | cons r1 r2 =>
        rw [List.cons.injEq] at e
        rcases List.mem_cons.mp hq with rfl | hq
        · exact ⟨d, r1, e.1⟩
        · exact rds_pick r2 e.2 q hq
theorem DN.put (h : DN K C w mu1 n1 H1 D0 mu S H ks acc) (h0 : H1 D0 = none) {y : V} {d : D} (r : RD K mu S.length H y d) (e : putD acc d = some acc2) (hz : acc.length ≤ 16777216) {Nx : Hp → Prop}
    (hn : ∀ ks', DN K C w mu1 n1 H1 D0 mu S (upd H D0 (dO w D0 ks')) ks' acc2 → Nx (upd H D0 (dO w D0 ks'))) : NkP K w D0 y (.bl true) H Nx := by
  unfold putD at e
  split at e
  · rename_i ds k ek
    split at e
    · rename_i hd
      cases r with
      | @tup a vs _ hs hds =>
        have hany : acc.any (fun d => decide (nkD d = some k)) = ks.any (fun q => decide (q.1 = k)) := by
          have hk := h.keys
          clear hn e h
          induction acc generalizing ks with
          | nil => cases ks with
            | nil => rfl
            | cons _ _ => simp at hk
          | cons x acc ih => cases ks with
            | nil => simp at hk
            | cons q ks =>
              simp only [List.map_cons, List.cons.injEq] at hk
              simp only [List.any_cons, hk.1, ih (Nat.le_of_succ_le hz) hk.2]
              congr 1
              simp
        refine ⟨rfl, ks, a, k, rfl, h.at', by rw [sizeLine_16, h.len]; exact hz, h.nod, fun q hq => ⟨h.deep q hq, ?_⟩, ⟨hd, mu, S.length, _, .tup hs hds, ek⟩, hn _ ?_⟩
        · obtain ⟨d, q1, q2⟩ := rds_pick h.rds h.keys q hq
          exact ⟨mu, S.length, d, q1, q2⟩
        · unfold putN
          rw [← hany]
          split at e
          · rename_i hc
            cases e
            rw [if_pos hc]
            exact ⟨h.rel.offN h.at' h.off, h.ext.offN h0, upd_same, h.rds.offN h.at', h.keys, h.deep, h.nod, h.off⟩
          · rename_i hc
            cases e
            rw [if_neg hc]
            refine ⟨h.rel.offN h.at' h.off, h.ext.offN h0, upd_same, ?_, by simp [h.keys, ek], ?_, ?_, h.off⟩
            · rw [List.map_append]
              exact (h.rds.append (.cons (.tup hs hds) .nil)).offN h.at'
            · intro q hq
              rcases List.mem_append.mp hq with hq | hq
              · exact h.deep q hq
              · simp at hq; subst hq; exact hd
            · rw [List.map_append, List.nodup_append]
              refine ⟨h.nod, by simp, ?_⟩
              intro x hx z hz' hxz
              simp at hz'
              subst hz' hxz
              rw [hany] at hc
              obtain ⟨q, hq, rfl⟩ := List.mem_map.mp hx
              exact hc (List.any_eq_true.mpr ⟨q, hq, by simp⟩)
    · cases e
  · cases e
end

inductive Src (K : PySem.W.Frag) (mu : Nat → Addr) (n : Nat) (H : Hp) : It → List D → Chk → Prop
  | tup {a : Addr} {vs : List V} {ds : List D} : SqT K H a vs → RDs K mu n H vs ds → Src K mu n H (Itt K a) ds []
  | fl {a : Addr} {vs : List V} {ds : List D} : FzL K H a vs → RDs K mu n H vs ds → Src K mu n H (Itl K a) ds []
  | ref {a : Addr} {l : Nat} {ds : List D} : l < n → mu l = a → Src K mu n H (Itl K a) ds [(l, ds)]
section
variable {K : PySem.W.Frag} {C : Cls0} {w : World} {mu mu' : Nat → Addr} {H H' : Hp} {D0 : Addr} {S S' : Store} {ks ls : List NK} {J : It} {ds : List D} {ck : Chk}
theorem Src.mono (R : Rel K C mu S H) (x : Ext mu S.length H mu' S'.length H') (h : Src K mu S.length H J ds ck) : Src K mu' S'.length H' J ds ck := by
  cases h with
  | tup h1 h2 => exact .tup (x.sqT R h1) (h2.mono R x)
  | fl h1 h2 => exact .fl (x.fzL R h1) (h2.mono R x)
  | ref h1 h2 => exact .ref (Nat.lt_of_lt_of_le h1 x.le) ((x.same _ h1).trans h2)
theorem Src.offN {n : Nat} (hp : H D0 = some (dO w D0 ks)) (h : Src K mu n H J ds ck) : Src K mu n (upd H D0 (dO w D0 ls)) J ds ck := by
  obtain ⟨q1, q2, q3⟩ := offRg (K := K) hp (u := dO w D0 ls)
  cases h with
  | tup h1 h2 => exact .tup (q1 _ _ h1) (h2.offN hp)
  | fl h1 h2 => exact .fl (q2 _ _ h1) (h2.offN hp)
  | ref h1 h2 => exact .ref h1 h2
theorem RE.offN {n : Nat} {σ : L2.St} {ρ : Rho} (hp : H D0 = some (dO w D0 ks)) (r : RE K mu n H σ ρ) : RE K mu n (upd H D0 (dO w D0 ls)) σ ρ :=
  let ⟨q1, q2, q3⟩ := offRg (K := K) hp (u := dO w D0 ls)
  ⟨r.len, fun i d e => let ⟨v, e1, h⟩ := r.get i d e; ⟨v, e1, h.mv q1 q2 q3 (fun _ _ => rfl) (Nat.le_refl _)⟩⟩
end
section
variable {X : Cx} {C : Cls0} {W : Wx}
end
end Sh

set_option Elab.async false
set_option linter.all false
set_option maxRecDepth 100000
set_option maxHeartbeats 1000000
set_option autoImplicit false
namespace ZN
open PySem PySem.Spec PyProof.Rows L2
open PySem.Sem (wp)
def addrs (b n : Nat) : List Addr := List.range' b n
def refs (as : List Addr) : List Value := as.map Value.ref
section
variable {prog : Program} {w : World} {A : Around} {E : Value → Shared → Prop} {s : Shared}
/-- the iterators of some tuples, made one by one from the address b on -/
structure Its (h : Heap) (b k : Nat) (ls : List Addr) : Prop where
  at' : ∀ (j : Nat) (l : Addr), ls[j]? = some l → h.IsTupleIter (b + j) l k
def zipObj (TI TO : Addr) (f0 : Value) (f1 : Bool) : Obj := { cls := .type "zip", data := .fields #[f0, .bool f1, .bool false, .ref TI, .ref TO] }
end
end ZN

set_option Elab.async false
set_option linter.all false
set_option maxRecDepth 100000
set_option maxHeartbeats 1000000
set_option autoImplicit false
namespace ZN
open PySem PySem.Spec PyProof.Rows L2
open PySem.Sem (wp)
def colAt (rows : List (Array Value)) (k : Nat) : List Value := rows.map fun r => r.getD k .none
theorem nn {x y : Nat} (h : x < y ∨ y < x) : @Ne Addr x y := fun e => by have e2 : x = y := e; omega
structure ZS (h : Heap) (b TI : Nat) (f0 : Value) (f1 : Bool) (k : Nat) (ls : List Addr) (rows : List (Array Value)) : Prop where
  z : h.get? (TI + 2) = some (zipObj TI (TI + 1) f0 f1)
  ti : h.get? TI = some { cls := .type "tuple", data := .seq (refs (addrs b ls.length)).toArray }
  to : ∃ ks : Array Value, ks.size = ls.length ∧ h.get? (TI + 1) = some { cls := .type "tuple", data := .seq ks }
  its : Its h b k ls
  rows' : ∀ (j : Nat) (l : Addr) (r : Array Value), ls[j]? = some l → rows[j]? = some r → h.IsTuple l r
  low : ∀ l ∈ ls, l < b
  tin : TI = b + ls.length
  len : rows.length = ls.length
  ne : ls ≠ []

section
variable {M : Model} {A : Around} {E : Value → Shared → Prop}
end
/-- the first m iterators have gone on -/
def ItsM (h : Heap) (b k m : Nat) (ls : List Addr) : Prop := ∀ (j : Nat) (l : Addr), ls[j]? = some l → h.IsTupleIter (b + j) l (if j < m then k + 1 else k)
def RowsAt (h : Heap) (ls : List Addr) (rows : List (Array Value)) : Prop := ∀ (j : Nat) (l : Addr) (r : Array Value), ls[j]? = some l → rows[j]? = some r → h.IsTuple l r
section
variable {prog : Program} {w : World} {A : Around} {E : Value → Shared → Prop} {s : Shared} {b k m : Nat} {ls : List Addr} {rows : List (Array Value)}
/-- one draw -/
theorem drawn {Q : Value → Shared → Prop} (hI : ItsM s.heap b k m ls) (hR : RowsAt s.heap ls rows) (hlow : ∀ l ∈ ls, l < b) (hlen : rows.length = ls.length) (hk : ∀ r ∈ rows, k < r.size) (hm : m < ls.length)
    (hQ : ∀ h', ItsM h' b k (m + 1) ls → RowsAt h' ls rows → Heap.SameBut (b + m) s.heap h' → ∀ x, (colAt rows k)[m]? = some x → Q x { s with heap := h' }) :
    wpAny (model prog w) A (Builtin.SmallTypes.nextOf (.ref (b + m))) Q E s := by
  have e1 : ls[m]? = some ls[m] := List.getElem?_eq_getElem hm
  have hm2 : m < rows.length := by omega
  have e2 : rows[m]? = some rows[m] := List.getElem?_eq_getElem hm2
  have hx := hk rows[m] (List.getElem_mem hm2)
  have i1 := hI m _ e1
  rw [if_neg (Nat.lt_irrefl m)] at i1
  refine RZ.nextOf_tuple_item i1 (hR m _ _ e1 e2) (Array.getElem?_eq_getElem hx) fun h' h1 hs => ?_
  refine hQ h' (fun j l e => ?_) (fun j l r e e' => ?_) hs _ ?_
  · by_cases hj : j = m
    · subst hj
      rw [e1] at e; cases e
      rw [if_pos (Nat.lt_succ_self _)]
      exact h1
    · have z := hI j l e
      have z2 : h'.IsTupleIter (b + j) l (if j < m then k + 1 else k) := z.at fun o q => hs.extBut _ o (nn (by omega)) q
      have : (if j < m + 1 then k + 1 else k) = (if j < m then k + 1 else k) := by
        by_cases q : j < m
        · rw [if_pos q, if_pos (by omega)]
        · rw [if_neg q, if_neg (by omega)]
      rw [this]; exact z2
  · have hl : @LT.lt Nat instLTNat l b := hlow l (List.mem_of_getElem? e)
    obtain ⟨o, q1, q2⟩ := hR j l r e e'
    exact ⟨o, hs.extBut _ o (nn (by omega)) q1, q2⟩
  · unfold colAt
    rw [List.getElem?_map, e2]
    simp [Array.getD, hx]
end
section
variable {prog : Program} {w : World} {A : Around} {E : Value → Shared → Prop} {s : Shared} {b TI k : Nat} {f0 : Value} {f1 : Bool} {ls : List Addr} {rows : List (Array Value)}
end
end ZN

set_option Elab.async false
set_option linter.all false
set_option maxRecDepth 100000
set_option maxHeartbeats 1000000
set_option autoImplicit false
namespace ZN
open PySem PySem.Spec PyProof.Rows L2
open PySem.Sem (wp)
/-- where the walk of the zip stands: nothing given yet, or the last one alive -/
def ZW (h : Heap) (b TI k : Nat) (ls : List Addr) (rows : List (Array Value)) : Prop :=
  (k = 0 ∧ ZS h b TI .none false 0 ls rows) ∨ ∃ (T : Nat) (f1 : Bool) (o : Obj), ZS h b TI (rawInt T) f1 k ls rows ∧ h.get? T = some o ∧ TI + 2 < T
section
variable {prog : Program} {w : World} {A : Around} {E : Value → Shared → Prop} {s : Shared} {b TI k : Nat} {ls : List Addr} {rows : List (Array Value)}
end
end ZN

set_option Elab.async false
set_option linter.all false
set_option maxRecDepth 100000
set_option maxHeartbeats 1000000
set_option autoImplicit false
namespace ZN
open PySem PySem.Spec PyProof.Rows L2
open PySem.Sem (wp)
section
variable {h h' : Heap} {b TI k : Nat} {f0 : Value} {f1 : Bool} {ls : List Addr} {rows : List (Array Value)}
theorem ZS.keep (Z : ZS h b TI f0 f1 k ls rows) (hk : ∀ (c : Nat) o, c ≤ TI + 2 → h.get? c = some o → h'.get? c = some o) : ZS h' b TI f0 f1 k ls rows := by
  have hT := Z.tin
  obtain ⟨ks, q1, q2⟩ := Z.to
  refine ⟨hk _ _ (Nat.le_refl _) Z.z, hk _ _ (by omega) Z.ti, ⟨ks, q1, hk _ _ (by omega) q2⟩, ⟨fun j l e => (Z.its.at' j l e).at fun o q => hk _ o (by have := (List.getElem?_eq_some_iff.mp e).1; omega) q⟩, fun j l r e e' => ?_, Z.low, Z.tin, Z.len, Z.ne⟩
  obtain ⟨o, q1, q2⟩ := Z.rows' j l r e e'
  have : @LT.lt Nat instLTNat l b := Z.low l (List.mem_of_getElem? e)
  exact ⟨o, hk _ o (by omega) q1, q2⟩
theorem ZW.upd (Z : ZW h b TI k ls rows) {S : Nat} (hS : TI + 2 < S) (hk : ∀ (c : Nat) o, c ≠ S → h.get? c = some o → h'.get? c = some o) (hS' : ∃ o, h'.get? S = some o) : ZW h' b TI k ls rows := by
  rcases Z with ⟨rfl, Z⟩ | ⟨T, f1, o, Z, ho, hT⟩
  · exact .inl ⟨rfl, Z.keep fun c o hc e => hk c o (by omega) e⟩
  · refine .inr ?_
    by_cases q : T = S
    · subst q
      obtain ⟨o', e'⟩ := hS'
      exact ⟨T, f1, o', Z.keep fun c o hc e => hk c o (by omega) e, e', hT⟩
    · exact ⟨T, f1, o, Z.keep fun c o hc e => hk c o (by omega) e, hk T o q ho, hT⟩
end
structure MadeZ (h : Heap) (rows : List (Array Value)) (lo : Nat) (as : List Addr) : Prop where
  rise : as.Pairwise (fun (a c : Nat) => a < c)
  above : ∀ a ∈ as, lo < a
  at' : ∀ (j : Nat) (a : Addr), as[j]? = some a → h.get? a = some { cls := .type "tuple", data := .seq (colAt rows j).toArray }
section
variable {prog : Program} {w : World} {A : Around} {s : Shared} {R : Result → Shared → Prop} {b TI : Nat} {ls : List Addr} {rows : List (Array Value)} {n : Nat}
end
section
variable {prog : Program} {w : World} {A : Around} {E : Value → Shared → Prop} {s : Shared} {b TI : Nat} {ls : List Addr} {rows : List (Array Value)} {n : Nat}
end
end ZN

set_option Elab.async false
set_option linter.all false
set_option maxRecDepth 100000
set_option maxHeartbeats 1000000
set_option autoImplicit false
namespace ZN
open PySem PySem.Spec PyProof.Rows L2
abbrev Row := Addr × List V
section
variable {X : Cx} {pins : List (Addr × Obj)} {σ : L2.St} {H : Hp} {s : Shared} {n : Nat}
structure ArrOk (h : Heap) (r : Row) (arr : Array Value) : Prop where
  tup : h.IsTuple r.1 arr
  vals : Vals r.2 arr.toList
end
section
variable {X : Cx} {e : Expr} {te : TE} {p p2 sp pos pos2 : Pos}
end
end ZN

set_option Elab.async false
set_option linter.all false
set_option maxRecDepth 100000
set_option maxHeartbeats 4000000
set_option autoImplicit false
namespace Sh
open PySem PySem.Spec PyProof.Rows L2
/-! ### tuple(zip(*e)) -/
section
variable {K : PySem.W.Frag} {C : Cls0} {mu : Nat → Addr} {n : Nat} {S : Store} {H H' : Hp}
structure RowR (K : PySem.W.Frag) (mu : Nat → Addr) (n : Nat) (H : Hp) (r : ZN.Row) (ds : List D) : Prop where
  sq : SqT K H r.1 r.2
  rds : RDs K mu n H r.2 ds
end
section
variable {X : Cx} {C : Cls0} {W : Wx}
end
end Sh

set_option Elab.async false
set_option linter.all false
set_option maxRecDepth 100000
set_option maxHeartbeats 4000000
set_option autoImplicit false
namespace Sh
open PySem PySem.Spec PyProof.Rows L2
/-! ### list(range), x not in a tuple of data, x < y of alike data -/
section
variable {X : Cx} {C : Cls0} {W : Wx}
end
/-! ### not e as a value, by truth -/
end Sh

set_option Elab.async false
set_option linter.all false
set_option maxRecDepth 100000
set_option maxHeartbeats 4000000
set_option autoImplicit false
namespace Sh
open PySem PySem.Spec PyProof.Rows L2
/-! ### min(x, default=d) of data -/
section
variable {X : Cx}
end
section
variable {K : PySem.W.Frag} {C : Cls0}
end
section
variable {X : Cx} {C : Cls0} {W : Wx}
end
end Sh

set_option Elab.async false
set_option linter.all false
set_option maxRecDepth 100000
set_option maxHeartbeats 4000000
set_option autoImplicit false
namespace Sh
open PySem PySem.Spec PyProof.Rows L2
/-! ### dicts whose keys are ints and texts, or tuples of data: two lists in the store -/
mutual
theorem nkD_of : ∀ k : NestedKey, nkD (dNK k) = some k
  | .none => rfl
  | .num _ => rfl
  | .text _ => rfl
  | .tup ks => by simp only [dNK, nkD, nkDs_of ks, Option.map_some]
theorem nkDs_of : ∀ ks : List NestedKey, nkDs (dNKs ks) = some ks
  | [] => rfl
  | k :: ks => by simp only [dNKs, nkDs, nkD_of k, nkDs_of ks]
end
mutual
theorem nkD_is : ∀ (d : D) (k : NestedKey), nkD d = some k → d = dNK k
  | .non, k, h => by simp only [nkD, Option.some.injEq] at h; subst h; rfl
  | .int i, k, h => by simp only [nkD, Option.some.injEq] at h; subst h; rfl
  | .str i, k, h => by simp only [nkD, Option.some.injEq] at h; subst h; rfl
  | .tup ds, k, h => by
    simp only [nkD, Option.map_eq_some_iff] at h
    obtain ⟨ks, h, rfl⟩ := h
    rw [dNK, ← nkDs_is ds ks h]
  | .bl _, _, h => by simp [nkD] at h
  | .ref _, _, h => by simp [nkD] at h
  | .fl _, _, h => by simp [nkD] at h
  | .rng _ _ _, _, h => by simp [nkD] at h
  | .gd _, _, h => by simp [nkD] at h
theorem nkDs_is : ∀ (ds : List D) (ks : List NestedKey), nkDs ds = some ks → ds = dNKs ks
  | [], ks, h => by simp only [nkDs, Option.some.injEq] at h; subst h; rfl
  | d :: ds, ks, h => by
    simp only [nkDs] at h
    split at h
    · rename_i k ks' h1 h2
      cases h
      rw [dNKs, ← nkD_is d k h1, ← nkDs_is ds ks' h2]
    · cases h
end
def keyD : D → Option DKey
  | .int i => some (.inl (.inl i))
  | .str x => some (.inl (.inr x))
  | .tup ds => match nkD (.tup ds) with
    | some k => if k.depth ≤ 8 then some (.inr k) else none
    | none => none
  | _ => none
theorem keyD_rd {K : PySem.W.Frag} {mu : Nat → Addr} {n : Nat} {H : Hp} {v : V} {d : D} {k : Key} (r : RD K mu n H v d) (h : keyD d = some (.inl k)) : v = kV k := by
  cases r with
  | int i => cases h; rfl
  | str x => cases h; rfl
  | tup _ _ =>
    simp only [keyD] at h
    split at h
    · split at h <;> cases h
    · cases h
  | _ => cases h
/-- the tuple at b is a key -/
def NKey (K : PySem.W.Frag) (H : Hp) (b : Addr) (k : NestedKey) : Prop := k.depth ≤ 8 ∧ ∃ mu n, RD K mu n H (.ref b) (dNK k)
theorem keyD_nk {K : PySem.W.Frag} {mu : Nat → Addr} {n : Nat} {H : Hp} {v : V} {d : D} {k : NestedKey} (r : RD K mu n H v d) (h : keyD d = some (.inr k)) : ∃ b, v = .ref b ∧ NKey K H b k ∧ RD K mu n H v (dNK k) := by
  cases d with
  | tup ds =>
    simp only [keyD] at h
    split at h
    · rename_i k' e
      split at h
      · rename_i hd
        cases h
        have e2 := nkD_is _ _ e
        have e3 : ∃ b, v = .ref b := by cases r; exact ⟨_, rfl⟩
        obtain ⟨b, rfl⟩ := e3
        exact ⟨b, rfl, ⟨hd, mu, n, e2 ▸ r⟩, e2 ▸ r⟩
      · cases h
    · cases h
  | _ => cases h
def valK {α : Type} (ks : List DKey) (xs : List α) (k : DKey) : Option α := ((ks.zip xs).find? fun kv => decide (kv.1 = k)).map (·.2)
def putKs (ks : List DKey) (k : DKey) : List DKey := if ks.any (fun j => decide (j = k)) = true then ks else ks ++ [k]
def putVs {α : Type} (ks : List DKey) (xs : List α) (k : DKey) (x : α) : List α := if ks.any (fun j => decide (j = k)) = true then List.zipWith (fun j y => if j = k then x else y) ks xs else xs ++ [x]
/-- keys of one kind -/
def okKey (ks : List DKey) : DKey → Bool
  | .inl _ => ks.all fun k => match k with
    | .inl _ => true
    | .inr _ => false
  | .inr _ => ks.all fun k => match k with
    | .inl _ => false
    | .inr _ => true
theorem ok_inl {ks : List DKey} {k : Key} (h : okKey ks (.inl k) = true) : ∃ js : List Key, ks = js.map .inl := by
  induction ks with
  | nil => exact ⟨[], rfl⟩
  | cons a ks ih =>
    simp only [okKey, List.all_cons, Bool.and_eq_true] at h ih
    obtain ⟨js, rfl⟩ := ih h.2
    cases a with
    | inl j => exact ⟨j :: js, rfl⟩
    | inr j => exact absurd h.1 (by simp)
theorem map_inl_inj : ∀ {js is : List Key}, js.map (Sum.inl : Key → DKey) = is.map .inl → js = is
  | [], [], _ => rfl
  | [], _ :: _, h => by simp at h
  | _ :: _, [], h => by simp at h
  | a :: js, b :: is, h => by
    simp only [List.map_cons, List.cons.injEq, Sum.inl.injEq] at h
    rw [h.1, map_inl_inj h.2]
theorem ok_inr {ks : List DKey} {k : NestedKey} (h : okKey ks (.inr k) = true) (js : List Key) (e : ks = js.map .inl) : ks = [] ∧ js = [] := by
  cases js with
  | nil => exact ⟨e, rfl⟩
  | cons j js => rw [e] at h; simp [okKey] at h
theorem any_inl {j : Key} : ∀ (js : List Key), ((js.map (Sum.inl : Key → DKey)).any fun i => decide (i = .inl j)) = js.any fun i => decide (i = j)
  | [] => rfl
  | a :: js => by simp only [List.map_cons, List.any_cons, any_inl js, Sum.inl.injEq]
theorem any_zip {α : Type} {k : Key} : ∀ (ks : List Key) (xs : List α), ks.length = xs.length → ((ks.zip xs).any fun kv => decide (kv.1 = k)) = ks.any fun j => decide (j = k)
  | [], _, _ => by simp
  | j :: ks, [], h => by simp at h
  | j :: ks, x :: xs, h => by simp only [List.zip_cons_cons, List.any_cons, any_zip ks xs (by simpa using h)]
theorem putVs_len {α : Type} {ks : List DKey} {xs : List α} {k : DKey} {x : α} (h : ks.length = xs.length) : (putKs ks k).length = (putVs ks xs k x).length := by
  unfold putKs putVs
  by_cases hk : ks.any (fun j => decide (j = k)) = true
  · rw [if_pos hk, if_pos hk, List.length_zipWith, h, Nat.min_self]
  · rw [if_neg hk, if_neg hk, List.length_append, List.length_append, h]; rfl
/-- int and text keys: the hand layer's own -/
theorem put_inl {ks : List Key} {vs : List V} {k : Key} {v : V} (h : ks.length = vs.length) : ∃ js : List Key, putKs (ks.map .inl) (.inl k) = js.map .inl ∧ putK (ks.zip vs) k v = js.zip (putVs (ks.map .inl) vs (.inl k) v) := by
  unfold putK putKs putVs
  rw [any_zip ks vs h, any_inl]
  by_cases hk : ks.any (fun j => decide (j = k)) = true
  · rw [if_pos hk, if_pos hk, if_pos hk]
    refine ⟨ks, rfl, ?_⟩
    clear hk
    induction ks generalizing vs with
    | nil => simp
    | cons j ks ih =>
      cases vs with
      | nil => simp at h
      | cons w vs =>
        simp only [List.zip_cons_cons, List.map_cons, List.zipWith_cons_cons]
        rw [ih (by simpa using h)]
        by_cases hj : j = k
        · simp [hj]
        · simp [hj]
  · rw [if_neg hk, if_neg hk, if_neg hk]
    refine ⟨ks ++ [k], by simp, ?_⟩
    rw [List.zip_append h]
    rfl
theorem val_inl {k : Key} : ∀ (ks : List Key) (vs : List V), valK (ks.map .inl) vs (.inl k) = valV (ks.zip vs) k
  | [], _ => rfl
  | j :: ks, [] => rfl
  | j :: ks, v :: vs => by
    have ih := val_inl (k := k) ks vs
    unfold valK valV at ih ⊢
    simp only [List.map_cons, List.zip_cons_cons, List.find?_cons]
    by_cases hj : j = k
    · simp [hj]
    · simp only [Sum.inl.injEq, hj, decide_false]
      exact ih
section
variable {K : PySem.W.Frag} {C : Cls0} {mu : Nat → Addr} {n : Nat} {S : Store} {H : Hp} {l : Nat} {u0 u : HO}
theorem valK_rd {k : DKey} : ∀ {ks : List DKey} {ds : List D} {vs : List V}, RDs K mu n H vs ds → (valK ks ds k = none → valK ks vs k = none) ∧ ∀ d, valK ks ds k = some d → ∃ v, valK ks vs k = some v ∧ RD K mu n H v d
  | [], _, _, _ => ⟨fun _ => rfl, fun d h => by simp [valK] at h⟩
  | j :: ks, [], _, r => by cases r; exact ⟨fun _ => rfl, fun d h => by simp [valK] at h⟩
  | j :: ks, d0 :: ds, _, r => by
    cases r with
    | @cons v0 vs _ _ r1 r2 =>
      obtain ⟨h1, h2⟩ := valK_rd (k := k) (ks := ks) r2
      by_cases hj : j = k
      · refine ⟨fun h => by simp [valK, hj] at h, fun d h => ⟨v0, ?_, ?_⟩⟩
        · simp [valK, hj]
        · simp only [valK, List.zip_cons_cons, List.find?_cons, hj, decide_true, Option.map_some, Option.some.injEq] at h
          subst h; exact r1
      · have e1 : valK (j :: ks) (d0 :: ds) k = valK ks ds k := by simp [valK, hj]
        have e2 : valK (j :: ks) (v0 :: vs) k = valK ks vs k := by simp [valK, hj]
        rw [e1, e2]
        exact ⟨h1, h2⟩
theorem putVs_rd {k : DKey} {v : V} {d : D} (rv : RD K mu n H v d) : ∀ {ks : List DKey} {ds : List D} {vs : List V}, RDs K mu n H vs ds → RDs K mu n H (putVs ks vs k v) (putVs ks ds k d) := by
  intro ks ds vs r
  unfold putVs
  by_cases hk : ks.any (fun j => decide (j = k)) = true
  · rw [if_pos hk, if_pos hk]
    clear hk
    induction ks generalizing ds vs with
    | nil => simp; exact .nil
    | cons j ks ih =>
      cases r with
      | nil => simp; exact .nil
      | cons r1 r2 =>
        simp only [List.zipWith_cons_cons]
        refine .cons ?_ (ih r2)
        by_cases hj : j = k
        · rw [if_pos hj, if_pos hj]; exact rv
        · rw [if_neg hj, if_neg hj]; exact r1
  · rw [if_neg hk, if_neg hk]
    exact r.append (.cons rv .nil)
/-- what stands there is no sequence that a value may be -/
structure NoSeq (u : HO) : Prop where
  t : ∀ xs, u ≠ .tup xs
  ft : ∀ ob xs, u ≠ .frz ob (.tup xs)
  fl : ∀ ob xs, u ≠ .frz ob (.lst xs)
  e : ∀ a i j k, u ≠ .ext (rgF a i j k)
theorem noSeq_dO (h : IsDO u) : NoSeq u := ⟨fun _ => h.tup, fun _ _ => h.frz, fun _ _ => h.frz, fun _ _ _ _ => h.rg⟩
theorem sqT_putO {a p : Addr} {us : List V} (hp : H p = some u0) (n0 : NoSeq u0) (z : SqT K H a us) : SqT K (upd H p u) a us := by
  rcases z with (z | ⟨o, z⟩) | z
  · exact .inl (.inl (by rw [upd_ne (ne_of z hp (fun q => n0.t _ q.symm))]; exact z))
  · exact .inl (.inr ⟨o, by rw [upd_ne (ne_of z hp (fun q => n0.ft _ _ q.symm))]; exact z⟩)
  · exact .inr z
theorem fzL_putO {a p : Addr} {us : List V} (hp : H p = some u0) (n0 : NoSeq u0) (z : FzL K H a us) : FzL K (upd H p u) a us := by
  rcases z with ⟨o, z⟩ | z
  · exact .inl ⟨o, by rw [upd_ne (ne_of z hp (fun q => n0.fl _ _ q.symm))]; exact z⟩
  · exact .inr z
theorem rgV_putO {a p : Addr} {i j k : Int} (hp : H p = some u0) (n0 : NoSeq u0) (z : RgV H a i j k) : RgV (upd H p u) a i j k := by
  unfold RgV at z ⊢
  rw [upd_ne (ne_of z hp (fun q => n0.e _ _ _ _ q.symm))]
  exact z
theorem RDs.putO {ds : List D} {vs : List V} (hp : H (mu l) = some u0) (n0 : NoSeq u0) (r : RDs K mu n H vs ds) : RDs K mu n (upd H (mu l) u) vs ds :=
  r.mv (fun _ _ z => sqT_putO hp n0 z) (fun _ _ z => fzL_putO hp n0 z) (fun _ _ _ _ z => rgV_putO hp n0 z) (fun _ _ => rfl) (Nat.le_refl _)
theorem RD.putO {d : D} {v : V} (hp : H (mu l) = some u0) (n0 : NoSeq u0) (r : RD K mu n H v d) : RD K mu n (upd H (mu l) u) v d :=
  r.mv (fun _ _ z => sqT_putO hp n0 z) (fun _ _ z => fzL_putO hp n0 z) (fun _ _ _ _ z => rgV_putO hp n0 z) (fun _ _ => rfl) (Nat.le_refl _)
theorem Rel.putO {o : SO} (R : Rel K C mu S H) (hl : l < S.length) (hp : H (mu l) = some u0) (n0 : NoSeq u0) (ho : RO K C mu S.length (upd H (mu l) u) (mu l) o) : Rel K C mu (S.set l o) (upd H (mu l) u) := by
  have len : (S.set l o).length = S.length := List.length_set
  refine ⟨fun i j hi hj e => R.inj i j (by rwa [len] at hi) (by rwa [len] at hj) e, fun k o e => ?_⟩
  rw [len]
  by_cases hk : k = l
  · subst hk
    rw [List.getElem?_set_self hl] at e
    cases e
    exact ho
  · rw [List.getElem?_set_ne (fun e => hk e.symm)] at e
    have hkl : k < S.length := (List.getElem?_eq_some_iff.mp e).1
    exact (R.obj k o e).mv (fun _ _ => rfl) (Nat.le_refl _) (fun _ _ z => sqT_putO hp n0 z) (fun _ _ z => fzL_putO hp n0 z) (fun _ _ _ _ z => rgV_putO hp n0 z) (by rw [upd_ne (fun q => hk (R.inj k l hkl hl q))])
theorem DObj.putO {w : World} {ul : HO} {a : Addr} {u : HO} {ks : List DKey} {vs : List V} (hp : H (mu l) = some u0) (n0 : NoSeq u0) (h : DObj K w mu n H a u ks vs) : DObj K w mu n (upd H (mu l) ul) a u ks vs :=
  h.mv (fun _ _ => rfl) (Nat.le_refl _) (fun _ _ z => sqT_putO hp n0 z) (fun _ _ z => fzL_putO hp n0 z) (fun _ _ _ _ z => rgV_putO hp n0 z)
/-- a dict of the store, as it is read -/
theorem dic_at {ks : List DKey} {ds : List D} {l : Nat} (R : Rel K C mu S H) (h : S[l]? = some (.dic ks ds) ∨ S[l]? = some (.fdic ks ds)) : ∃ u vs, Rd H (mu l) u ∧ DObj K C.w mu S.length H (mu l) u ks vs ∧ ks.length = ds.length ∧ RDs K mu S.length H vs ds := by
  rcases h with h | h
  · obtain ⟨u, vs, e, d, hl, r⟩ := R.obj l _ h
    exact ⟨u, vs, .inl e, d, hl, r⟩
  · obtain ⟨ob, u, vs, e, d, hl, r⟩ := R.obj l _ h
    exact ⟨u, vs, .inr ⟨ob, e⟩, d, hl, r⟩
end
def dicO : Option SO → Option (List DKey × List D)
  | some (.dic ks ds) => some (ks, ds)
  | some (.fdic ks ds) => some (ks, ds)
  | _ => none
theorem dicO_some {o : Option SO} {ks : List DKey} {ds : List D} (h : dicO o = some (ks, ds)) : o = some (.dic ks ds) ∨ o = some (.fdic ks ds) := by
  match o, h with
  | some (.dic _ _), h => cases h; exact .inl rfl
  | some (.fdic _ _), h => cases h; exact .inr rfl
/-! ### what the machine does with a dict of tuple keys -/
def zip3 (qs : List NK) (us : List Value) : List (NestedKey × Addr × Value) := List.zipWith (fun q u => (q.1, q.2, u)) qs us
def ikN (qs : List NK) : List DKey := qs.map fun q => .inr q.1
section
variable {X : Cx} {pins : List (Addr × Obj)} {σ : L2.St} {H : Hp} {s : Shared} {a b : Addr} {k : NestedKey} {qs : List NK} {vs : List V}
theorem NKey.is (I : Inv X pins σ H s) (h : NKey X.K H b k) : (nestedKind X.prog X.w).is s.heap k b := by
  obtain ⟨hd, mu, n, r⟩ := h
  exact ⟨nk_is I (dNK k) _ (.ref b) k r rfl (nkD_of k), hd⟩
theorem zip3_es (w : World) (P : Program) : ∀ (qs : List NK) (us : List Value), nkEs w qs us = (zip3 qs us).map (entryOfKey (nestedKind P w))
  | [], _ => by simp [nkEs, zip3]
  | q :: qs, [] => by simp [nkEs, zip3]
  | q :: qs, u :: us => by
    have ih := zip3_es w P qs us
    unfold nkEs zip3 at ih ⊢
    simp only [List.zipWith_cons_cons, List.map_cons, ih]
    rfl
theorem zip3_k : ∀ (qs : List NK) (us : List Value), us.length = qs.length → (zip3 qs us).map (·.1) = qs.map (·.1)
  | [], _, _ => by simp [zip3]
  | q :: qs, [], h => by simp at h
  | q :: qs, u :: us, h => by
    have ih := zip3_k qs us (by simpa using h)
    unfold zip3 at ih ⊢
    simp only [List.zipWith_cons_cons, List.map_cons, ih]
theorem zip3_mem : ∀ {qs : List NK} {us : List Value} {x}, x ∈ zip3 qs us → (x.1, x.2.1) ∈ qs
  | [], _, x, h => by simp [zip3] at h
  | q :: qs, [], x, h => by simp [zip3] at h
  | q :: qs, u :: us, x, h => by
    simp only [zip3, List.zipWith_cons_cons, List.mem_cons] at h
    rcases h with rfl | h
    · simp
    · exact List.mem_cons_of_mem _ (zip3_mem (qs := qs) (us := us) h)
/-- such a dict -/
structure NDict (X : Cx) (H : Hp) (a : Addr) (qs : List NK) (vs : List V) : Prop where
  rd : Rd H a (.ext (dTF X.w a qs vs))
  ky : ∀ q ∈ qs, NKey X.K H q.2 q.1
  nd : (qs.map (·.1)).Nodup
theorem NDict.at (I : Inv X pins σ H s) (d : NDict X H a qs vs) : (a == sysModules) = false ∧ qs.length ≤ sizeLine ∧ ∃ us, Vals vs us ∧ us.length = qs.length ∧ s.heap.DictOfH (nestedKind X.prog X.w) a (zip3 qs us) := by
  obtain ⟨⟨h1, h2, us, h3, h4, es, ep, ⟨o, h5, h6, h7⟩, h8⟩, _⟩ := (show ObjOk X.prog X.w H s.heap a (.ext (dTF X.w a qs vs)) from rd_of I.hok d.rd)
  refine ⟨h1, h2, us, h3, h4, o, es, ep, h5, h6, h7, by rw [h8, zip3_es X.w X.prog], fun x hx => (d.ky _ (zip3_mem hx)).is I, by rw [zip3_k qs us h4]; exact d.nd⟩
theorem valN_rel : ∀ {qs : List NK} {vs : List V} {us : List Value}, Vals vs us → us.length = qs.length → RelO (valK (ikN qs) vs (.inr k)) ((atKey (zip3 qs us) k).map (·.2))
  | [], vs, us, r, h => by
    have : us = [] := List.eq_nil_of_length_eq_zero h
    subst this
    cases r
    trivial
  | q :: qs, _, _, .nil, h => by simp at h
  | q :: qs, _, _, .cons r1 r2, h => by
    have ih := valN_rel (qs := qs) r2 (by simpa using h)
    unfold valK ikN atKey zip3 at ih ⊢
    simp only [List.map_cons, List.zip_cons_cons, List.zipWith_cons_cons, List.find?_cons, Sum.inr.injEq]
    by_cases hj : q.1 = k
    · simp only [hj, decide_true]
      exact r1
    · simp only [hj, decide_false]
      exact ih
/-- what the dict at a holds at the key y -/
def NGet (X : Cx) (H : Hp) (a : Addr) (y : V) (r : Option V) : Prop := ∃ b k, y = .ref b ∧ NKey X.K H b k ∧ ((∃ qs vs, NDict X H a qs vs ∧ r = valK (ikN qs) vs (.inr k)) ∨ (Rd H a (.dK []) ∧ r = none))
def DGt (X : Cx) (H : Hp) (a : Addr) (y : V) (r : Option V) : Prop := DGet H a y r ∨ NGet X H a y r
theorem dictNil {P : Program} {w : World} {h : Heap} (ok : HOk P w H h) (e : Rd H a (.dK [])) : (a == sysModules) = false ∧ h.DictOfH (nestedKind P w) a [] := by
  obtain ⟨_, hd, vs0, r0, o, es, ep, h1, h2, h3, h4, h5, h6⟩ := dk_rd ok e
  cases r0
  refine ⟨hd, o, es, ep, h1, h2, h3, ?_, (fun _ z => nomatch z), List.nodup_nil⟩
  cases h7 : es.toList with
  | nil => rfl
  | cons x xs => rw [h7] at h5; cases h5
theorem room_n {A : Around} (hu : A.units + 9 < cLine) {P : Program} {w : World} : (nestedKind P w).room A.in1 := hu
theorem NGet.at {y : V} {r : Option V} {u : Value} (I : Inv X pins σ H s) (g : NGet X H a y r) (ry : RelV y u) : ∃ b k xs, u = .ref b ∧ (nestedKind X.prog X.w).is s.heap k b ∧ (a == sysModules) = false ∧ s.heap.DictOfH (nestedKind X.prog X.w) a xs ∧ RelO r ((atKey xs k).map (·.2)) := by
  obtain ⟨b, k, rfl, hk, g⟩ := g
  cases (show u = Value.ref b from ry)
  rcases g with ⟨qs, vs, d, rfl⟩ | ⟨e, rfl⟩
  · obtain ⟨h1, h2, us, h3, h4, h5⟩ := d.at I
    exact ⟨b, k, _, rfl, hk.is I, h1, h5, valN_rel h3 h4⟩
  · obtain ⟨h1, h2⟩ := dictNil I.hok e
    exact ⟨b, k, [], rfl, hk.is I, h1, h2, trivial⟩
theorem hu1 {A : Around} (hu : A.units + 9 < cLine) : A.units + 1 < cLine := Nat.lt_of_le_of_lt (Nat.add_le_add_left (by decide : 1 ≤ 9) _) hu
variable {y v d : V} {u r : Value} {o : Option V} {A : Around} {E : Value → Shared → Prop}
theorem n_getItem {Q : Value → Shared → Prop} (hu : A.units + 9 < cLine) (I : Inv X pins σ H s) (g : DGt X H a y (some v)) (ry : RelV y u) (h : ∀ w' s', Inv X pins σ H s' → RelV v w' → Q w' s') :
    wpAny (model X.prog X.w) A (getItem (.ref a) u) Q E s := by
  rcases g with g | g
  · exact d_getItem (hu1 hu) I g ry h
  · obtain ⟨b, k, xs, rfl, h1, h2, h3, h4⟩ := g.at I ry
    obtain ⟨w', hw, rw'⟩ := RelO.some_of (v := v) (o := (atKey xs k).map (·.2)) h4
    obtain ⟨p, hp, hp2⟩ := Option.map_eq_some_iff.mp hw
    refine wpAny_getItem_heap (room_n hu) h1 h3 hp ?_
    rw [hp2]
    exact h w' _ (I.tok _) rw'
/-- a is a dict, whatever its keys -/
def IsDt (X : Cx) (H : Hp) (a : Addr) : Prop := IsD H a ∨ ∃ qs vs, NDict X H a qs vs
theorem isDt_at (I : Inv X pins σ H s) (d : IsDt X H a) : s.TypeIs (.ref a) "dict" ∧ (∀ b, Value.ref a = .ref b → ∃ ob, s.heap.get? b = some ob ∧ ob.dict = none) ∧ (a == sysModules) = false := by
  rcases d with d | ⟨qs, vs, d⟩
  · exact isD_at I d
  · obtain ⟨h1, _, us, _, _, ob, es, ep, h2, h3, _⟩ := d.at I
    refine ⟨⟨ob, h2, h3.1⟩, fun b q => ?_, h1⟩
    cases q
    exact ⟨ob, h2, h3.2.1⟩
theorem DGt.isD (g : DGt X H a y o) : IsDt X H a := by
  rcases g with (⟨kvs, k, e, _, _⟩ | ⟨kvs, k, b, e, _, _, _⟩) | ⟨b, k, _, _, ⟨qs, vs, d, _⟩ | ⟨e, _⟩⟩
  · exact .inl (.inl ⟨_, e⟩)
  · exact .inl (.inr ⟨_, e⟩)
  · exact .inr ⟨_, _, d⟩
  · exact .inl (.inl ⟨_, e⟩)
/-! d[y] = v -/
end
/-! the texts -/
def tDGt (X : Cx) (td ty : TE) : TE := fun σ H Q => td σ H fun x H1 => ty σ H1 fun y H2 => ∃ a v, x = .ref a ∧ DGt X H2 a y (some v) ∧ Q v H2
section
variable {X : Cx} {o i e f : Expr} {pos apos cpos : Pos} {td ty tx : TE}
theorem pe_dgt (hu : X.A.units + 9 < cLine) (ho : PE X o td) (hi : PE X i ty) (hs : NoSl i) : PE X (.Subscript o i pos) (tDGt X td ty) := by
  refine ⟨fun pins s σ H Q I h => ?_⟩
  refine subD_of PySem.F.slot_dict_getitem.lookup hs (thn (ho.run pins s σ H _ I h) fun u s1 ⟨x, H1, I1, rx, q1⟩ => thn (hi.run pins s1 σ H1 _ I1 q1) fun iv s2 ⟨y, H2, I2, ry, a, v, ex, g, q2⟩ => ?_)
  subst ex
  obtain rfl : u = Value.ref a := rx
  exact ⟨(isDt_at I2 g.isD).1, n_getItem hu I2 g ry fun w' s3 I3 rw' => ⟨v, H2, I3, rw', q2⟩⟩
end
end Sh

set_option Elab.async false
set_option linter.all false
set_option maxRecDepth 100000
set_option maxHeartbeats 4000000
set_option autoImplicit false
namespace Sh
open PySem PySem.Spec PyProof.Rows L2
section
variable {X : Cx} {C : Cls0} {W : Wx}
/-! {} -/
/-! d[k] -/
def gGetD (d e : D) (S : Store) : Rs D := match d with
  | .ref l => match dicO S[l]? with
    | some (ks, ds) => match keyD e with
      | some k => if okKey ks k = true then match valK ks ds k with
        | some x => okR x S
        | none => none
        else none
      | none => none
    | none => none
  | _ => none
theorem gget_rd {mu : Nat → Addr} {S : Store} {H : Hp} {v w : V} {l : Nat} {e : D} {ks : List DKey} {ds : List D} {k : DKey} (hw : C.w = X.w) (R : Rel X.K C mu S H) (rv : RD X.K mu S.length H v (.ref l)) (hd : dicO S[l]? = some (ks, ds)) (rw' : RD X.K mu S.length H w e) (hk : keyD e = some k) (hok : okKey ks k = true) :
    ∃ a o, v = .ref a ∧ DGt X H a w o ∧ (o = none → valK ks ds k = none) ∧ (valK ks ds k = none → o = none) ∧ ∀ x, valK ks ds k = some x → ∃ y, o = some y ∧ RD X.K mu S.length H y x := by
  cases rv with
  | ref hl =>
    obtain ⟨u, vs, hr, dob, hlen, r⟩ := dic_at R (dicO_some hd)
    obtain ⟨h1, h2⟩ := valK_rd (ks := ks) (k := k) r
    refine ⟨mu l, valK ks vs k, rfl, ?_, fun h => ?_, h1, h2⟩
    · rw [hw] at dob
      cases k with
      | inl j =>
        have e1 := keyD_rd rw' hk
        obtain ⟨js, rfl⟩ := ok_inl hok
        generalize hks : (js.map Sum.inl : List DKey) = ks at dob
        cases dob with
        | pl is _ =>
          have := map_inl_inj hks
          subst this
          rw [val_inl]
          exact .inl (.inl ⟨_, j, hr, e1, rfl⟩)
        | ne qs _ h0 =>
          cases qs with
          | nil => exact absurd rfl h0
          | cons q qs => cases js <;> simp at hks
      | inr q =>
        obtain ⟨b, e1, hn, _⟩ := keyD_nk rw' hk
        cases dob with
        | pl is _ =>
          obtain ⟨h3, h4⟩ := ok_inr hok is rfl
          subst h4
          exact .inr ⟨b, q, e1, hn, .inr ⟨by simpa using hr, rfl⟩⟩
        | ne qs _ h0 h8 hnd hky =>
          refine .inr ⟨b, q, e1, hn, .inl ⟨qs, vs, ⟨hr, fun q' hq => ⟨h8 q' hq, mu, S.length, ?_⟩, hnd⟩, rfl⟩⟩
          obtain ⟨i, hi⟩ := List.mem_iff_getElem?.mp hq
          obtain ⟨v', e2, r2⟩ := hky.get (i := i) (d := dNK q'.1) (by rw [List.getElem?_map, hi]; rfl)
          rw [List.getElem?_map, hi] at e2
          cases e2
          exact r2
    · cases e1 : valK ks ds k with
      | none => rfl
      | some x =>
        obtain ⟨y, e2, _⟩ := h2 x e1
        rw [h] at e2; cases e2
def fDGet (f g : EF D) : EF D := fun ρ S => bindR (f ρ S) fun d S1 => bindR (g ρ S1) fun e S2 => gGetD d e S2
theorem se_dget {o i : Expr} {f g : EF D} {pos : Pos} (hu : X.A.units + 9 < cLine) (ho : SE X C W o f) (hi : SE X C W i g) (hs : NoSl i := by intro _ _; rfl) (hw : C.w = X.w := by rfl) : SE X C W (.Subscript o i pos) (fDGet f g) := by
  refine ⟨PE.imp (pe_dgt hu ho.pe hi.pe hs) ?_⟩
  rintro σ H Q ⟨mu, S, ρ, R, re, h⟩
  refine ⟨mu, S, ρ, R, re, (PostG.bind (RA := QD X.K) h).mono ?_⟩
  rintro v H1 ⟨mu1, S1, d1, R1, x1, r1, h1⟩
  refine ⟨mu1, S1, ρ, R1, re.mono R x1, (PostG.bind (RA := QD X.K) h1).mono ?_⟩
  rintro w H2 ⟨mu2, S2, d2, R2, x2, r2, h2⟩
  have r1' := r1.mono R1 x2
  cases d1 with
  | ref l =>
    simp only [gGetD] at h2
    cases e0 : dicO S2[l]? with
    | none => rw [e0] at h2; exact h2.elim
    | some kd =>
      obtain ⟨ks, ds⟩ := kd
      rw [e0] at h2
      simp only at h2
      cases e1 : keyD d2 with
      | none => rw [e1] at h2; exact h2.elim
      | some k =>
        rw [e1] at h2
        simp only at h2
        split at h2
        · rename_i hok
          obtain ⟨a, o, rfl, g1, _, _, g3⟩ := gget_rd hw R2 r1' e0 r2 e1 hok
          cases e2 : valK ks ds k with
          | none => rw [e2] at h2; exact h2.elim
          | some x =>
            rw [e2] at h2
            obtain ⟨y, rfl, ry⟩ := g3 x e2
            exact ⟨a, y, rfl, g1, h2.ok R2 ry⟩
        · exact h2.elim
  | _ => exact h2.elim
/-! k in d, k not in d -/
/-! d.get(k), d.get(k, x) -/
/-! d[k] = v -/
/-! len(d) -/
end
end Sh

set_option Elab.async false
set_option linter.all false
set_option maxRecDepth 100000
set_option maxHeartbeats 4000000
set_option autoImplicit false
namespace Sh
open PySem PySem.Spec PyProof.Rows L2
/-! ### a dict locked, and walked -/
section
variable {K : PySem.W.Frag} {C : Cls0} {mu mu' : Nat → Addr} {n n' : Nat} {S S' : Store} {H H' : Hp} {l : Nat}
end
section
variable {X : Cx} {C : Cls0} {W : Wx}
/-! ### the items, the keys, the values -/
/-- int and text keys alone -/
def plK : List DKey → Option (List Key)
  | [] => some []
  | .inl k :: ks => (plK ks).map (k :: ·)
  | .inr _ :: _ => none
theorem plK_is : ∀ {ks : List DKey} {js : List Key}, plK ks = some js → ks = js.map .inl
  | [], js, h => by cases h; rfl
  | .inl k :: ks, js, h => by
    simp only [plK, Option.map_eq_some_iff] at h
    obtain ⟨is, h, rfl⟩ := h
    rw [plK_is h]; rfl
  | .inr _ :: _, _, h => by cases h
theorem DObj.pl_of {K : PySem.W.Frag} {w : World} {mu : Nat → Addr} {n : Nat} {H : Hp} {a : Addr} {u : HO} {js : List Key} {vs : List V} (d : DObj K w mu n H a u (js.map .inl) vs) : u = .dK (js.zip vs) := by
  generalize hks : (js.map Sum.inl : List DKey) = ks at d
  cases d with
  | pl is _ => rw [map_inl_inj hks]
  | ne qs _ h0 =>
    cases qs with
    | nil => exact absurd rfl h0
    | cons q qs => cases js <;> simp at hks
/-! ### {k: v, ..} -/
def flatP (ps : List (V × V)) : List V := ps.flatMap fun p => [p.1, p.2]
structure SPs (X : Cx) (C : Cls0) (W : Wx) (pos : Pos) (keys : List (Option Expr)) (values : List Expr) (g : EF (List D)) : Prop where
  pp : ∃ trs, PPs X pos keys values trs ∧ ∀ σ H (P : List (V × V) → Hp → Prop), TA' X.K C W g σ H (fun xs H' => ∃ ps, flatP ps = xs ∧ P ps H') → tPairs trs σ H P
theorem sps_nil {pos : Pos} : SPs X C W pos [] [] fNil := by
  refine ⟨[], pps_nil, ?_⟩
  rintro σ H P ⟨mu, S, ρ, R, re, h⟩
  obtain ⟨ps, e, p⟩ := h.ok R .nil
  cases ps with
  | nil => exact p
  | cons q r => simp [flatP] at e
theorem sps_cons {pos : Pos} {k v : Expr} {ks : List (Option Expr)} {vs : List Expr} {f g : EF D} {r : EF (List D)} (a : SE X C W k f) (b : SE X C W v g) (c : SPs X C W pos ks vs r) : SPs X C W pos (some k :: ks) (v :: vs) (fCons f (fCons g r)) := by
  obtain ⟨trs, hp, hc⟩ := c
  refine ⟨_, pps_cons a.pe b.pe hp, ?_⟩
  rintro σ H P ⟨mu, S, ρ, R, re, h⟩
  refine ⟨mu, S, ρ, R, re, (PostG.bind (RA := QD X.K) h).mono ?_⟩
  rintro x H1 ⟨mu1, S1, d1, R1, x1, r1, h1⟩
  refine ⟨mu1, S1, ρ, R1, re.mono R x1, ?_⟩
  have h1' := PostG.bind (RA := QDs X.K) h1
  have h2 := PostG.bind (RA := QD X.K) (k := fun d S1 => bindR (r ρ S1) fun ds S2 => okR (d :: ds) S2) (h1'.mono (Q' := fun ys H2 => ∃ ps, flatP ps = x :: ys ∧ P ps H2) (by
    rintro ys H2 ⟨mu2, S2, d2, R2, x2, r2, h2⟩
    exact h2.ok R2 (.cons (r1.mono R1 x2) r2)))
  refine h2.mono ?_
  rintro y H2 ⟨mu2, S2, d2, R2, x2, r2, h3⟩
  refine hc σ H2 _ ⟨mu2, S2, ρ, R2, (re.mono R x1).mono R1 x2, (PostG.bind (RA := QDs X.K) h3).mono ?_⟩
  rintro zs H3 ⟨mu3, S3, d3, R3, x3, r3, h4⟩
  obtain ⟨ps, e, p⟩ := h4.ok R3 (.cons (r2.mono R2 x3) r3)
  cases ps with
  | nil => simp [flatP] at e
  | cons q ps =>
    obtain ⟨q1, q2⟩ := q
    simp only [flatP, List.flatMap_cons, List.cons_append, List.nil_append, List.cons.injEq] at e
    obtain ⟨rfl, rfl, e⟩ := e
    exact ⟨ps, e, p⟩
def putAll : List D → List Key → List D → Option (List Key × List D)
  | [], ks, ds => some (ks, ds)
  | k :: v :: r, ks, ds => match keyD k with
    | some (.inl j) => match plK (putKs (ks.map .inl) (.inl j)) with
      | some js => putAll r js (putVs (ks.map .inl) ds (.inl j) v)
      | none => none
    | _ => none
  | [_], _, _ => none
def fDisp (g : EF (List D)) : EF D := fun ρ S => match g ρ (S ++ [.dic [] []]) with
  | some (.ok es, T) => if es.length ≤ 30 then match T[S.length]? with
    | some (.dic [] []) => match putAll es [] [] with
      | some (ks, ds) => some (.ok (.ref S.length), T.set S.length (.dic (ks.map .inl) ds))
      | none => none
    | _ => none
    else none
  | _ => none
theorem plK_of : ∀ js : List Key, plK (js.map .inl) = some js
  | [] => rfl
  | j :: js => by simp only [List.map_cons, plK, plK_of js, Option.map_some]
theorem putAll_rd {K : PySem.W.Frag} {mu : Nat → Addr} {n : Nat} {H : Hp} : ∀ {ps : List (V × V)} {es : List D} {ks ks' : List Key} {ds ds' : List D} {vs : List V}, RDs K mu n H (flatP ps) es → RDs K mu n H vs ds → ks.length = ds.length → putAll es ks ds = some (ks', ds') →
    ∃ kvs : List (Key × V), ps = kvs.map (fun kv => (kV kv.1, kv.2)) ∧ ∃ vs', mergeK (ks.zip vs) kvs = ks'.zip vs' ∧ RDs K mu n H vs' ds' ∧ ks'.length = ds'.length
  | [], es, ks, ks', ds, ds', vs, r, rv, hl, h => by
    cases r
    cases h
    exact ⟨[], rfl, vs, rfl, rv, hl⟩
  | (x, y) :: ps, es, ks, ks', ds, ds', vs, r, rv, hl, h => by
    simp only [flatP, List.flatMap_cons, List.cons_append, List.nil_append] at r
    cases r with
    | cons r1 r =>
      cases r with
      | cons r2 r3 =>
        simp only [putAll] at h
        split at h
        · rename_i j hj
          have hvl : ks.length = vs.length := by rw [hl, RDs.length rv]
          obtain ⟨js, e7, e8⟩ := put_inl (k := j) (v := y) hvl
          have e9 : plK (js.map .inl) = some js := plK_of js
          rw [e7, e9] at h
          simp only at h
          have hl' : js.length = (putVs (ks.map .inl) ds (.inl j) D.non).length := by
            have z := putVs_len (ks := ks.map .inl) (xs := ds) (k := .inl j) (x := D.non) (by simpa using hl)
            rw [e7] at z
            simpa using z
          obtain ⟨kvs, e1, vs', e2, e3, e4⟩ := putAll_rd (ps := ps) r3 (putVs_rd r2 (ks := ks.map .inl) (k := .inl j) rv) (by rw [hl']; unfold putVs; split <;> simp) h
          refine ⟨(j, y) :: kvs, by rw [List.map_cons, ← e1, keyD_rd r1 hj], vs', ?_, e3, e4⟩
          rw [← e2]
          unfold mergeK
          rw [List.foldl_cons, e8]
        · cases h
theorem flat_of {K : PySem.W.Frag} {mu : Nat → Addr} {n : Nat} {H : Hp} : ∀ (es : List D) (ks0 : List Key) (ds0 : List D) (xs : List V), RDs K mu n H xs es → (∃ q, putAll es ks0 ds0 = some q) → ∃ ps, flatP ps = xs
  | [], _, _, _, r, _ => by cases r; exact ⟨[], rfl⟩
  | [_], _, _, _, r, hq => by obtain ⟨q, hq⟩ := hq; simp [putAll] at hq
  | k :: v :: es, ks0, ds0, _, r, hq => by
    cases r with
    | cons r1 r =>
      cases r with
      | cons r2 r3 =>
        obtain ⟨q, hq⟩ := hq
        simp only [putAll] at hq
        split at hq
        · split at hq
          · obtain ⟨ps, e⟩ := flat_of es _ _ _ r3 ⟨q, hq⟩
            exact ⟨(_, _) :: ps, by simp only [flatP, List.flatMap_cons, List.cons_append, List.nil_append]; rw [← e]; rfl⟩
          · cases hq
        · cases hq
theorem se_disp {pos : Pos} {keys : List (Option Expr)} {values : List Expr} {g : EF (List D)} (a : SPs X C W pos keys values g) (hall : keys.all (·.isSome) = true := by rfl) (hl : keys.length = values.length := by rfl) (h0 : keys ≠ [] := by intro z; cases z) (h15 : keys.length ≤ 15 := by decide) : SE X C W (.Dict keys values pos) (fDisp g) := by
  obtain ⟨trs, hp, hc⟩ := a
  refine ⟨PE.imp (pe_disp hp hall hl h0 h15) ?_⟩
  rintro σ H Q ⟨mu, S, ρ, R, re, h⟩
  intro p hpn
  have hf : ∀ l, l < S.length → mu l ≠ p := fun l hl e => by
    obtain ⟨u, hu, _⟩ := R.at hl
    rw [e, hpn] at hu; cases hu
  have R2 : Rel X.K C (muUp mu S.length p) (S ++ [.dic [] []]) (upd H p (.dK [])) := (R.new hpn).take hf ⟨_, [], upd_same, .pl [] [], rfl, .nil⟩
  have x : Ext mu S.length H (muUp mu S.length p) (S ++ [SO.dic [] []]).length (upd H p (.dK [])) := by simpa using (Ext.new (mu := mu) (n := S.length) (o := .dK []) hpn).take hpn
  refine hc σ _ _ ⟨_, _, ρ, R2, re.mono R x, ?_⟩
  unfold fDisp at h
  cases e0 : g ρ (S ++ [.dic [] []]) with
  | none => rw [e0] at h; exact h.elim
  | some q =>
    obtain ⟨z, T⟩ := q
    rw [e0] at h
    cases z with
    | error e => exact h.elim
    | ok es =>
      simp only at h
      split at h
      · rename_i hz
        split at h
        · rename_i e1
          split at h
          · rename_i ks ds e2
            intro mu2 H2 xs R3 x2 r2
            have hlT : S.length < T.length := (List.getElem?_eq_some_iff.mp e1).1
            have hmu : mu2 S.length = p := by
              rw [x2.same S.length (by simp), muUp_same]
            obtain ⟨u0, vs0, hv0, dob0, hl0, rd0⟩ := R3.obj S.length _ e1
            rw [hmu] at hv0
            have e00 := DObj.pl_of (js := []) dob0
            have hv0' : H2 p = some (.dK []) := by rw [hv0, e00]; rfl
            obtain ⟨ps, rfl⟩ := flat_of es [] [] xs r2 ⟨_, e2⟩
            obtain ⟨kvs, e3, vs', e4, e5, e6⟩ := putAll_rd (ks := []) (ds := []) (vs := []) r2 .nil rfl e2
            refine ⟨ps, rfl, hv0', kvs, e3, ?_, ?_⟩
            · have l1 := RDs.length r2
              have l2 : ∀ ps : List (V × V), (flatP ps).length = 2 * ps.length := by
                intro ps
                induction ps with
                | nil => rfl
                | cons q ps ih => simp only [flatP, List.flatMap_cons, List.length_append, List.length_cons, List.length_nil] at ih ⊢; omega
              rw [l2, e3, List.length_map] at l1
              omega
            · have e4' : mergeK [] kvs = ks.zip vs' := e4
              rw [e4']
              have hv1 : H2 (mu2 S.length) = some (.dK []) := by rw [hmu]; exact hv0'
              have R4 := R3.putO (o := .dic (ks.map .inl) ds) (u := .dK (ks.zip vs')) hlT hv1 (noSeq_dO (.inl ⟨_, rfl⟩)) ⟨_, vs', upd_same, .pl ks vs', by simpa using e6, e5.putO hv1 (noSeq_dO (.inl ⟨_, rfl⟩))⟩
              have x3 : Ext mu2 T.length H2 mu2 T.length (upd H2 (mu2 S.length) (.dK (ks.zip vs'))) := .put hlT ⟨_, hv1, fun _ _ z => by cases z⟩
              have len : (T.set S.length (SO.dic (ks.map .inl) ds)).length = T.length := List.length_set
              have fin := h mu2 _ (.ref (mu2 S.length)) R4 (by rw [len]; exact (x.trans x2).trans x3) (.ref (by rw [len]; exact hlT))
              rw [hmu] at fin
              exact fin
          · exact h.elim
        · exact h.elim
      · exact h.elim
end
end Sh

set_option Elab.async false
set_option linter.all false
set_option maxRecDepth 100000
set_option maxHeartbeats 4000000
set_option autoImplicit false
namespace Sh
open PySem PySem.Spec PyProof.Rows L2
/-! ### [elt for t0 in i0 for t1 in i1 for ..] of any number of clauses without tests -/
section
variable {prog : Program} {w : World} {A : Around} {s : Shared} {elt : Expr} {gs : List Comprehension} {scope : Scope} {pos : Pos} {it acc : Value} {env : Env}
end
end Sh

set_option Elab.async false
set_option linter.all false
set_option maxRecDepth 100000
set_option maxHeartbeats 4000000
set_option autoImplicit false
namespace Sh
open PySem PySem.Spec PyProof.Rows L2
abbrev TC := TI × TG × List Nat
def wsOf : List TC → List Nat
  | [] => []
  | c :: _ => c.2.2
inductive ClauOk (X : Cx) : List (Expr × Expr) → List TC → Prop where
  | nil : ClauOk X [] []
  | cons {t i : Expr} {wi : TI} {g : TG} {ws : List Nat} {cs : List (Expr × Expr)} {ts : List TC} (pi : PI X t i wi) (pg : PG X t g) (hs : ∀ env x, foldedSetIterable i env x = pure x) (sub : ∀ i ∈ wsOf ts, i ∈ ws) (rest : ClauOk X cs ts) : ClauOk X ((t, i) :: cs) ((wi, g, ws) :: ts)
theorem ClauOk.hs {X : Cx} {cs : List (Expr × Expr)} {ts : List TC} (h : ClauOk X cs ts) : ∀ c ∈ cs, ∀ env x, foldedSetIterable c.2 env x = pure x := by
  induction h with
  | nil => intro c hc; cases hc
  | cons pi pg hs sub rest ih =>
    intro c hc
    rcases List.mem_cons.1 hc with rfl | hc
    · exact hs
    · exact ih c hc
end Sh

set_option Elab.async false
set_option linter.all false
set_option maxRecDepth 100000
set_option maxHeartbeats 4000000
set_option autoImplicit false
namespace Sh
open PySem PySem.Spec PyProof.Rows L2
structure DC where
  it : IF
  g : GF
  ts : List Nat
  vs : List Nat
section
variable {X : Cx} {C : Cls0} {W : Wx}
def DC.tc (X : Cx) (C : Cls0) (c : DC) : TC := (TI' X.K C W0 c.it, TG' X.K C c.g c.ts, c.vs)
/-- the further clauses -/
inductive SCl (X : Cx) (C : Cls0) : List (Expr × Expr) → List DC → Prop where
  | nil : SCl X C [] []
  | cons {t i : Expr} {it : IF} {g : GF} {ts : List Nat} (vs : List Nat) {cs : List (Expr × Expr)} {ds : List DC} (hi : SI X C W0 t i it) (hg : SG X C t g ts) (rest : SCl X C cs ds)
      (hs : ∀ env x, foldedSetIterable i env x = pure x := by intro _ _; rfl) (sub : ∀ i ∈ (ds.head?.map DC.vs).getD [], i ∈ vs := by decide) (hts : ∀ i ∈ ts, i ∈ vs := by decide) : SCl X C ((t, i) :: cs) (⟨it, g, ts, vs⟩ :: ds)
theorem SCl.ok {cs : List (Expr × Expr)} {ds : List DC} (h : SCl X C cs ds) : ClauOk X cs (ds.map (DC.tc X C)) := by
  induction h with
  | nil => exact .nil
  | @cons t i it g ts vs cs ds hi hg rest hs sub hts ih =>
    refine .cons hi.pi hg.pg hs ?_ ih
    cases ds with
    | nil => intro i hi; cases hi
    | cons c ds => exact sub
theorem SCl.ts {cs : List (Expr × Expr)} {ds : List DC} (h : SCl X C cs ds) : ∀ c ∈ ds, ∀ i ∈ c.ts, i ∈ c.vs := by
  induction h with
  | nil => intro c hc; cases hc
  | @cons t i it g ts vs cs ds hi hg rest hs sub hts ih =>
    intro c hc
    rcases List.mem_cons.1 hc with rfl | hc
    · exact hts
    · exact ih c hc
end
end Sh

set_option Elab.async false
set_option linter.all false
set_option maxRecDepth 100000
set_option maxHeartbeats 4000000
set_option autoImplicit false
namespace Sh
open PySem PySem.Spec PyProof.Rows L2
section
variable {X : Cx} {C : Cls0} {W : Wx}
end
end Sh

set_option Elab.async false
set_option linter.all false
set_option maxRecDepth 100000
set_option maxHeartbeats 4000000
set_option autoImplicit false
namespace Sh
open PySem PySem.Spec PyProof.Rows L2
section
variable {X : Cx} {C : Cls0} {W : Wx}
end
end Sh

set_option Elab.async false
set_option linter.all false
set_option maxRecDepth 100000
set_option maxHeartbeats 4000000
set_option autoImplicit false
namespace Sh
open PySem PySem.Spec PyProof.Rows L2
/-! ### lcm of two numbers that are not too great -/
section
variable {X : Cx} {C : Cls0}
end
end Sh

set_option Elab.async false
set_option linter.all false
set_option maxRecDepth 100000
set_option maxHeartbeats 4000000
set_option autoImplicit false
namespace Sh
open PySem PySem.Spec PyProof.Rows L2
/-! ### len(d), dict(pairs) -/
section
variable {X : Cx}
end
/-! dict(pairs) -/
section
variable {X : Cx} {pins : List (Addr × Obj)} {σ : L2.St} {H : Hp} {s : Shared}
end
/-! the law -/
section
variable {X : Cx} {C : Cls0} {W : Wx}
end
end Sh

set_option Elab.async false
set_option linter.all false
set_option maxRecDepth 100000
set_option maxHeartbeats 4000000
set_option autoImplicit false
namespace Sh
open PySem PySem.Spec PyProof.Rows L2
/-! ### x += e, x -= e of ints -/
def gAdd : Int → Int → Option D := fun i j => some (.int (i + j))
theorem sv_ip {X : Cx} {C : Cls0} {f : Int → Int → Int} : SrvIp X C (ipI f) (pI2 fun i j => some (.int (f i j))) := by
  intro XW mu S H x y d e Q R rx ry q
  cases rx with
  | int i =>
    cases ry with
    | int j => exact ⟨i, j, rfl, rfl, q.ok R (.int _)⟩
    | _ => exact q.elim
  | _ => exact q.elim
theorem sv_ipAdd {X : Cx} {C : Cls0} : SrvIp X C (ipI fun i j => i + j) (pI2 gAdd) := sv_ip
/-! ### str(i) -/
/-! ### reversed(range(n)), reversed(range(i, j)) -/
section
variable {X : Cx} {C : Cls0} {W : Wx}
def dRev (lo : Int) (n : Nat) : List D := (List.range n).map fun i => D.int (lo + (n : Nat) - 1 - (i : Nat))
theorem itg_rev {K : PySem.W.Frag} {C : Cls0} {mu : Nat → Addr} {S : Store} {H : Hp} {lo : Int} {n : Nat} : ItG K C (Itc (lo + (n : Nat) - 1) (-1) n) (dRev lo n) [] mu S.length H where
  go := fun mu' S' H' i R' x _ hi => by show i < n; simpa [dRev] using hi
  yld := fun mu' S' H' i v H'' R' x _ hi y => by
    obtain ⟨rfl, rfl⟩ := y
    have hi' : i < n := by simpa [dRev] using hi
    refine ⟨.int (lo + (n : Nat) - 1 + (i : Nat) * (-1)), ?_, R', .refl, .int _⟩
    simp only [dRev, List.getElem?_map, List.getElem?_range hi', Option.map_some, Option.some.injEq, D.int.injEq]
    omega
  stop := fun mu' S' H' R' x _ => by show n ≤ (dRev lo n).length; simp [dRev]
def iRev1 (f : EF D) : IF := fun ρ S => bindR (f ρ S) fun d S1 => match d with
  | .int j => if -(2 ^ 62) ≤ j ∧ j < 2 ^ 62 then okR (dRev 0 j.toNat, []) S1 else none
  | _ => none
theorem si_rev1 {tg a : Expr} {p pos p2 pos2 : Pos} {f : EF D} (hr : X.mg "range" = none) (hm : X.mg "reversed" = none) (ha : SE X C W a f) (gr : Gl X "range" := by rfl) (hg : Gl X "reversed" := by rfl) (na : starEach [a] X.env = (false, eval a X.env) :: starEach [] X.env := by rfl) (hs : starEach [.Call (.Name "range" p2) [a] [] pos2] X.env = (false, eval (.Call (.Name "range" p2) [a] [] pos2) X.env) :: starEach [] X.env := by rfl) :
    SI X C W tg (.Call (.Name "reversed" p) [.Call (.Name "range" p2) [a] [] pos2] [] pos) (iRev1 f) := by
  refine ⟨PI.imp (pi_revR hg hm (prg_1 gr hr ha.pe na) hs) ?_⟩
  rintro σ H Q ⟨mu, S, ρ, R, re, h⟩
  refine ⟨mu, S, ρ, R, re, (PostG.bind (RA := QD X.K) h).mono ?_⟩
  rintro v H1 ⟨mu1, S1, d1, R1, x1, r1, h1⟩
  cases r1 with
  | int j =>
    simp only at h1
    split at h1
    · rename_i hj
      refine ⟨j, rfl, by decide, by decide, hj.1, hj.2, ?_⟩
      have e : (j - 0).toNat = j.toNat := by rw [Int.sub_zero]
      rw [e]
      exact h1.ok R1 itg_rev
    · exact h1.elim
  | _ => exact h1.elim
end
/-! ### a module's own dict: texts to ints -/
theorem flat_int {v : Value} {i : Int} (h : PyProof.V.Flat v (PyData.int i)) : ∃ t, v = Value.int i t := by
  have h := h (default : Heap)
  cases h
  exact ⟨_, rfl⟩
abbrev ktD (kvs : List (Str × Int)) : List (Str × KTD.Dat) := (kvs.map fun p => (p.1, PyData.int p.2)).map fun p => (p.1, KTD.Dat.flat p.2)
section
variable {X : Cx} {pins : List (Addr × Obj)} {σ : L2.St} {H : Hp} {s : Shared} {a : Addr} {kvs : List (Str × Int)}
theorem gtab_at (I : Inv X pins σ H s) (g : GTab X.K a kvs) : KTD.Here s.heap s.heap a (ktD kvs) :=
  ⟨(KTD.tab_of_look (fun _ _ => KTD.flat_of_looks) (fun b o e => I.kIn b o e) g.1).text, fun _ _ e => e⟩
theorem datum_map {k : Str} : ∀ kvs : List (Str × Int), KTD.datumAt k (ktD kvs) = ((kvs.find? fun p => decide (p.1 = k)).map fun p => KTD.Dat.flat (.int p.2))
  | [] => rfl
  | p :: kvs => by
    have ih := datum_map (k := k) kvs
    unfold ktD at ih ⊢
    simp only [List.map_cons, List.find?_cons]
    unfold KTD.datumAt
    by_cases h : p.1 = k
    · simp [h]
    · have h' : ¬ k = p.1 := fun z => h z.symm
      simp only [h, h', decide_false]
      exact ih
end
def gdVal (kvs : List (Str × Int)) (k : Str) : Option Int := (kvs.find? fun p => decide (p.1 = k)).map (·.2)
theorem inKeys_gd {k : Str} (kvs : List (Str × Int)) : KTD.inKeys k (ktD kvs) = (gdVal kvs k).isSome := by
  rw [← KTD.isSome_datumAt, datum_map]
  unfold gdVal
  rw [Option.isSome_map, Option.isSome_map]
def pNotInGd : P2 := fun d e S => match e, d with
  | .gd kvs, .str k => okR (.bl (!(gdVal kvs k).isSome)) S
  | _, _ => none
section
variable {X : Cx} {C : Cls0} {W : Wx}
def rNotInGd (K : PySem.W.Frag) : R2 := fun x y H Q => ∃ a kvs k, y = .ref a ∧ x = .str k ∧ GTab K a kvs ∧ Q (.bl (!(gdVal kvs k).isSome)) H
theorem op_notInGd : OpR X (compareOp .NotIn) (rNotInGd X.K) := by
  intro pins s σ H x y u v Q I rx ry h
  obtain ⟨a, kvs, k, rfl, rfl, g, q⟩ := h
  obtain ⟨t, rfl⟩ := rx
  cases (show v = Value.ref a from ry)
  refine KTD.notin_text (gtab_at I g) ?_
  rw [inKeys_gd]
  exact ⟨.bl _, H, I.tok _, rfl, q⟩
theorem sv_notInGd : Srv2 X.K C (rNotInGd X.K) pNotInGd := by
  intro XW mu S H x y d e Q R rx ry q
  cases ry with
  | gd g =>
    cases rx with
    | str k => exact ⟨_, _, k, rfl, rfl, g, q.ok R (.bl _)⟩
    | _ => exact q.elim
  | _ => exact q.elim
/-- d[k] -/
def fGdGet (f g : EF D) : EF D := fun ρ S => bindR (f ρ S) fun d S1 => bindR (g ρ S1) fun e S2 => match d, e with
  | .gd kvs, .str k => match gdVal kvs k with
    | some i => okR (.int i) S2
    | none => none
  | _, _ => none
theorem gd_item {A : Around} {E : Value → Shared → Prop} {pins : List (Addr × Obj)} {σ : L2.St} {H : Hp} {s : Shared} {a : Addr} {kvs : List (Str × Int)} {k : Str} {t : Tok} {i : Int} {Q : Value → Shared → Prop} (I : Inv X pins σ H s) (g : GTab X.K a kvs) (hv : gdVal kvs k = some i) (h : ∀ t s', Inv X pins σ H s' → Q (.int i t) s') :
    wpAny (model X.prog X.w) A (getItem (.ref a) (.str k t)) Q E s := by
  have T := gtab_at I g
  unfold getItem
  try with_reducible refine wpAny_holding ?_
  refine wpAny_bind (wpAny_sequenceKey T.typeIs (by decide) ?_)
  refine wpAny_bind (wpAny_callSpecial?_slot (name := Str.ofString "__getitem__") T.typeIs slot_dict_getitem
    (wpAny_call_entry slot_dict_getitem T.typeIs entry_dict_getitem ?_ (args_dict_getitem _ _)))
  show wpAny _ _ (dictGet a (.str k t) >>= _) _ _ s
  have hd : KTD.datumAt k (ktD kvs) = some (KTD.Dat.flat (.int i)) := by
    rw [datum_map]
    unfold gdVal at hv
    obtain ⟨p, e1, e2⟩ := Option.map_eq_some_iff.mp hv
    rw [e1, ← e2]
    rfl
  refine wpAny_bind (KTD.dictGet_text T (fun d v ha hv => wpAny_pure ⟨v, rfl, wpAny_pure ?_⟩) fun hn => ?_)
  · rw [hd] at ha
    cases ha
    obtain ⟨t', rfl⟩ : ∃ t', v = Value.int i t' := by
      exact flat_int hv
    exact h t' _ (I.tok _)
  · rw [hd] at hn; cases hn
theorem se_gdget {o i : Expr} {f g : EF D} {pos : Pos} (ho : SE X C W o f) (hi : SE X C W i g) (hs : NoSl i := by intro _ _; rfl) : SE X C W (.Subscript o i pos) (fGdGet f g) := by
  have key : PE X (.Subscript o i pos) (fun σ H Q => TE' X.K C W f σ H fun x H1 => TE' X.K C W g σ H1 fun y H2 => ∃ a kvs k j, x = .ref a ∧ y = .str k ∧ GTab X.K a kvs ∧ gdVal kvs k = some j ∧ Q (.int j) H2) := by
    refine ⟨fun pins s σ H Q I h => ?_⟩
    refine subD_of PySem.F.slot_dict_getitem.lookup hs (thn (ho.pe.run pins s σ H _ I h) fun u s1 ⟨x, H1, I1, rx, q1⟩ => thn (hi.pe.run pins s1 σ H1 _ I1 q1) fun iv s2 ⟨y, H2, I2, ry, a, kvs, k, j, ex, ey, gt, hv, q2⟩ => ?_)
    subst ex ey
    obtain rfl : u = Value.ref a := rx
    obtain ⟨t, rfl⟩ := ry
    exact ⟨(gtab_at I2 gt).typeIs, gd_item I2 gt hv fun t s3 I3 => ⟨.int j, H2, I3, ⟨t, rfl⟩, q2⟩⟩
  refine ⟨PE.imp key ?_⟩
  rintro σ H Q ⟨mu, S, ρ, R, re, h⟩
  refine ⟨mu, S, ρ, R, re, (PostG.bind (RA := QD X.K) h).mono ?_⟩
  rintro v H1 ⟨mu1, S1, d1, R1, x1, r1, h1⟩
  refine ⟨mu1, S1, ρ, R1, re.mono R x1, (PostG.bind (RA := QD X.K) h1).mono ?_⟩
  rintro w H2 ⟨mu2, S2, d2, R2, x2, r2, h2⟩
  cases r1 with
  | gd gt =>
    cases r2 with
    | str k =>
      simp only at h2
      split at h2
      · rename_i j hv
        exact ⟨_, _, k, j, rfl, rfl, gt, hv, h2.ok R2 (.int j)⟩
      · exact h2.elim
    | _ => exact h2.elim
  | _ => exact h2.elim
/-! the walks -/
def ItKn (n : Nat) (F : Nat → V → Prop) : It := ⟨fun i _ => i < n, fun i H x H' => H' = H ∧ F i x, fun i _ => n ≤ i⟩
theorem turn_kvals {P : Program} {w : World} {K : PySem.W.Frag} {tg : Expr} (it : Addr) {d : Addr} {o : Obj} {es : Array DictEntry} {ep : Nat} {Fk : Nat → V → Prop} (hk : K.lookup d = some o) (hx : o.ExactDict) (hd : o.data = .dict es ep) (hF : ∀ i (hi : i < es.size), ∃ v, RelV v es[i].val ∧ Fk i v) :
    Turn P w K tg (ItKn es.size Fk) [it] it (fun i h => h.IsValIter it d i es.size ep) where
  mem := by simp
  obj := fun i h st b hb => by
    have e : b = it := by simpa using hb
    subst e
    obtain ⟨oi, e, c, dd⟩ := st
    exact ⟨oi, e, fun v z => by rw [dd] at z; cases z⟩
  keep := fun i h h' st k => st.at fun oi e => k it (by simp) oi e
  item := by
    intro X hP hw hK hc i pins s σ H E I hf st hg
    subst hP hw hK
    obtain ⟨f0, f1, f2, f3, f4, f5⟩ := hf it (by simp)
    have hi : i < es.size := hg
    obtain ⟨v, rv, hv⟩ := hF i hi
    refine wpAny_pyNext_values_item_raw st ⟨o, I.kIn d o hk, hx, hd⟩ hi fun h' st' sb => ?_
    have I1 : Inv X pins σ H { s with heap := h' } := I.turned (t' := s.toks) (fun b ob hb e => (sb.2 b hb).trans e) f0 f1 f3 f4 f5
    obtain ⟨oi, e, c, dd⟩ := id st'
    exact ⟨_, rfl, go_of (s := { s with heap := h' }) e c dd (by decide) ⟨v, H, I1, rv, ⟨rfl, hv⟩, st', fun b hb => (hf b hb).1⟩⟩
  done := by
    intro X hP hw hK hc i pins s σ H E I hf st hg
    subst hP hw hK
    obtain ⟨f0, f1, f2, f3, f4, f5⟩ := hf it (by simp)
    exact wpAny_pyNext_values_end_raw (I.ok.hd hc) st ⟨o, I.kIn d o hk, hx, hd⟩ hg fun h' eb => ⟨rfl, I.turned (t' := s.toks) (fun b ob hb e => eb b ob hb e) f0 f1 f3 f4 f5⟩
  self := fun A i s Q E st h => wpAny_pyIter_valiter st h
/-- the entries of a known dict -/
theorem gtab_es {K : PySem.W.Frag} {a : Addr} {kvs : List (Str × Int)} (g : GTab K a kvs) : (a == sysModules) = false ∧ ∃ o es ep, K.lookup a = some o ∧ o.ExactDict ∧ o.data = .dict es ep ∧ es.size = kvs.length ∧
    (∀ i (hi : i < es.size), ∃ v, RelV v es[i].val ∧ kvs[i]?.map (fun p => V.int p.2) = some v) ∧ ∀ i (hi : i < es.size), ∃ v, RelV v es[i].key ∧ kvs[i]?.map (fun p => V.str p.1) = some v := by
  obtain ⟨g, _⟩ := g
  unfold KTD.tabLook at g
  simp only [Bool.and_eq_true] at g
  obtain ⟨h0, g⟩ := g
  refine ⟨by simpa using h0, ?_⟩
  split at g
  · rename_i o ho
    simp only [Bool.and_eq_true] at g
    obtain ⟨⟨⟨h1, h2⟩, h3⟩, h4⟩ := g
    split at h4
    · rename_i es ep hd
      have hr := KTD.rows_of_look (fun _ _ => KTD.flat_of_looks) h4
      refine ⟨o, es, ep, ho, ⟨by simpa using h1, by simpa using h2, by simpa using h3⟩, hd, ?_, ?_, ?_⟩
      · have key : ∀ {l : List DictEntry} {D : List (Str × PyData)}, KTD.Rows (fun d v => PyProof.V.Flat v d) l D → l.length = D.length := by
          intro l D h
          induction h with
          | nil => rfl
          | cons _ _ _ ih => simp [ih]
        have := key hr
        simpa using this
      · intro i hi
        have key : ∀ {l : List DictEntry} {ks : List (Str × Int)}, KTD.Rows (fun d v => PyProof.V.Flat v d) l (ks.map fun p => (p.1, PyData.int p.2)) → ∀ (i : Nat) (e : DictEntry), l[i]? = some e → ∃ v, RelV v e.val ∧ ks[i]?.map (fun p => V.int p.2) = some v := by
          intro l
          induction l with
          | nil => intro ks _ i e he; simp at he
          | cons e0 l ih =>
            intro ks h i e he
            cases ks with
            | nil => cases h
            | cons p ks =>
              rw [List.map_cons] at h
              cases h with
              | cons hk hv ht =>
                cases i with
                | zero =>
                  simp at he
                  subst he
                  have hv : PyProof.V.Flat e0.val (PyData.int p.2) := hv
                  obtain ⟨t, e1⟩ : ∃ t, e0.val = Value.int p.2 t := by
                    exact flat_int hv
                  exact ⟨.int p.2, ⟨t, e1⟩, rfl⟩
                | succ i => exact ih ht i e (by simpa using he)
        exact key hr i es[i] (by simp [hi])
      · intro i hi
        have key : ∀ {l : List DictEntry} {ks : List (Str × Int)}, KTD.Rows (fun d v => PyProof.V.Flat v d) l (ks.map fun p => (p.1, PyData.int p.2)) → ∀ (i : Nat) (e : DictEntry), l[i]? = some e → ∃ v, RelV v e.key ∧ ks[i]?.map (fun p => V.str p.1) = some v := by
          intro l
          induction l with
          | nil => intro ks _ i e he; simp at he
          | cons e0 l ih =>
            intro ks h i e he
            cases ks with
            | nil => cases h
            | cons p ks =>
              rw [List.map_cons] at h
              cases h with
              | cons hk hv ht =>
                cases i with
                | zero =>
                  simp at he
                  subst he
                  exact ⟨.str p.1, ⟨_, hk⟩, rfl⟩
                | succ i => exact ih ht i e (by simpa using he)
        exact key hr i es[i] (by simp [hi])
    · cases h4
  · cases g
def iGdVals (f : EF D) : IF := fun ρ S => bindR (f ρ S) fun d S1 => match d with
  | .gd kvs => okR (kvs.map fun p => D.int p.2, []) S1
  | _ => none
theorem itg_kn {K : PySem.W.Frag} {C : Cls0} {mu : Nat → Addr} {S : Store} {H : Hp} {kvs : List (Str × Int)} {n : Nat} {G : Str × Int → V} {T : Str × Int → D} (hn : n = kvs.length) (hG : ∀ p mu n H, RD K mu n H (G p) (T p)) : ItG K C (ItKn n fun i v => kvs[i]?.map G = some v) (kvs.map T) [] mu S.length H where
  go := fun mu' S' H' i R' x _ hi => by show i < n; simpa [hn] using hi
  yld := fun mu' S' H' i v H'' R' x _ hi y => by
    obtain ⟨rfl, y⟩ := y
    obtain ⟨p, e1, rfl⟩ := Option.map_eq_some_iff.mp y
    exact ⟨T p, by simp [e1], R', .refl, hG p _ _ _⟩
  stop := fun mu' S' H' R' x _ => by show n ≤ (kvs.map T).length; simp [hn]
theorem si_gdvals {tg : Expr} {apos cpos : Pos} {e : Expr} {f : EF D} (a : SE X C W e f) (hbase : attributeBase e "values" X.env (eval e X.env) = eval e X.env := by rfl) (hline : (apos.endLine == cpos.line) = true := by rfl) : SI X C W tg (.Call (.Attribute e "values" apos) [] [] cpos) (iGdVals f) := by
  have key : PI X tg (.Call (.Attribute e "values" apos) [] [] cpos) (fun σ H R => TE' X.K C W f σ H fun x H1 => ∃ d kvs, x = .ref d ∧ GTab X.K d kvs ∧ R (ItKn kvs.length fun i v => kvs[i]?.map (fun p => V.int p.2) = some v) H1) := by
    refine ⟨fun pins s σ H R I h => ?_⟩
    refine wpAny_Call_method (T := "dict") (id := "dict.values") hbase rfl hline F.plainAttrs_dict F.slot_dict_values F.type_dict_values (thn (a.pe.run pins s σ H _ I h) fun u s1 ⟨x, H1, I1, rx, d, kvs, ex, gt, q⟩ => ?_)
    subst ex
    obtain rfl : u = Value.ref d := rx
    obtain ⟨hs, o, es, ep, hk, hx, hd, hn, hv, _⟩ := gtab_es gt
    have hm : s1.heap.DictRaw d es ep := ⟨o, I1.kIn d o hk, hx, hd⟩
    refine ⟨hm.typeIs, (gtab_at I1 gt).noDict, ?_⟩
    have I2 : Inv X pins σ H1 { s1 with heap := s1.heap.push { cls := .type "dict_values", data := .fields #[.ref d] } } := I1.kept (t' := s1.toks) fun b ob q => Heap.get?_push_of_some _ q
    have fin : wpAny (model X.prog X.w) X.A (pyIter (.ref s1.heap.objs.size)) (PIE X pins σ tg R) X.xe { s1 with heap := s1.heap.push { cls := .type "dict_values", data := .fields #[.ref d] } } := by
      rw [← hn] at q
      exact wpAny_pyIter_values_raw (d := d) ⟨_, Heap.get?_push_size _ rfl, rfl, rfl⟩ (hm.at fun o e => Heap.get?_push_of_some _ e) (pi_one (tk := s1.toks) I2 _ (turn_kvals _ hk hx hd hv) ⟨_, Heap.get?_push_size _ rfl, rfl, rfl⟩ q)
    show wpAny _ _ (callWith cpos (.builtin "dict.values") [.ref d] [] []) _ X.xe s1
    exact method_meetsIn F.slot_dict_values F.entry_dict_values rfl (PySem.evalArgs_none ⟨rfl, hm.typeIs, F.args_dict_values_1 _, _, meets_dict_values_raw d hs, ⟨es, ep, hm⟩, fin⟩)
  refine ⟨PI.imp key ?_⟩
  rintro σ H Q ⟨mu, S, ρ, R, re, h⟩
  refine ⟨mu, S, ρ, R, re, (PostG.bind (RA := QD X.K) h).mono ?_⟩
  rintro v H1 ⟨mu1, S1, d1, R1, x1, r1, h1⟩
  cases r1 with
  | gd gt => exact ⟨_, _, rfl, gt, h1.ok R1 (itg_kn rfl fun p _ _ _ => .int _)⟩
  | _ => exact h1.elim
theorem se_gd {x : Str} {kvs : List (Str × Int)} {pos : Pos} (hm : ∃ a, X.mg x = some (.ref a) ∧ GTab X.K a kvs) (hg : Gl X x := by rfl) (hd : (x == ("__debug__" : Str)) = false := by decide) : SE X C W (.Name x pos) (fC (.gd kvs)) := by
  obtain ⟨a, hm, g⟩ := hm
  exact ⟨PE.imp (pe_glob (v := .ref a) hg hm rfl hd) fun σ H Q ⟨mu, S, ρ, R, re, h⟩ => h.ok R (.gd g)⟩
def rListGd (K : PySem.W.Frag) : List V → Hp → VK → Prop := fun vs H Q => ∃ a kvs, vs = [V.ref a] ∧ GTab K a kvs ∧ kvs.length ≤ sizeLine ∧ ∀ L, H L = none → Q (.ref L) (upd H L (.lst (kvs.map fun p => V.str p.1)))
theorem vals_keys : ∀ (kvs : List (Str × Int)) (us : List Value), us.length = kvs.length → (∀ (j : Nat) v, us[j]? = some v → ∃ w, RelV w v ∧ kvs[j]?.map (fun p => V.str p.1) = some w) → Vals (kvs.map fun p => V.str p.1) us
  | [], [], _, _ => .nil
  | [], _ :: _, h, _ => by simp at h
  | _ :: _, [], h, _ => by simp at h
  | p :: kvs, u :: us, h, g => by
    obtain ⟨w, e1, e2⟩ := g 0 u rfl
    simp at e2
    subst e2
    exact .cons e1 (vals_keys kvs us (by simpa using h) fun j v e => by simpa using g (j + 1) v (by simpa using e))
theorem cr_listGd (hc : X.calm = true) : CallR X (.type "list") (rListGd X.K) := by
  intro pins s σ H xs us Q I rxs h
  obtain ⟨a, kvs, rfl, g, hz, q⟩ := h
  obtain ⟨u, rfl, rx⟩ := vals1 rxs
  cases rx
  obtain ⟨lo, o, es, ep, hk, hx, hd, hn, _, hv⟩ := gtab_es g
  have hr : s.heap.DictRaw a es ep := ⟨o, I.kIn a o hk, hx, hd⟩
  refine PySem.W.kdl_call (kdl_raw (prog := X.prog) (w := X.w) lo) (I.ok.hd hc) hr (by rw [hn]; exact hz) fun h' tk acc' c' hk' hS hacc => ?_
  refine ⟨.ref s.heap.objs.size, upd H s.heap.objs.size (.lst (kvs.map fun p => V.str p.1)), I.laid (t' := tk) hk' (Nat.le_refl _) ⟨by simpa using hz, acc'.toList, c', ?_, by simpa using hS⟩, rfl, q _ (I.hok.fresh (Nat.le_refl _))⟩
  refine vals_keys kvs acc'.toList (by rw [Array.length_toList, hacc.1, hn]) fun j v e => ?_
  obtain ⟨hi, e1⟩ := hacc.2 j v (by rw [← Array.getElem?_toList]; exact e)
  obtain ⟨w, r, e2⟩ := hv j hi
  exact ⟨w, by rw [e1]; exact r, e2⟩
def fListGd (f : EF D) : EF (List D) := fun ρ S => bindR (f ρ S) fun d S1 => match d with
  | .gd kvs => if kvs.length ≤ 16777216 then okR (kvs.map fun p => D.str p.1) S1 else none
  | _ => none
theorem rds_strs {K : PySem.W.Frag} {mu : Nat → Addr} {n : Nat} {H : Hp} : ∀ kvs : List (Str × Int), RDs K mu n H (kvs.map fun p => V.str p.1) (kvs.map fun p => D.str p.1)
  | [] => .nil
  | p :: kvs => .cons (.str _) (rds_strs kvs)
theorem sl_listGd {p pos : Pos} {e : Expr} {f : EF D} (hc : X.calm = true) (hm : X.mg "list" = none) (ha : SE X C W e f) (hg : Gl X "list" := by rfl) (he : starEach [e] X.env = (false, eval e X.env) :: starEach [] X.env := by rfl) (hpl : (backTo pos (starEach [] X.env)).any (·.1) = false := by rfl) :
    SL X C W (.Call (.Name "list" p) [e] [] pos) (fListGd f) := by
  refine ⟨PE.imp (pe_callTy (cr_listGd hc) hg hm PyProof.Rows.boot_list (pa_cons ha.pe pa_nil he) (by decide) (by decide) he hpl) ?_⟩
  rintro σ H Q ⟨mu, S, ρ, R, re, h⟩
  refine ⟨mu, S, ρ, R, re, (PostG.bind (RA := QD X.K) h).mono ?_⟩
  rintro v1 H1 ⟨mu1, S1, d1, R1, x1, r1, h1⟩
  cases r1 with
  | gd g =>
    simp only at h1
    split at h1
    · rename_i hk
      exact ⟨_, _, rfl, g, by rw [sizeLine_16]; exact hk, fun L hL => new_fresh R1 .refl hL (rds_strs _) h1⟩
    · exact h1.elim
  | _ => exact h1.elim
end
end Sh

set_option Elab.async false
set_option linter.all false
set_option maxRecDepth 100000
set_option maxHeartbeats 4000000
set_option autoImplicit false
namespace Dn
open PySem L2 Sh
abbrev N__law_draws : List Str := ["script", "draws", "cell", "rest", "k", "mixed"]
noncomputable def d__law_draws : SF :=
  (sSeq (sAsg (fAl (fLst fNil)) (gN 1))
    (sSeq (sFor (iE (fSl (fVar 0) oNone (oSome (fC (.int 63))))) (gN 2) (sSeq (sAsg (fCall (p1L pAbs) (fCons (fVar 2) fNil)) (gN 3))
    (sIf (fT (fBin (pI2 gGe) (fVar 3) (fBin (pI2 gPow) (fC (.int 10)) (fC (.int 18))))) (sFor (iR1 (fCons (fC (.int 60)) fNil)) (gN 4) (sIf (fT (fBin (pI2 gGt) (fVar 3) (fC (.int 0)))) (sSeq (sExpr (fApd (fVar 1) (fBin (pI2 gMod) (fCall (p1L pInt) (fCons (fVar 3) fNil)) (fC (.int 1009)))))
    (sAsg (fBin (pI2 gDiv) (fVar 3) (fC (.int 1009))) (gN 3))) sNil)) (sSeq (sAsg (fBin (pI2 gMod) (fCall (p1L pInt) (fCons (fBin pAdd (fBin pMulA (fVar 3) (fC (.int 48271))) (fC (.int 11))) fNil)) (fC (.int 2147483647))) (gN 5))
    (sFor (iR1 (fCons (fC (.int 12)) fNil)) (gN 4) (sSeq (sAsg (fBin (pI2 gMod) (fCall (p1L pInt) (fCons (fBin pAdd (fBin pAdd (fBin pMulA (fVar 5) (fC (.int 16807))) (fBin pMulA (fC (.int 69621)) (fVar 4))) (fC (.int 5))) fNil)) (fC (.int 2147483629))) (gN 5))
    (sExpr (fApd (fVar 1) (fBin (pI2 gDiv) (fVar 5) (fC (.int 1009)))))))))))
    (sRet (fVar 1))))
noncomputable def m__law_draws : M := mOf N__law_draws 1 d__law_draws
abbrev N__law_more : List Str := ["draws", "place", "mixed", "k"]
noncomputable def d__law_more : SF :=
  (sSeq (sAsg (fBin (pI2 gMod) (fCall (p1L pInt) (fCons (fBin pAdd (fBin pAdd (fBin pMulA (fVar 1) (fC (.int 48271))) (fCall (p1L pLen) (fCons (fVar 0) fNil))) (fC (.int 11))) fNil)) (fC (.int 2147483629))) (gN 2))
    (sSeq (sFor (iR1 (fCons (fC (.int 3)) fNil)) (gN 3) (sSeq (sIf (fTru (fVar 0)) (sAsg (fBin pAdd (fVar 2) (fBin pIx (fVar 0) (fBin (pI2 gMod) (fCall (p1L pInt) (fCons (fBin pAdd (fBin pMulA (fVar 1) (fBin pAdd (fVar 3) (fC (.int 5)))) (fVar 3)) fNil)) (fCall (p1L pLen) (fCons (fVar 0) fNil))))) (gN 2)) sNil)
    (sAsg (fBin (pI2 gMod) (fCall (p1L pInt) (fCons (fBin pAdd (fBin pAdd (fBin pMulA (fVar 2) (fC (.int 16807))) (fBin pMulA (fC (.int 69621)) (fVar 3))) (fC (.int 5))) fNil)) (fC (.int 2147483629))) (gN 2))))
    (sRet (fBin (pI2 gDiv) (fVar 2) (fC (.int 1009))))))
noncomputable def m__law_more : M := mOf N__law_more 2 d__law_more
abbrev N__law_take : List Str := ["draws", "at", "many", "place"]
noncomputable def d__law_take : SF :=
  (sSeq (sAsg (fBin pIx (fVar 1) (fC (.int 0))) (gN 3))
    (sSeq (sAsg (fBin pAdd (fVar 3) (fC (.int 1))) (gIx (fVar 1) (fC (.int 0))))
    (sRet (fBin (pI2 gMod) (fCall (p1L pInt) (fCons (fIf (fT (fBin (pI2 gLt) (fVar 3) (fCall (p1L pLen) (fCons (fVar 0) fNil)))) (fBin pIx (fVar 0) (fVar 3)) (fApp 2 m__law_more (fCons (fVar 0) (fCons (fVar 3) fNil)))) fNil)) (fVar 2)))))
noncomputable def m__law_take : M := mOf N__law_take 3 d__law_take
end Dn

set_option Elab.async false
set_option linter.all false
set_option maxRecDepth 100000
set_option maxHeartbeats 4000000
set_option autoImplicit false
namespace Dn
open PySem L2 Sh
abbrev N__law_one : List Str := ["rows", "draws", "at"]
noncomputable def d__law_one : SF :=
  (sRet (fBin pIx (fVar 0) (fApp 3 m__law_take (fCons (fVar 1) (fCons (fVar 2) (fCons (fCall (p1L pLen) (fCons (fVar 0) fNil)) fNil))))))
noncomputable def m__law_one : M := mOf N__law_one 3 d__law_one
abbrev N_is_integer : List Str := ["value"]
noncomputable def d_is_integer : SF :=
  (sRet (fUn (pTyIs "int") (fVar 0)))
noncomputable def m_is_integer : M := mOf N_is_integer 1 d_is_integer
abbrev N_is_number : List Str := ["value", "least", "most"]
noncomputable def d_is_number : SF :=
  (sRet (fAnd (fApp 1 m_is_integer (fCons (fVar 0) fNil)) (fChain (pI2 gLe) (pI2 gLe) (fVar 1) (fVar 0) (fVar 2))))
noncomputable def m_is_number : M := mOf N_is_number 3 d_is_number
abbrev N_is_row : List Str := ["value", "size"]
noncomputable def d_is_row : SF :=
  (sRet (fAnd (fUn (pIsi "tuple") (fVar 0)) (fBin pEq (fCall (p1L pLen) (fCons (fVar 0) fNil)) (fVar 1))))
noncomputable def m_is_row : M := mOf N_is_row 2 d_is_row
end Dn

set_option Elab.async false
set_option linter.all false
set_option maxRecDepth 100000
set_option maxHeartbeats 4000000
set_option autoImplicit false
namespace Dn
open PySem L2 Sh
abbrev N__law_runs : List Str := ["shafts", "draws", "at", "k"]
noncomputable def d__law_runs : SF :=
  (sRet (fNew qTuple (fComp (iR1 (fCons (fBin pAdd (fC (.int 1)) (fApp 3 m__law_take (fCons (fVar 1) (fCons (fVar 2) (fCons (fC (.int 6)) fNil))))) fNil)) [3] (gN 3) tTrue (fTup (fCons (fApp 3 m__law_take (fCons (fVar 1) (fCons (fVar 2) (fCons (fVar 0) fNil)))) (fCons (fApp 3 m__law_one (fCons (fAl (fLst (fCons (fC (.str "up")) (fCons (fC (.str "down")) (fCons (fC (.str "same")) fNil))))) (fCons (fVar 1) (fCons (fVar 2) fNil)))) (fCons (fBin pAdd (fC (.int 1)) (fApp 3 m__law_take (fCons (fVar 1) (fCons (fVar 2) (fCons (fC (.int 6)) fNil))))) fNil)))))))
noncomputable def m__law_runs : M := mOf N__law_runs 3 d__law_runs
abbrev N__law_step_k11 : List Str := ["word"]
noncomputable def d__law_step_k11 : SF :=
  (sRet (fDGet (fDisp (fCons (fC (.str "up")) (fCons (fC (.int 1)) (fCons (fC (.str "down")) (fCons (fUn pNeg (fC (.int 1))) (fCons (fC (.str "same")) (fCons (fC (.int 0)) fNil))))))) (fVar 0)))
noncomputable def m__law_step_k11 : M := mOf N__law_step_k11 1 d__law_step_k11
abbrev N__law_made : List Str := ["runs", "shafts", "found", "shaft", "word", "count", "k"]
noncomputable def d__law_made : SF :=
  (sSeq (sAsg (fAl (fLst fNil)) (gN 2))
    (sSeq (sFor (iE (fVar 0)) (gTp 3 (gCn (gN 3) (gCn (gN 4) (gCn (gN 5) gNl)))) (sAsg (fAl (fCatE (fVar 2) (fAl (fComp (iR1 (fCons (fVar 5) fNil)) [6] (gN 6) tTrue (fBin (pI2 gMod) (fCall (p1L pInt) (fCons (fBin pAdd (fVar 3) (fBin pMulA (fApp 1 m__law_step_k11 (fCons (fVar 4) fNil)) (fVar 6))) fNil)) (fVar 1)))))) (gN 2)))
    (sRet (fVar 2))))
noncomputable def m__law_made : M := mOf N__law_made 2 d__law_made
abbrev N__law_is_run : List Str := ["part", "word", "shafts", "k"]
noncomputable def d__law_is_run : SF :=
  (sRet (fBin pEq (fAl (fComp (iR1 (fCons (fBin (pI2 gSub) (fCall (p1L pLen) (fCons (fVar 0) fNil)) (fC (.int 1))) fNil)) [3] (gN 3) (fT (fBin pNe (fBin (pI2 gMod) (fCall (p1L pInt) (fCons (fBin pAdd (fBin pIx (fVar 0) (fVar 3)) (fApp 1 m__law_step_k11 (fCons (fVar 1) fNil))) fNil)) (fVar 2)) (fBin pIx (fVar 0) (fBin pAdd (fVar 3) (fC (.int 1)))))) (fVar 3))) (fAl (fLst fNil))))
noncomputable def m__law_is_run : M := mOf N__law_is_run 3 d__law_is_run
abbrev N__law_table : List Str := ["threading", "shafts", "table", "place", "fits", "many", "part", "word"]
noncomputable def d__law_table : SF :=
  (sSeq (sAsg (fAl (fLst (fCons (fC (.int 0)) fNil))) (gN 2))
    (sSeq (sFor (iR3 (fCons (fBin (pI2 gSub) (fCall (p1L pLen) (fCons (fVar 0) fNil)) (fC (.int 1))) (fCons (fUn pNeg (fC (.int 1))) (fCons (fUn pNeg (fC (.int 1))) fNil)))) (gN 3) (sSeq (sAsg (fAl (fLst fNil)) (gN 4))
    (sSeq (sFor (iR2 (fCons (fC (.int 1)) (fCons (fBin pAdd (fBin (pI2 gSub) (fCall (p1L pLen) (fCons (fVar 0) fNil)) (fVar 3)) (fC (.int 1))) fNil))) (gN 5) (sSeq (sAsg (fSl (fVar 0) (oSome (fVar 3)) (oSome (fBin pAdd (fVar 3) (fVar 5)))) (gN 6))
    (sIf (fT (fBin pNe (fAl (fComp (iL (fLst (fCons (fC (.str "up")) (fCons (fC (.str "down")) (fCons (fC (.str "same")) fNil))))) [7] (gN 7) (fTru (fApp 3 m__law_is_run (fCons (fVar 6) (fCons (fVar 7) (fCons (fVar 1) fNil))))) (fVar 7))) (fAl (fLst fNil)))) (sExpr (fApd (fVar 4) (fBin pIx (fVar 2) (fBin (pI2 gSub) (fVar 5) (fC (.int 1)))))) sNil)))
    (sAsg (fAl (fCatE (fAl (fLst (fCons (fBin pAdd (fC (.int 1)) (fCall (p1L (pSeq qMin)) (fCons (fVar 4) fNil))) fNil))) (fVar 2))) (gN 2)))))
    (sRet (fCall (p1L pTuple) (fCons (fVar 2) fNil)))))
noncomputable def m__law_table : M := mOf N__law_table 2 d__law_table
abbrev N__check_shafts : List Str := ["shafts"]
noncomputable def d__check_shafts : SF :=
  (sIf (tNotF (fTru (fApp 3 m_is_number (fCons (fVar 0) (fCons (fC (.int 1)) (fCons (fC (.int 16)) fNil)))))) (sRaise "ArgumentError" "reason" (fC (.str "shafts"))) sNil)
noncomputable def m__check_shafts : M := mOf N__check_shafts 1 d__check_shafts
abbrev N_is_threading : List Str := ["value", "shafts", "part"]
noncomputable def d_is_threading : SF :=
  (sSeq (sIf (tOrF (tNotF (fTru (fUn (pIsi "tuple") (fVar 0)))) (tNotF (fT (fChain (pI2 gLe) (pI2 gLe) (fC (.int 1)) (fCall (p1L pLen) (fCons (fVar 0) fNil)) (fC (.int 24)))))) (sRet (fC (.bl false))) sNil)
    (sRet (fNew qAll (fComp (iE (fVar 0)) [2] (gN 2) tTrue (fApp 3 m_is_number (fCons (fVar 2) (fCons (fC (.int 0)) (fCons (fBin (pI2 gSub) (fVar 1) (fC (.int 1))) fNil))))))))
noncomputable def m_is_threading : M := mOf N_is_threading 2 d_is_threading
abbrev N__check_threading : List Str := ["threading", "shafts"]
noncomputable def d__check_threading : SF :=
  (sSeq (sExpr (fApp 1 m__check_shafts (fCons (fVar 1) fNil)))
    (sIf (tNotF (fTru (fApp 2 m_is_threading (fCons (fVar 0) (fCons (fVar 1) fNil))))) (sRaise "ArgumentError" "reason" (fC (.str "threading"))) sNil))
noncomputable def m__check_threading : M := mOf N__check_threading 2 d__check_threading
abbrev N__length_of : List Str := ["threading", "shafts", "first", "step", "count"]
noncomputable def d__length_of : SF :=
  (sSeq (sAsg (fC (.int 1)) (gN 4))
    (sSeq (sWhile (tAndF (fT (fBin (pI2 gLt) (fBin pAdd (fVar 2) (fVar 4)) (fCall (p1L pLen) (fCons (fVar 0) fNil)))) (fT (fBin pEq (fBin pIx (fVar 0) (fBin pAdd (fVar 2) (fVar 4))) (fBin (pI2 gMod) (fBin pAdd (fBin pIx (fVar 0) (fVar 2)) (fBin pMulA (fVar 4) (fVar 3))) (fVar 1))))) (sAug 4 (pI2 gAdd) (fC (.int 1))))
    (sRet (fVar 4))))
noncomputable def m__length_of : M := mOf N__length_of 4 d__length_of
abbrev N__longest_run : List Str := ["threading", "shafts", "first", "counts", "longest", "step"]
noncomputable def d__longest_run : SF :=
  (sSeq (sAsg (fAl (fComp (iGdVals (fC (.gd [("up", 1), ("down", -1), ("same", 0)]))) [5] (gN 5) tTrue (fApp 4 m__length_of (fCons (fVar 0) (fCons (fVar 1) (fCons (fVar 2) (fCons (fVar 5) fNil))))))) (gN 3))
    (sSeq (sAsg (fCall (p1L (pSeq qMax)) (fCons (fVar 3) fNil)) (gN 4))
    (sRet (fTup (fCons (fBin pIx (fVar 0) (fVar 2)) (fCons (fBin pIx (fAl (fListGd (fC (.gd [("up", 1), ("down", -1), ("same", 0)])))) (fIdx (fVar 3) (fVar 4))) (fCons (fVar 4) fNil)))))))
noncomputable def m__longest_run : M := mOf N__longest_run 3 d__longest_run
abbrev N_run_table : List Str := ["threading", "shafts", "entries", "first", "count"]
noncomputable def d_run_table : SF :=
  (sSeq (sExpr (fApp 2 m__check_threading (fCons (fVar 0) (fCons (fVar 1) fNil))))
    (sSeq (sAsg (fAl (fLst (fCons (fC (.int 0)) fNil))) (gN 2))
    (sSeq (sFor (iRev1 (fCall (p1L pLen) (fCons (fVar 0) fNil))) (gN 3) (sSeq (sAsg (fBin pIx (fApp 3 m__longest_run (fCons (fVar 0) (fCons (fVar 1) (fCons (fVar 3) fNil)))) (fC (.int 2))) (gN 4))
    (sExpr (fApd (fVar 2) (fBin pAdd (fC (.int 1)) (fCall (p1L (pSeq qMin)) (fCons (fSl (fVar 2) (oSome (fUn pNeg (fVar 4))) oNone) fNil)))))))
    (sRet (fCall (p1L pTuple) (fCons (fRev (fVar 2)) fNil))))))
noncomputable def m_run_table : M := mOf N_run_table 2 d_run_table
abbrev N_accept_run_table : List Str := ["threading", "shafts", "table", "part"]
noncomputable def d_accept_run_table : SF :=
  (sSeq (sExpr (fApp 2 m__check_threading (fCons (fVar 0) (fCons (fVar 1) fNil))))
    (sSeq (sIf (tOrF (tNotF (fTru (fApp 2 m_is_row (fCons (fVar 2) (fCons (fBin pAdd (fCall (p1L pLen) (fCons (fVar 0) fNil)) (fC (.int 1))) fNil))))) (tNotF (fTru (fNew qAll (fComp (iE (fVar 2)) [3] (gN 3) tTrue (fApp 1 m_is_integer (fCons (fVar 3) fNil))))))) (sRaise "PaperError" "reason" (fC (.str "form"))) sNil)
    (sIf (fT (fBin pNe (fVar 2) (fApp 2 m_run_table (fCons (fVar 0) (fCons (fVar 1) fNil))))) (sRaise "PaperError" "reason" (fC (.str "entry"))) sNil)))
noncomputable def m_accept_run_table : M := mOf N_accept_run_table 3 d_accept_run_table
abbrev N__is_run : List Str := ["value", "shafts", "shaft", "word", "count"]
noncomputable def d__is_run : SF :=
  (sSeq (sIf (tNotF (fTru (fApp 2 m_is_row (fCons (fVar 0) (fCons (fC (.int 3)) fNil))))) (sRet (fC (.bl false))) sNil)
    (sSeq (sAsg (fVar 0) (gTp 3 (gCn (gN 2) (gCn (gN 3) (gCn (gN 4) gNl)))))
    (sSeq (sIf (tOrF (tNotF (fTru (fUn (pIsi "str") (fVar 3)))) (fT (fBin pNotInGd (fVar 3) (fC (.gd [("up", 1), ("down", -1), ("same", 0)]))))) (sRet (fC (.bl false))) sNil)
    (sRet (fAnd (fApp 3 m_is_number (fCons (fVar 2) (fCons (fC (.int 0)) (fCons (fBin (pI2 gSub) (fVar 1) (fC (.int 1))) fNil)))) (fApp 3 m_is_number (fCons (fVar 4) (fCons (fC (.int 1)) (fCons (fC (.int 24)) fNil)))))))))
noncomputable def m__is_run : M := mOf N__is_run 2 d__is_run
abbrev N_threaded : List Str := ["runs", "shafts", "place", "shaft", "word", "count", "run", "_"]
noncomputable def d_threaded : SF :=
  (sSeq (sExpr (fApp 1 m__check_shafts (fCons (fVar 1) fNil)))
    (sSeq (sIf (tOrF (tNotF (fTru (fUn (pIsi "tuple") (fVar 0)))) (tNotF (fTru (fNew qAll (fComp (iE (fVar 0)) [6] (gN 6) tTrue (fApp 2 m__is_run (fCons (fVar 6) (fCons (fVar 1) fNil)))))))) (sRaise "ArgumentError" "reason" (fC (.str "runs"))) sNil)
    (sSeq (sIf (tNotF (fT (fChain (pI2 gLe) (pI2 gLe) (fC (.int 1)) (fNew qSum (fComp (iE (fVar 0)) [7, 5] (gTp 3 (gCn (gN 7) (gCn (gN 7) (gCn (gN 5) gNl)))) tTrue (fVar 5))) (fC (.int 24))))) (sRaise "ArgumentError" "reason" (fC (.str "runs"))) sNil)
    (sRet (fCall (p1L pTuple) (fCons (fComp2 (iE (fVar 0)) [3, 4, 5, 2] (gTp 3 (gCn (gN 3) (gCn (gN 4) (gCn (gN 5) gNl)))) tTrue (iR1 (fCons (fVar 5) fNil)) [2] (gN 2) tTrue (fBin (pI2 gMod) (fBin pAdd (fVar 3) (fBin pMulA (fVar 2) (fGdGet (fC (.gd [("up", 1), ("down", -1), ("same", 0)])) (fVar 4)))) (fVar 1))) fNil))))))
noncomputable def m_threaded : M := mOf N_threaded 2 d_threaded
abbrev N_fewest_runs : List Str := ["threading", "shafts", "runs", "first"]
noncomputable def d_fewest_runs : SF :=
  (sSeq (sExpr (fApp 2 m__check_threading (fCons (fVar 0) (fCons (fVar 1) fNil))))
    (sSeq (sAsg (fAl (fLst fNil)) (gN 2))
    (sSeq (sAsg (fC (.int 0)) (gN 3))
    (sSeq (sWhile (fT (fBin (pI2 gLt) (fVar 3) (fCall (p1L pLen) (fCons (fVar 0) fNil)))) (sSeq (sExpr (fApd (fVar 2) (fApp 3 m__longest_run (fCons (fVar 0) (fCons (fVar 1) (fCons (fVar 3) fNil))))))
    (sAug 3 (pI2 gAdd) (fBin pIx (fBin pIx (fVar 2) (fUn pNeg (fC (.int 1)))) (fC (.int 2))))))
    (sRet (fCall (p1L pTuple) (fCons (fVar 2) fNil)))))))
noncomputable def m_fewest_runs : M := mOf N_fewest_runs 2 d_fewest_runs
abbrev N__law_told_k11 : List Str := ["call", "one", "shafts", "table", "e"]
noncomputable def d__law_told_k11 : SF :=
  (sSeq (sTryM (sSeq (sIf (fT (fBin (pI2 gLt) (fVar 0) (fC (.int 2)))) (sRet (fIf (fT (fBin pEq (fVar 0) (fC (.int 0)))) (fApp 2 m_fewest_runs (fCons (fVar 1) (fCons (fVar 2) fNil))) (fApp 2 m_run_table (fCons (fVar 1) (fCons (fVar 2) fNil))))) sNil)
    (sSeq (sIf (fT (fBin pEq (fVar 0) (fC (.int 2)))) (sRet (fApp 2 m_threaded (fCons (fVar 1) (fCons (fVar 2) fNil)))) sNil)
    (sExpr (fApp 3 m_accept_run_table (fCons (fVar 1) (fCons (fVar 2) (fCons (fVar 3) fNil))))))) (hCons [("ArgumentError", false), ("PaperError", true)] 4 (fFld ["ArgumentError", "PaperError"] "reason") (hCons [("ArgumentError", true), ("PaperError", false)] 4 (fun x => fTup ((fun x => fCons ((fun _ => (fC (.str "argument"))) x) ((fun x => fCons ((fFld ["ArgumentError", "PaperError"] "reason") x) ((fun _ => fNil) x)) x)) x)) hNil)))
    (sRet (fC .non)))
noncomputable def m__law_told_k11 : M := mOf N__law_told_k11 4 d__law_told_k11
abbrev N__law_refusals_k11 : List Str := ["threading", "shafts", "draws", "at", "odd", "bad", "worse", "call"]
noncomputable def d__law_refusals_k11 : SF :=
  (sSeq (sAsg (fApp 3 m__law_one (fCons (fAl (fLst (fCons (fC .non) (fCons (fC (.int 0)) (fCons (fC (.int 17)) (fCons (fC (.bl true)) (fCons (fC (.str "2")) fNil))))))) (fCons (fVar 2) (fCons (fVar 3) fNil)))) (gN 4))
    (sSeq (sAsg (fApp 3 m__law_one (fCons (fAl (fLst (fCons (fC .non) (fCons (fTup fNil) (fCons (fTup (fCons (fVar 1) fNil)) (fCons (fTup (fCons (fUn pNeg (fC (.int 1))) fNil)) (fCons (fTup (fCons (fC (.bl true)) fNil)) (fCons (fBin pMulA (fTup (fCons (fC (.int 0)) fNil)) (fC (.int 25))) (fCons (fC (.str "0")) (fCons (fBin pAdd (fSl (fVar 0) (oSome (fC (.int 1))) oNone) (fTup (fCons (fVar 1) fNil))) fNil)))))))))) (fCons (fVar 2) (fCons (fVar 3) fNil)))) (gN 5))
    (sSeq (sAsg (fApp 3 m__law_one (fCons (fAl (fLst (fCons (fC .non) (fCons (fTup fNil) (fCons (fTup (fCons (fTup (fCons (fVar 1) (fCons (fC (.str "up")) (fCons (fC (.int 1)) fNil)))) fNil)) (fCons (fTup (fCons (fTup (fCons (fC (.int 0)) (fCons (fC (.str "UP")) (fCons (fC (.int 1)) fNil)))) fNil)) (fCons (fTup (fCons (fTup (fCons (fC (.int 0)) (fCons (fC (.str "up")) (fCons (fC (.int 0)) fNil)))) fNil)) (fCons (fTup (fCons (fTup (fCons (fC (.int 0)) (fCons (fC (.str "up")) (fCons (fC (.int 25)) fNil)))) fNil)) (fCons (fTup (fCons (fTup (fCons (fC (.int 0)) (fCons (fC (.str "up")) fNil))) fNil)) (fCons (fTup (fCons (fTup (fCons (fC (.bl true)) (fCons (fC (.str "up")) (fCons (fC (.int 1)) fNil)))) fNil)) (fCons (fTup (fCons (fTup (fCons (fC (.int 0)) (fCons (fC (.int 5)) (fCons (fC (.int 1)) fNil)))) fNil)) (fCons (fTup (fCons (fTup (fCons (fC (.int 0)) (fCons (fC (.str "same")) (fCons (fC (.int 20)) fNil)))) (fCons (fTup (fCons (fC (.int 0)) (fCons (fC (.str "up")) (fCons (fC (.int 5)) fNil)))) fNil))) (fCons (fTup (fCons (fC (.int 0)) (fCons (fC (.str "up")) (fCons (fC (.int 1)) fNil)))) (fCons (fTup (fCons (fTup (fCons (fC (.int 0)) (fCons (fC (.str "up")) (fCons (fC (.bl true)) fNil)))) fNil)) (fCons (fTup (fCons (fTup (fCons (fC (.int 0)) (fCons (fC (.str "down")) (fCons (fC (.int 1)) (fCons (fC (.int 1)) fNil))))) fNil)) fNil))))))))))))))) (fCons (fVar 2) (fCons (fVar 3) fNil)))) (gN 6))
    (sSeq (sFor (iL (fLst (fCons (fC (.int 0)) (fCons (fC (.int 1)) (fCons (fC (.int 3)) fNil))))) (gN 7) (sIf (tOrF (fT (fBin pNe (fApp 4 m__law_told_k11 (fCons (fVar 7) (fCons (fVar 5) (fCons (fVar 4) (fCons (fC .non) fNil))))) (fTup (fCons (fC (.str "argument")) (fCons (fC (.str "shafts")) fNil))))) (fT (fBin pNe (fApp 4 m__law_told_k11 (fCons (fVar 7) (fCons (fVar 5) (fCons (fVar 1) (fCons (fC .non) fNil))))) (fTup (fCons (fC (.str "argument")) (fCons (fC (.str "threading")) fNil)))))) (sRet (fC (.bl false))) sNil))
    (sRet (fAnd (fBin pEq (fApp 4 m__law_told_k11 (fCons (fC (.int 2)) (fCons (fVar 6) (fCons (fVar 4) (fCons (fC .non) fNil))))) (fTup (fCons (fC (.str "argument")) (fCons (fC (.str "shafts")) fNil)))) (fBin pEq (fApp 4 m__law_told_k11 (fCons (fC (.int 2)) (fCons (fVar 6) (fCons (fVar 1) (fCons (fC .non) fNil))))) (fTup (fCons (fC (.str "argument")) (fCons (fC (.str "runs")) fNil))))))))))
noncomputable def m__law_refusals_k11 : M := mOf N__law_refusals_k11 4 d__law_refusals_k11
abbrev N__law_bent : List Str := ["table", "draws", "at", "k", "rows", "one"]
noncomputable def d__law_bent : SF :=
  (sSeq (sAsg (fApp 3 m__law_take (fCons (fVar 1) (fCons (fVar 2) (fCons (fCall (p1L pLen) (fCons (fVar 0) fNil)) fNil)))) (gN 3))
    (sSeq (sAsg (fAl (fComp (iL (fLst (fCons (fBin pAdd (fBin pIx (fVar 0) (fVar 3)) (fC (.int 1))) (fCons (fBin (pI2 gSub) (fBin pIx (fVar 0) (fVar 3)) (fC (.int 1))) (fCons (fC (.int 0)) (fCons (fC (.bl true)) (fCons (fC .non) (fCons (fC (.str "1")) fNil)))))))) [5] (gN 5) tTrue (fBin pAdd (fBin pAdd (fSl (fVar 0) oNone (oSome (fVar 3))) (fTup (fCons (fVar 5) fNil))) (fSl (fVar 0) (oSome (fBin pAdd (fVar 3) (fC (.int 1)))) oNone)))) (gN 4))
    (sRet (fApp 3 m__law_one (fCons (fAl (fCatE (fVar 4) (fAl (fLst (fCons (fSl (fVar 0) (oSome (fC (.int 1))) oNone) (fCons (fBin pAdd (fVar 0) (fTup (fCons (fC (.int 0)) fNil))) (fCons (fC .non) (fCons (fRev (fVar 0)) (fCons (fBin pAdd (fSl (fVar 0) oNone (oSome (fVar 3))) (fSl (fVar 0) (oSome (fBin pAdd (fVar 3) (fC (.int 1)))) oNone)) fNil))))))))) (fCons (fVar 1) (fCons (fVar 2) fNil)))))))
noncomputable def m__law_bent : M := mOf N__law_bent 3 d__law_bent
abbrev N__law_reason_k11 : List Str := ["bent", "table", "part"]
noncomputable def d__law_reason_k11 : SF :=
  (sSeq (sIf (tOrF (tNotF (fTru (fUn (pIsi "tuple") (fVar 0)))) (tOrF (fT (fBin pNe (fCall (p1L pLen) (fCons (fVar 0) fNil)) (fCall (p1L pLen) (fCons (fVar 1) fNil)))) (fT (fBin pNe (fAl (fComp (iE (fVar 0)) [2] (gN 2) (tOrF (tNotF (fTru (fUn (pIsi "int") (fVar 2)))) (fTru (fUn (pIsi "bool") (fVar 2)))) (fVar 2))) (fAl (fLst fNil)))))) (sRet (fC (.str "form"))) sNil)
    (sRet (fIf (fT (fBin pEq (fVar 0) (fVar 1))) (fC .non) (fC (.str "entry")))))
noncomputable def m__law_reason_k11 : M := mOf N__law_reason_k11 2 d__law_reason_k11
abbrev N__law_fewest : List Str := ["threading", "shafts", "found", "place", "best", "word", "many"]
noncomputable def d__law_fewest : SF :=
  (sSeq (sAsg (fAl (fLst fNil)) (gN 2))
    (sSeq (sAsg (fC (.int 0)) (gN 3))
    (sSeq (sWhile (fT (fBin (pI2 gLt) (fVar 3) (fCall (p1L pLen) (fCons (fVar 0) fNil)))) (sSeq (sAsg (fTup (fCons (fC (.int 0)) (fCons (fC (.str "")) fNil))) (gN 4))
    (sSeq (sFor (iL (fLst (fCons (fC (.str "up")) (fCons (fC (.str "down")) (fCons (fC (.str "same")) fNil))))) (gN 5) (sSeq (sAsg (fC (.int 1)) (gN 6))
    (sSeq (sWhile (tAndF (fT (fBin (pI2 gLt) (fBin pAdd (fVar 3) (fVar 6)) (fCall (p1L pLen) (fCons (fVar 0) fNil)))) (fTru (fApp 3 m__law_is_run (fCons (fSl (fVar 0) (oSome (fVar 3)) (oSome (fBin pAdd (fBin pAdd (fVar 3) (fVar 6)) (fC (.int 1))))) (fCons (fVar 5) (fCons (fVar 1) fNil)))))) (sAsg (fBin pAdd (fVar 6) (fC (.int 1))) (gN 6)))
    (sIf (fT (fBin (pI2 gGt) (fVar 6) (fBin pIx (fVar 4) (fC (.int 0))))) (sAsg (fTup (fCons (fVar 6) (fCons (fVar 5) fNil))) (gN 4)) sNil))))
    (sSeq (sExpr (fApd (fVar 2) (fTup (fCons (fBin pIx (fVar 0) (fVar 3)) (fCons (fBin pIx (fVar 4) (fC (.int 1))) (fCons (fBin pIx (fVar 4) (fC (.int 0))) fNil))))))
    (sAsg (fBin pAdd (fVar 3) (fBin pIx (fVar 4) (fC (.int 0)))) (gN 3))))))
    (sRet (fCall (p1L pTuple) (fCons (fVar 2) fNil))))))
noncomputable def m__law_fewest : M := mOf N__law_fewest 2 d__law_fewest
abbrev N_law_k11 : List Str := ["script", "draws", "at", "turn", "shafts", "runs", "made", "due", "threading", "k", "table", "told", "bent"]
noncomputable def dr_law_k11 : SF :=
  (sSeq (sFor (iR1 (fCons (fC (.int 3)) fNil)) (gN 3) (sSeq (sAsg (fBin pAdd (fC (.int 1)) (fApp 3 m__law_take (fCons (fVar 1) (fCons (fVar 2) (fCons (fBin pIx (fAl (fLst (fCons (fC (.int 3)) (fCons (fC (.int 8)) (fCons (fC (.int 16)) fNil))))) (fApp 3 m__law_take (fCons (fVar 1) (fCons (fVar 2) (fCons (fC (.int 3)) fNil))))) fNil))))) (gN 4))
    (sSeq (sAsg (fApp 3 m__law_runs (fCons (fVar 4) (fCons (fVar 1) (fCons (fVar 2) fNil)))) (gN 5))
    (sSeq (sAsg (fApp 2 m__law_made (fCons (fVar 5) (fCons (fVar 4) fNil))) (gN 6))
    (sSeq (sAsg (fIf (fT (fBin (pI2 gLt) (fCall (p1L pLen) (fCons (fVar 6) fNil)) (fC (.int 25)))) (fCall (p1L pTuple) (fCons (fVar 6) fNil)) (fTup (fCons (fC (.str "argument")) (fCons (fC (.str "runs")) fNil)))) (gN 7))
    (sSeq (sIf (fT (fBin pNe (fCall (p1L pRepr) (fCons (fApp 4 m__law_told_k11 (fCons (fC (.int 2)) (fCons (fVar 5) (fCons (fVar 4) (fCons (fC .non) fNil))))) fNil)) (fCall (p1L pRepr) (fCons (fVar 7) fNil)))) (sRet (fC (.bl false))) sNil)
    (sSeq (sAsg (fSl (fVar 6) oNone (oSome (fC (.int 24)))) (gN 8))
    (sSeq (sFor (iR1 (fCons (fApp 3 m__law_take (fCons (fVar 1) (fCons (fVar 2) (fCons (fC (.int 4)) fNil)))) fNil)) (gN 9) (sAsg (fApp 3 m__law_take (fCons (fVar 1) (fCons (fVar 2) (fCons (fVar 4) fNil)))) (gIx (fVar 8) (fApp 3 m__law_take (fCons (fVar 1) (fCons (fVar 2) (fCons (fCall (p1L pLen) (fCons (fVar 8) fNil)) fNil)))))))
    (sSeq (sAsg (fCall (p1L pTuple) (fCons (fVar 8) fNil)) (gN 8))
    (sSeq (sAsg (fApp 2 m__law_table (fCons (fVar 8) (fCons (fVar 4) fNil))) (gN 10))
    (sSeq (sAsg (fApp 4 m__law_told_k11 (fCons (fC (.int 0)) (fCons (fVar 8) (fCons (fVar 4) (fCons (fC .non) fNil))))) (gN 11))
    (sSeq (sIf (tOrF (fT (fBin pNe (fCall (p1L pRepr) (fCons (fVar 11) fNil)) (fCall (p1L pRepr) (fCons (fApp 2 m__law_fewest (fCons (fVar 8) (fCons (fVar 4) fNil))) fNil)))) (tOrF (fT (fBin pNe (fCall (p1L pLen) (fCons (fVar 11) fNil)) (fBin pIx (fVar 10) (fC (.int 0))))) (fT (fBin pNe (fApp 4 m__law_told_k11 (fCons (fC (.int 2)) (fCons (fVar 11) (fCons (fVar 4) (fCons (fC .non) fNil))))) (fVar 8))))) (sRet (fC (.bl false))) sNil)
    (sSeq (sIf (fT (fBin pNe (fCall (p1L pRepr) (fCons (fApp 4 m__law_told_k11 (fCons (fC (.int 1)) (fCons (fVar 8) (fCons (fVar 4) (fCons (fC .non) fNil))))) fNil)) (fCall (p1L pRepr) (fCons (fVar 10) fNil)))) (sRet (fC (.bl false))) sNil)
    (sSeq (sFor (iR1 (fCons (fC (.int 5)) fNil)) (gN 9) (sSeq (sAsg (fIf (fT (fBin (pI2 gGt) (fVar 9) (fC (.int 0)))) (fApp 3 m__law_bent (fCons (fVar 10) (fCons (fVar 1) (fCons (fVar 2) fNil)))) (fVar 10)) (gN 12))
    (sIf (fT (fBin pNe (fApp 4 m__law_told_k11 (fCons (fC (.int 3)) (fCons (fVar 8) (fCons (fVar 4) (fCons (fVar 12) fNil))))) (fApp 2 m__law_reason_k11 (fCons (fVar 12) (fCons (fVar 10) fNil))))) (sRet (fC (.bl false))) sNil)))
    (sIf (tNotF (fTru (fApp 4 m__law_refusals_k11 (fCons (fVar 8) (fCons (fVar 4) (fCons (fVar 1) (fCons (fVar 2) fNil))))))) (sRet (fC (.bl false))) sNil)))))))))))))))
    (sRet (fC (.bl true))))
noncomputable def d_law_k11 : SF := (sSeq (sAsg (fApp 1 m__law_draws (fCons (fVar 0) fNil)) (gN 1)) (sSeq (sAsg (fAl (fLst (fCons (fC (.int 0)) fNil))) (gN 2)) dr_law_k11))
noncomputable def m_law_k11 : M := mOf N_law_k11 1 d_law_k11
end Dn

set_option Elab.async false
set_option linter.all false
set_option maxRecDepth 100000
set_option maxHeartbeats 4000000
set_option autoImplicit false
namespace Lk11
open PySem PySem.Spec PyProof.Rows L2 Sh Dn
def topS (i : Nat) : Stmt := PySem.Challenge.pw_hangstogether_k11_whole_threadings_told.main.body.getD i (.Pass ⟨0, 0, 0, 0⟩)
theorem boot_sum0 : bootBuiltins "sum" = some (.builtin "sum") := by decide +kernel
theorem boot_max0 : bootBuiltins "max" = some (.builtin "max") := by decide +kernel
theorem boot_min0 : bootBuiltins "min" = some (.builtin "min") := by decide +kernel
theorem boot_all0 : bootBuiltins "all" = some (.builtin "all") := by decide +kernel
abbrev s__law_draws : Stmt := topS 24
theorem sc__law_draws : FnScope N__law_draws ["script"] (defScope s__law_draws) := ⟨rfl, rfl, rfl, by decide +kernel, rfl, by decide +kernel, by decide +kernel⟩
abbrev s__law_more : Stmt := topS 25
theorem sc__law_more : FnScope N__law_more ["draws", "place"] (defScope s__law_more) := ⟨rfl, rfl, rfl, by decide +kernel, rfl, by decide +kernel, by decide +kernel⟩
abbrev s__law_take : Stmt := topS 26
theorem sc__law_take : FnScope N__law_take ["draws", "at", "many"] (defScope s__law_take) := ⟨rfl, rfl, rfl, by decide +kernel, rfl, by decide +kernel, by decide +kernel⟩
abbrev s__law_one : Stmt := topS 27
theorem sc__law_one : FnScope N__law_one ["rows", "draws", "at"] (defScope s__law_one) := ⟨rfl, rfl, rfl, by decide +kernel, rfl, by decide +kernel, by decide +kernel⟩
abbrev s__law_runs : Stmt := topS 30
theorem sc__law_runs : FnScope N__law_runs ["shafts", "draws", "at"] (defScope s__law_runs) := ⟨rfl, rfl, rfl, by decide +kernel, rfl, by decide +kernel, by decide +kernel⟩
abbrev s__law_step : Stmt := topS 28
theorem sc__law_step : FnScope N__law_step_k11 ["word"] (defScope s__law_step) := ⟨rfl, rfl, rfl, by decide +kernel, rfl, by decide +kernel, by decide +kernel⟩
abbrev s__law_made : Stmt := topS 29
theorem sc__law_made : FnScope N__law_made ["runs", "shafts"] (defScope s__law_made) := ⟨rfl, rfl, rfl, by decide +kernel, rfl, by decide +kernel, by decide +kernel⟩
abbrev s__law_is_run : Stmt := topS 31
theorem sc__law_is_run : FnScope N__law_is_run ["part", "word", "shafts"] (defScope s__law_is_run) := ⟨rfl, rfl, rfl, by decide +kernel, rfl, by decide +kernel, by decide +kernel⟩
abbrev s__law_table : Stmt := topS 32
theorem sc__law_table : FnScope N__law_table ["threading", "shafts"] (defScope s__law_table) := ⟨rfl, rfl, rfl, by decide +kernel, rfl, by decide +kernel, by decide +kernel⟩
abbrev s_is_integer : Stmt := topS 5
theorem sc_is_integer : FnScope N_is_integer ["value"] (defScope s_is_integer) := ⟨rfl, rfl, rfl, by decide +kernel, rfl, by decide +kernel, by decide +kernel⟩
abbrev s_is_number : Stmt := topS 6
theorem sc_is_number : FnScope N_is_number ["value", "least", "most"] (defScope s_is_number) := ⟨rfl, rfl, rfl, by decide +kernel, rfl, by decide +kernel, by decide +kernel⟩
abbrev s__check_shafts : Stmt := topS 14
theorem sc__check_shafts : FnScope N__check_shafts ["shafts"] (defScope s__check_shafts) := ⟨rfl, rfl, rfl, by decide +kernel, rfl, by decide +kernel, by decide +kernel⟩
abbrev s_is_threading : Stmt := topS 11
theorem sc_is_threading : FnScope N_is_threading ["value", "shafts"] (defScope s_is_threading) := ⟨rfl, rfl, rfl, by decide +kernel, rfl, by decide +kernel, by decide +kernel⟩
abbrev s__check_threading : Stmt := topS 15
theorem sc__check_threading : FnScope N__check_threading ["threading", "shafts"] (defScope s__check_threading) := ⟨rfl, rfl, rfl, by decide +kernel, rfl, by decide +kernel, by decide +kernel⟩
abbrev s__length_of : Stmt := topS 18
theorem sc__length_of : FnScope N__length_of ["threading", "shafts", "first", "step"] (defScope s__length_of) := ⟨rfl, rfl, rfl, by decide +kernel, rfl, by decide +kernel, by decide +kernel⟩
abbrev s__longest_run : Stmt := topS 19
theorem sc__longest_run : FnScope N__longest_run ["threading", "shafts", "first"] (defScope s__longest_run) := ⟨rfl, rfl, rfl, by decide +kernel, rfl, by decide +kernel, by decide +kernel⟩
abbrev s_run_table : Stmt := topS 21
theorem sc_run_table : FnScope N_run_table ["threading", "shafts"] (defScope s_run_table) := ⟨rfl, rfl, rfl, by decide +kernel, rfl, by decide +kernel, by decide +kernel⟩
abbrev s_is_row : Stmt := topS 7
theorem sc_is_row : FnScope N_is_row ["value", "size"] (defScope s_is_row) := ⟨rfl, rfl, rfl, by decide +kernel, rfl, by decide +kernel, by decide +kernel⟩
abbrev s_accept_run_table : Stmt := topS 22
theorem sc_accept_run_table : FnScope N_accept_run_table ["threading", "shafts", "table"] (defScope s_accept_run_table) := ⟨rfl, rfl, rfl, by decide +kernel, rfl, by decide +kernel, by decide +kernel⟩
abbrev s__is_run : Stmt := topS 16
theorem sc__is_run : FnScope N__is_run ["value", "shafts"] (defScope s__is_run) := ⟨rfl, rfl, rfl, by decide +kernel, rfl, by decide +kernel, by decide +kernel⟩
abbrev s_threaded : Stmt := topS 17
theorem sc_threaded : FnScope N_threaded ["runs", "shafts"] (defScope s_threaded) := ⟨rfl, rfl, rfl, by decide +kernel, rfl, by decide +kernel, by decide +kernel⟩
abbrev s_fewest_runs : Stmt := topS 20
theorem sc_fewest_runs : FnScope N_fewest_runs ["threading", "shafts"] (defScope s_fewest_runs) := ⟨rfl, rfl, rfl, by decide +kernel, rfl, by decide +kernel, by decide +kernel⟩
abbrev s__law_told : Stmt := topS 34
theorem sc__law_told : FnScope N__law_told_k11 ["call", "one", "shafts", "table"] (defScope s__law_told) := ⟨rfl, rfl, rfl, by decide +kernel, rfl, by decide +kernel, by decide +kernel⟩
abbrev s__law_refusals : Stmt := topS 37
theorem sc__law_refusals : FnScope N__law_refusals_k11 ["threading", "shafts", "draws", "at"] (defScope s__law_refusals) := ⟨rfl, rfl, rfl, by decide +kernel, rfl, by decide +kernel, by decide +kernel⟩
abbrev s__law_bent : Stmt := topS 35
theorem sc__law_bent : FnScope N__law_bent ["table", "draws", "at"] (defScope s__law_bent) := ⟨rfl, rfl, rfl, by decide +kernel, rfl, by decide +kernel, by decide +kernel⟩
abbrev s__law_reason : Stmt := topS 36
theorem sc__law_reason : FnScope N__law_reason_k11 ["bent", "table"] (defScope s__law_reason) := ⟨rfl, rfl, rfl, by decide +kernel, rfl, by decide +kernel, by decide +kernel⟩
abbrev s__law_fewest : Stmt := topS 33
theorem sc__law_fewest : FnScope N__law_fewest ["threading", "shafts"] (defScope s__law_fewest) := ⟨rfl, rfl, rfl, by decide +kernel, rfl, by decide +kernel, by decide +kernel⟩
abbrev s_law : Stmt := topS 38
theorem sc_law : FnScope N_law_k11 ["script"] (defScope s_law) := ⟨rfl, rfl, rfl, by decide +kernel, rfl, by decide +kernel, by decide +kernel⟩
abbrev xs_reason : List Str := ["ArgumentError", "PaperError"]
abbrev mt_ArgumentError : List (Str × Bool) := [("ArgumentError", true), ("PaperError", false)]
abbrev mt_PaperError : List (Str × Bool) := [("ArgumentError", false), ("PaperError", true)]
/-- what the top of the program has written -/
structure Top (P : Program) (w : World) (K : PySem.W.Frag) (mg : Str → Option Value) (base : Heap) : Prop where
  c_MAX_ENDS : ∃ t, mg "MAX_ENDS" = some (.int 24 t)
  c_MAX_SHAFTS : ∃ t, mg "MAX_SHAFTS" = some (.int 16 t)
  d__STEPS : ∃ a, mg "_STEPS" = some (.ref a) ∧ GTab K a [("up", 1), ("down", -1), ("same", 0)]
  z_abs : mg "abs" = none
  z_all : mg "all" = none
  z_bool : mg "bool" = none
  z_int : mg "int" = none
  z_isinstance : mg "isinstance" = none
  z_len : mg "len" = none
  z_list : mg "list" = none
  z_max : mg "max" = none
  z_min : mg "min" = none
  z_range : mg "range" = none
  z_repr : mg "repr" = none
  z_reversed : mg "reversed" = none
  z_str : mg "str" = none
  z_sum : mg "sum" = none
  z_tuple : mg "tuple" = none
  z_type : mg "type" = none
  f__law_draws : ∃ (f : Addr) (fd : FuncData), Fun K "_law_draws" "_law_draws" s__law_draws f fd ∧ Binds K fd ["script"] [] ∧ mg "_law_draws" = some (.ref f)
  f__law_more : ∃ (f : Addr) (fd : FuncData), Fun K "_law_more" "_law_more" s__law_more f fd ∧ Binds K fd ["draws", "place"] [] ∧ mg "_law_more" = some (.ref f)
  f__law_take : ∃ (f : Addr) (fd : FuncData), Fun K "_law_take" "_law_take" s__law_take f fd ∧ Binds K fd ["draws", "at", "many"] [] ∧ mg "_law_take" = some (.ref f)
  f__law_one : ∃ (f : Addr) (fd : FuncData), Fun K "_law_one" "_law_one" s__law_one f fd ∧ Binds K fd ["rows", "draws", "at"] [] ∧ mg "_law_one" = some (.ref f)
  f__law_runs : ∃ (f : Addr) (fd : FuncData), Fun K "_law_runs" "_law_runs" s__law_runs f fd ∧ Binds K fd ["shafts", "draws", "at"] [] ∧ mg "_law_runs" = some (.ref f)
  f__law_step : ∃ (f : Addr) (fd : FuncData), Fun K "_law_step" "_law_step" s__law_step f fd ∧ Binds K fd ["word"] [] ∧ mg "_law_step" = some (.ref f)
  f__law_made : ∃ (f : Addr) (fd : FuncData), Fun K "_law_made" "_law_made" s__law_made f fd ∧ Binds K fd ["runs", "shafts"] [] ∧ mg "_law_made" = some (.ref f)
  f__law_is_run : ∃ (f : Addr) (fd : FuncData), Fun K "_law_is_run" "_law_is_run" s__law_is_run f fd ∧ Binds K fd ["part", "word", "shafts"] [] ∧ mg "_law_is_run" = some (.ref f)
  f__law_table : ∃ (f : Addr) (fd : FuncData), Fun K "_law_table" "_law_table" s__law_table f fd ∧ Binds K fd ["threading", "shafts"] [] ∧ mg "_law_table" = some (.ref f)
  f_is_integer : ∃ (f : Addr) (fd : FuncData), Fun K "is_integer" "is_integer" s_is_integer f fd ∧ Binds K fd ["value"] [] ∧ mg "is_integer" = some (.ref f)
  f_is_number : ∃ (f : Addr) (fd : FuncData), Fun K "is_number" "is_number" s_is_number f fd ∧ Binds K fd ["value", "least", "most"] [] ∧ mg "is_number" = some (.ref f)
  f__check_shafts : ∃ (f : Addr) (fd : FuncData), Fun K "_check_shafts" "_check_shafts" s__check_shafts f fd ∧ Binds K fd ["shafts"] [] ∧ mg "_check_shafts" = some (.ref f)
  f_is_threading : ∃ (f : Addr) (fd : FuncData), Fun K "is_threading" "is_threading" s_is_threading f fd ∧ Binds K fd ["value", "shafts"] [] ∧ mg "is_threading" = some (.ref f)
  f__check_threading : ∃ (f : Addr) (fd : FuncData), Fun K "_check_threading" "_check_threading" s__check_threading f fd ∧ Binds K fd ["threading", "shafts"] [] ∧ mg "_check_threading" = some (.ref f)
  f__length_of : ∃ (f : Addr) (fd : FuncData), Fun K "_length_of" "_length_of" s__length_of f fd ∧ Binds K fd ["threading", "shafts", "first", "step"] [] ∧ mg "_length_of" = some (.ref f)
  f__longest_run : ∃ (f : Addr) (fd : FuncData), Fun K "_longest_run" "_longest_run" s__longest_run f fd ∧ Binds K fd ["threading", "shafts", "first"] [] ∧ mg "_longest_run" = some (.ref f)
  f_run_table : ∃ (f : Addr) (fd : FuncData), Fun K "run_table" "run_table" s_run_table f fd ∧ Binds K fd ["threading", "shafts"] [] ∧ mg "run_table" = some (.ref f)
  f_is_row : ∃ (f : Addr) (fd : FuncData), Fun K "is_row" "is_row" s_is_row f fd ∧ Binds K fd ["value", "size"] [] ∧ mg "is_row" = some (.ref f)
  f_accept_run_table : ∃ (f : Addr) (fd : FuncData), Fun K "accept_run_table" "accept_run_table" s_accept_run_table f fd ∧ Binds K fd ["threading", "shafts", "table"] [] ∧ mg "accept_run_table" = some (.ref f)
  f__is_run : ∃ (f : Addr) (fd : FuncData), Fun K "_is_run" "_is_run" s__is_run f fd ∧ Binds K fd ["value", "shafts"] [] ∧ mg "_is_run" = some (.ref f)
  f_threaded : ∃ (f : Addr) (fd : FuncData), Fun K "threaded" "threaded" s_threaded f fd ∧ Binds K fd ["runs", "shafts"] [] ∧ mg "threaded" = some (.ref f)
  f_fewest_runs : ∃ (f : Addr) (fd : FuncData), Fun K "fewest_runs" "fewest_runs" s_fewest_runs f fd ∧ Binds K fd ["threading", "shafts"] [] ∧ mg "fewest_runs" = some (.ref f)
  f__law_told : ∃ (f : Addr) (fd : FuncData), Fun K "_law_told" "_law_told" s__law_told f fd ∧ Binds K fd ["call", "one", "shafts", "table"] [] ∧ mg "_law_told" = some (.ref f)
  f__law_refusals : ∃ (f : Addr) (fd : FuncData), Fun K "_law_refusals" "_law_refusals" s__law_refusals f fd ∧ Binds K fd ["threading", "shafts", "draws", "at"] [] ∧ mg "_law_refusals" = some (.ref f)
  f__law_bent : ∃ (f : Addr) (fd : FuncData), Fun K "_law_bent" "_law_bent" s__law_bent f fd ∧ Binds K fd ["table", "draws", "at"] [] ∧ mg "_law_bent" = some (.ref f)
  f__law_reason : ∃ (f : Addr) (fd : FuncData), Fun K "_law_reason" "_law_reason" s__law_reason f fd ∧ Binds K fd ["bent", "table"] [] ∧ mg "_law_reason" = some (.ref f)
  f__law_fewest : ∃ (f : Addr) (fd : FuncData), Fun K "_law_fewest" "_law_fewest" s__law_fewest f fd ∧ Binds K fd ["threading", "shafts"] [] ∧ mg "_law_fewest" = some (.ref f)
  f_law : ∃ (f : Addr) (fd : FuncData), Fun K "law" "law" s_law f fd ∧ Binds K fd ["script"] [] ∧ mg "law" = some (.ref f)
  x_ArgumentError : Exc1 P w K mg base "ArgumentError" "reason"
  x_PaperError : Exc1 P w K mg base "PaperError" "reason"
  h_ArgumentError : ∃ c : Addr, mg "ArgumentError" = some (.ref c) ∧ ∀ y v, mt_ArgumentError.lookup y = some v → ∀ A, CM w mg y A → PySem.W.exmOne K (.ref A) (.ref c) = some v
  h_PaperError : ∃ c : Addr, mg "PaperError" = some (.ref c) ∧ ∀ y v, mt_PaperError.lookup y = some v → ∀ A, CM w mg y A → PySem.W.exmOne K (.ref A) (.ref c) = some v
  fx_reason : ∀ x ∈ xs_reason, ∀ A, CM w mg x A → XfC K A ∧ PySem.W.findIn K (.ref A) "reason" = some none
section
variable {P : Program} {w : World} {K : PySem.W.Frag} {mg : Str → Option Value} {base : Heap} {cdv : Value} {A : Around} {outer : List PySem.Env} {s : Shared} {H : Hp} {E : XK} {f : Addr}
theorem b__law_draws (T : Top P w K mg base)  (hr : RoomG 0 (A.deeper (envOfC "_law_draws" (defScope s__law_draws) s.heap.objs.size f cdv))) : SB (cxOf (L2.CX P w) P w K mg base N__law_draws "_law_draws" (defScope s__law_draws) f cdv A outer s H E) (CM w mg) (fun c d _ H => E c d H) (defBody s__law_draws) d__law_draws :=
  (sb_cons (ss_set 1 sc__law_draws.nd (SL.se (sl_lst sa_nil)))
    (sb_cons (ss_for (passes_of rfl) rfl (si_e (se_slice (se_var 0) so_none (so_some se_int))) (sg_name 2 sc__law_draws.nd) (sb_cons (ss_set 3 sc__law_draws.nd (se_blt call_abs sv_abs T.z_abs PyProof.Rows.boot_abs (sa_cons (se_var 2) sa_nil)))
    (sb_one (ss_if (st_cmp op_ge sv_ge (se_var 3) (se_op op_pow sv_pow se_int se_int)) (sb_one (ss_for (passes_of rfl) rfl (si_range1 T.z_range (sa_cons se_int sa_nil)) (sg_name 4 sc__law_draws.nd) (sb_one (ss_if (st_cmp op_gt sv_gt (se_var 3) se_int) (sb_cons (ss_expr (se_append (se_var 1) (se_op op_modN sv_mod (se_typ call_int1 sv_int T.z_int PyProof.Rows.boot_int (sa_cons (se_var 3) sa_nil)) se_int)))
    (sb_one (ss_set 3 sc__law_draws.nd (se_op op_fdivN sv_div (se_var 3) se_int)))) sb_nil)))) (sb_cons (ss_set 5 sc__law_draws.nd (se_op op_modN sv_mod (se_typ call_int1 sv_int T.z_int PyProof.Rows.boot_int (sa_cons (se_op op_addA sv_add (se_op op_mulA sv_mulA (se_var 3) se_int) se_int) sa_nil)) se_int))
    (sb_one (ss_for (passes_of rfl) rfl (si_range1 T.z_range (sa_cons se_int sa_nil)) (sg_name 4 sc__law_draws.nd) (sb_cons (ss_set 5 sc__law_draws.nd (se_op op_modN sv_mod (se_typ call_int1 sv_int T.z_int PyProof.Rows.boot_int (sa_cons (se_op op_addA sv_add (se_op op_addA sv_add (se_op op_mulA sv_mulA (se_var 5) se_int) (se_op op_mulA sv_mulA se_int (se_var 4))) se_int) sa_nil)) se_int))
    (sb_one (ss_expr (se_append (se_var 1) (se_op op_fdivN sv_div (se_var 5) se_int))))))))))))
    (sb_one (ss_ret (se_var 1)))))
theorem F__law_draws (T : Top P w K mg base) : Fn P w K mg base (CM w mg) "_law_draws" 1 1 m__law_draws := by
  obtain ⟨f, fd, F, bn, gm⟩ := T.f__law_draws
  exact fn_mk0 F sc__law_draws bn gm (fun cdv A outer s H E hr => b__law_draws T  hr)
theorem b__law_more (T : Top P w K mg base)  (hr : RoomG 0 (A.deeper (envOfC "_law_more" (defScope s__law_more) s.heap.objs.size f cdv))) : SB (cxOf (L2.CX P w) P w K mg base N__law_more "_law_more" (defScope s__law_more) f cdv A outer s H E) (CM w mg) (fun c d _ H => E c d H) (defBody s__law_more) d__law_more :=
  (sb_cons (ss_set 2 sc__law_more.nd (se_op op_modN sv_mod (se_typ call_int1 sv_int T.z_int PyProof.Rows.boot_int (sa_cons (se_op op_addA sv_add (se_op op_addA sv_add (se_op op_mulA sv_mulA (se_var 1) se_int) (se_blt call_lenA sv_len T.z_len PySem.boot_len (sa_cons (se_var 0) sa_nil))) se_int) sa_nil)) se_int))
    (sb_cons (ss_for (passes_of rfl) rfl (si_range1 T.z_range (sa_cons se_int sa_nil)) (sg_name 3 sc__law_more.nd) (sb_cons (ss_if (st_tru (se_var 0)) (sb_one (ss_set 2 sc__law_more.nd (se_op op_addA sv_add (se_var 2) (se_ix (se_var 0) (se_op op_modN sv_mod (se_typ call_int1 sv_int T.z_int PyProof.Rows.boot_int (sa_cons (se_op op_addA sv_add (se_op op_mulA sv_mulA (se_var 1) (se_op op_addA sv_add (se_var 3) se_int)) (se_var 3)) sa_nil)) (se_blt call_lenA sv_len T.z_len PySem.boot_len (sa_cons (se_var 0) sa_nil))))))) sb_nil)
    (sb_one (ss_set 2 sc__law_more.nd (se_op op_modN sv_mod (se_typ call_int1 sv_int T.z_int PyProof.Rows.boot_int (sa_cons (se_op op_addA sv_add (se_op op_addA sv_add (se_op op_mulA sv_mulA (se_var 2) se_int) (se_op op_mulA sv_mulA se_int (se_var 3))) se_int) sa_nil)) se_int)))))
    (sb_one (ss_ret (se_op op_fdivN sv_div (se_var 2) se_int)))))
theorem F__law_more (T : Top P w K mg base) : Fn P w K mg base (CM w mg) "_law_more" 1 2 m__law_more := by
  obtain ⟨f, fd, F, bn, gm⟩ := T.f__law_more
  exact fn_mk0 F sc__law_more bn gm (fun cdv A outer s H E hr => b__law_more T  hr)
theorem b__law_step (T : Top P w K mg base)  (hr : RoomG 0 (A.deeper (envOfC "_law_step" (defScope s__law_step) s.heap.objs.size f cdv))) : SB (cxOf (L2.CX P w) P w K mg base N__law_step_k11 "_law_step" (defScope s__law_step) f cdv A outer s H E) (CM w mg) (fun c d _ H => E c d H) (defBody s__law_step) d__law_step_k11 :=
  (sb_one (ss_ret (se_dget (Nat.lt_trans (Nat.add_lt_add_left (by decide : 9 < 65) _) hr.u65) (se_disp (sps_cons se_str se_int (sps_cons se_str (se_un un_neg sv_neg se_int) (sps_cons se_str se_int sps_nil)))) (se_var 0))))
theorem F__law_step (T : Top P w K mg base) : Fn P w K mg base (CM w mg) "_law_step" 1 1 m__law_step_k11 := by
  obtain ⟨f, fd, F, bn, gm⟩ := T.f__law_step
  exact fn_mk0 F sc__law_step bn gm (fun cdv A outer s H E hr => b__law_step T  hr)
theorem b_is_integer (T : Top P w K mg base)  (hr : RoomG 0 (A.deeper (envOfC "is_integer" (defScope s_is_integer) s.heap.objs.size f cdv))) : SB (cxOf (L2.CX P w) P w K mg base N_is_integer "is_integer" (defScope s_is_integer) f cdv A outer s H E) (CM w mg) (fun c d _ H => E c d H) (defBody s_is_integer) d_is_integer :=
  (sb_one (ss_ret (se_tyIs T.z_type T.z_int PyProof.Rows.boot_int (se_var 0))))
theorem F_is_integer (T : Top P w K mg base) : Fn P w K mg base (CM w mg) "is_integer" 1 1 m_is_integer := by
  obtain ⟨f, fd, F, bn, gm⟩ := T.f_is_integer
  exact fn_mk0 F sc_is_integer bn gm (fun cdv A outer s H E hr => b_is_integer T  hr)
theorem b__length_of (T : Top P w K mg base)  (hr : RoomG 0 (A.deeper (envOfC "_length_of" (defScope s__length_of) s.heap.objs.size f cdv))) : SB (cxOf (L2.CX P w) P w K mg base N__length_of "_length_of" (defScope s__length_of) f cdv A outer s H E) (CM w mg) (fun c d _ H => E c d H) (defBody s__length_of) d__length_of :=
  (sb_cons (ss_set 4 sc__length_of.nd se_int)
    (sb_cons (ss_while (passes_of rfl) (st_w (sw_and (st_cmp op_lt sv_lt (se_op op_addA sv_add (se_var 2) (se_var 4)) (se_blt call_lenA sv_len T.z_len PySem.boot_len (sa_cons (se_var 0) sa_nil))) (sw_and1 (st_cmp (op_eq.or (op_eqD hr.u64)) sv_eq (se_ix (se_var 0) (se_op op_addA sv_add (se_var 2) (se_var 4))) (se_op op_modN sv_mod (se_op op_addA sv_add (se_ix (se_var 0) (se_var 2)) (se_op op_mulA sv_mulA (se_var 4) (se_var 3))) (se_var 1)))))) (sb_one (ss_aug 4 sc__length_of.nd ip_add sv_ipAdd se_int)))
    (sb_one (ss_ret (se_var 4)))))
theorem F__length_of (T : Top P w K mg base) : Fn P w K mg base (CM w mg) "_length_of" 1 4 m__length_of := by
  obtain ⟨f, fd, F, bn, gm⟩ := T.f__length_of
  exact fn_mk0 F sc__length_of bn gm (fun cdv A outer s H E hr => b__length_of T  hr)
theorem b_is_row (T : Top P w K mg base)  (hr : RoomG 0 (A.deeper (envOfC "is_row" (defScope s_is_row) s.heap.objs.size f cdv))) : SB (cxOf (L2.CX P w) P w K mg base N_is_row "is_row" (defScope s_is_row) f cdv A outer s H E) (CM w mg) (fun c d _ H => E c d H) (defBody s_is_row) d_is_row :=
  (sb_one (ss_ret (se_and (se_isi T.z_isinstance T.z_tuple PyProof.Rows.boot_tuple (se_var 0)) (se_one (se_cmp (op_eq.or (op_eqD hr.u64)) sv_eq (se_blt call_lenA sv_len T.z_len PySem.boot_len (sa_cons (se_var 0) sa_nil)) (se_var 1))))))
theorem F_is_row (T : Top P w K mg base) : Fn P w K mg base (CM w mg) "is_row" 1 2 m_is_row := by
  obtain ⟨f, fd, F, bn, gm⟩ := T.f_is_row
  exact fn_mk0 F sc_is_row bn gm (fun cdv A outer s H E hr => b_is_row T  hr)
theorem b__law_reason (T : Top P w K mg base)  (hr : RoomG 0 (A.deeper (envOfC "_law_reason" (defScope s__law_reason) s.heap.objs.size f cdv))) : SB (cxOf (L2.CX P w) P w K mg base N__law_reason_k11 "_law_reason" (defScope s__law_reason) f cdv A outer s H E) (CM w mg) (fun c d _ H => E c d H) (defBody s__law_reason) d__law_reason_k11 :=
  (sb_cons (ss_if (st_w (sw_or (st_not (st_tru (se_isi T.z_isinstance T.z_tuple PyProof.Rows.boot_tuple (se_var 0)))) (sw_or (st_cmp (op_ne.or (op_neD hr.u64)) sv_ne (se_blt call_lenA sv_len T.z_len PySem.boot_len (sa_cons (se_var 0) sa_nil)) (se_blt call_lenA sv_len T.z_len PySem.boot_len (sa_cons (se_var 1) sa_nil))) (sw_or1 (st_cmp (op_ne.or (op_neD hr.u64)) sv_ne (SL.se (sl_comp rfl sc__law_reason.nd (si_e (se_var 0)) (blkOk_by (own := [("part", 2)]) (by rfl)) (fun _ _ _ _ _ => (sg_name 2 sc__law_reason.nd)) (fun _ _ _ _ _ => (sts_one (st_w (sw_or (st_not (st_tru (se_isi T.z_isinstance T.z_int PyProof.Rows.boot_int (se_var 2)))) (sw_or1 (st_tru (se_isi T.z_isinstance T.z_bool PyProof.Rows.boot_bool (se_var 2)))))))) (fun _ _ _ _ _ => (se_var 2)))) (SL.se (sl_lst sa_nil))))))) (sb_one (ss_ret se_str)) sb_nil)
    (sb_one (ss_ret (se_if (st_cmp (op_eq.or (op_eqD hr.u64)) sv_eq (se_var 0) (se_var 1)) se_non se_str))))
theorem F__law_reason (T : Top P w K mg base) : Fn P w K mg base (CM w mg) "_law_reason" 1 2 m__law_reason_k11 := by
  obtain ⟨f, fd, F, bn, gm⟩ := T.f__law_reason
  exact fn_mk0 F sc__law_reason bn gm (fun cdv A outer s H E hr => b__law_reason T  hr)
theorem b__law_take (T : Top P w K mg base) (G__law_more : Fn P w K mg base (CM w mg) "_law_more" 1 2 m__law_more) (hr : RoomG 1 (A.deeper (envOfC "_law_take" (defScope s__law_take) s.heap.objs.size f cdv))) : SB (cxOf (L2.CX P w) P w K mg base N__law_take "_law_take" (defScope s__law_take) f cdv A outer s H E) (CM w mg) (fun c d _ H => E c d H) (defBody s__law_take) d__law_take :=
  (sb_cons (ss_set 3 sc__law_take.nd (se_ix (se_var 1) se_int))
    (sb_cons (ss_asg (se_op op_addA sv_add (se_var 3) se_int) (sg_ix (W := W0) (se_var 1) se_int))
    (sb_one (ss_ret (se_op op_modN sv_mod (se_typ call_int1 sv_int T.z_int PyProof.Rows.boot_int (sa_cons (se_if (st_cmp op_lt sv_lt (se_var 3) (se_blt call_lenA sv_len T.z_len PySem.boot_len (sa_cons (se_var 0) sa_nil))) (se_ix (se_var 0) (se_var 3)) (se_call (G__law_more.mono (by decide)) hr (takes_of rfl rfl rfl rfl) (sa_cons (se_var 0) (sa_cons (se_var 3) sa_nil)))) sa_nil)) (se_var 2))))))
theorem F__law_take (T : Top P w K mg base) : Fn P w K mg base (CM w mg) "_law_take" 2 3 m__law_take := by
  obtain ⟨f, fd, F, bn, gm⟩ := T.f__law_take
  exact fn_mk0 F sc__law_take bn gm (fun cdv A outer s H E hr => b__law_take T (F__law_more T) hr)
theorem b__law_made (T : Top P w K mg base) (G__law_step : Fn P w K mg base (CM w mg) "_law_step" 1 1 m__law_step_k11) (hr : RoomG 1 (A.deeper (envOfC "_law_made" (defScope s__law_made) s.heap.objs.size f cdv))) : SB (cxOf (L2.CX P w) P w K mg base N__law_made "_law_made" (defScope s__law_made) f cdv A outer s H E) (CM w mg) (fun c d _ H => E c d H) (defBody s__law_made) d__law_made :=
  (sb_cons (ss_set 2 sc__law_made.nd (SL.se (sl_lst sa_nil)))
    (sb_cons (ss_for (passes_of rfl) rfl (si_e (se_var 0)) (sg_tup rfl (sgs_cons (sg_name 3 sc__law_made.nd) (sgs_cons (sg_name 4 sc__law_made.nd) (sgs_cons (sg_name 5 sc__law_made.nd) sgs_nil)))) (sb_one (ss_set 2 sc__law_made.nd (SL.se (sl_catE (se_var 2) (SL.se (sl_comp rfl sc__law_made.nd (si_range1 T.z_range (sa_cons (se_var 5) sa_nil)) (blkOk_by (own := [("k", 6)]) (by rfl)) (fun _ _ _ _ _ => (sg_name 6 sc__law_made.nd)) (fun _ _ _ _ _ => sts_nil) (fun _ _ _ _ _ => (se_op op_modN sv_mod (se_typ call_int1 sv_int T.z_int PyProof.Rows.boot_int (sa_cons (se_op op_addA sv_add (se_var 3) (se_op op_mulA sv_mulA (se_call (G__law_step.mono (by decide)) hr takes0 (sa_cons (se_var 4) sa_nil)) (se_var 6))) sa_nil)) (se_var 1))))))))))
    (sb_one (ss_ret (se_var 2)))))
theorem F__law_made (T : Top P w K mg base) : Fn P w K mg base (CM w mg) "_law_made" 2 2 m__law_made := by
  obtain ⟨f, fd, F, bn, gm⟩ := T.f__law_made
  exact fn_mk0 F sc__law_made bn gm (fun cdv A outer s H E hr => b__law_made T (F__law_step T) hr)
theorem b__law_is_run (T : Top P w K mg base) (G__law_step : Fn P w K mg base (CM w mg) "_law_step" 1 1 m__law_step_k11) (hr : RoomG 1 (A.deeper (envOfC "_law_is_run" (defScope s__law_is_run) s.heap.objs.size f cdv))) : SB (cxOf (L2.CX P w) P w K mg base N__law_is_run "_law_is_run" (defScope s__law_is_run) f cdv A outer s H E) (CM w mg) (fun c d _ H => E c d H) (defBody s__law_is_run) d__law_is_run :=
  (sb_one (ss_ret (se_cmp (op_eq.or (op_eqD hr.u64)) sv_eq (SL.se (sl_comp rfl sc__law_is_run.nd (si_range1 T.z_range (sa_cons (se_op op_sub sv_sub (se_blt call_lenA sv_len T.z_len PySem.boot_len (sa_cons (se_var 0) sa_nil)) se_int) sa_nil)) (blkOk_by (own := [("k", 3)]) (by rfl)) (fun _ _ _ _ _ => (sg_name 3 sc__law_is_run.nd)) (fun _ _ _ _ _ => (sts_one (st_cmp (op_ne.or (op_neD hr.u64)) sv_ne (se_op op_modN sv_mod (se_typ call_int1 sv_int T.z_int PyProof.Rows.boot_int (sa_cons (se_op op_addA sv_add (se_ix (se_var 0) (se_var 3)) (se_call (G__law_step.mono (by decide)) hr takes0 (sa_cons (se_var 1) sa_nil))) sa_nil)) (se_var 2)) (se_ix (se_var 0) (se_op op_addA sv_add (se_var 3) se_int))))) (fun _ _ _ _ _ => (se_var 3)))) (SL.se (sl_lst sa_nil)))))
theorem F__law_is_run (T : Top P w K mg base) : Fn P w K mg base (CM w mg) "_law_is_run" 2 3 m__law_is_run := by
  obtain ⟨f, fd, F, bn, gm⟩ := T.f__law_is_run
  exact fn_mk0 F sc__law_is_run bn gm (fun cdv A outer s H E hr => b__law_is_run T (F__law_step T) hr)
theorem b_is_number (T : Top P w K mg base) (G_is_integer : Fn P w K mg base (CM w mg) "is_integer" 1 1 m_is_integer) (hr : RoomG 1 (A.deeper (envOfC "is_number" (defScope s_is_number) s.heap.objs.size f cdv))) : SB (cxOf (L2.CX P w) P w K mg base N_is_number "is_number" (defScope s_is_number) f cdv A outer s H E) (CM w mg) (fun c d _ H => E c d H) (defBody s_is_number) d_is_number :=
  (sb_one (ss_ret (se_and (se_call (G_is_integer.mono (by decide)) hr (takes_of rfl rfl rfl rfl) (sa_cons (se_var 0) sa_nil)) (se_one (se_chain op_le op_le sv_le sv_le (se_var 1) (se_var 0) (se_var 2))))))
theorem F_is_number (T : Top P w K mg base) : Fn P w K mg base (CM w mg) "is_number" 2 3 m_is_number := by
  obtain ⟨f, fd, F, bn, gm⟩ := T.f_is_number
  exact fn_mk0 F sc_is_number bn gm (fun cdv A outer s H E hr => b_is_number T (F_is_integer T) hr)
theorem b__longest_run (T : Top P w K mg base) (G__length_of : Fn P w K mg base (CM w mg) "_length_of" 1 4 m__length_of) (hr : RoomG 1 (A.deeper (envOfC "_longest_run" (defScope s__longest_run) s.heap.objs.size f cdv))) : SB (cxOf (L2.CX P w) P w K mg base N__longest_run "_longest_run" (defScope s__longest_run) f cdv A outer s H E) (CM w mg) (fun c d _ H => E c d H) (defBody s__longest_run) d__longest_run :=
  (sb_cons (ss_setc 3 rfl sc__longest_run.nd (si_gdvals (se_gd T.d__STEPS)) (blkOk_by (own := [("step", 5)]) (by rfl)) (fun _ _ _ _ _ => (sg_name 5 sc__longest_run.nd)) (fun _ _ _ _ _ => sts_nil) (fun _ _ _ _ _ => (se_call (G__length_of.mono (by decide)) hr takes0 (sa_cons (se_var 0) (sa_cons (se_var 1) (sa_cons (se_var 2) (sa_cons (se_var 5) sa_nil)))))) (sw_true rfl rfl rfl (by rfl)))
    (sb_cons (ss_set 4 sc__longest_run.nd (se_blt ((cr_max rfl).or (cr_maxT rfl)) ss_max T.z_max boot_max0 (sa_cons (se_var 3) sa_nil)))
    (sb_one (ss_ret (se_tup (sa_cons (se_ix (se_var 0) (se_var 2)) (sa_cons (se_ix (SL.se (sl_listGd rfl T.z_list (se_gd T.d__STEPS))) (se_index hr.u65 (se_var 3) (se_var 4))) (sa_cons (se_var 4) sa_nil))))))))
theorem F__longest_run (T : Top P w K mg base) : Fn P w K mg base (CM w mg) "_longest_run" 2 3 m__longest_run := by
  obtain ⟨f, fd, F, bn, gm⟩ := T.f__longest_run
  exact fn_mk0 F sc__longest_run bn gm (fun cdv A outer s H E hr => b__longest_run T (F__length_of T) hr)
theorem b__law_one (T : Top P w K mg base) (G__law_take : Fn P w K mg base (CM w mg) "_law_take" 2 3 m__law_take) (hr : RoomG 2 (A.deeper (envOfC "_law_one" (defScope s__law_one) s.heap.objs.size f cdv))) : SB (cxOf (L2.CX P w) P w K mg base N__law_one "_law_one" (defScope s__law_one) f cdv A outer s H E) (CM w mg) (fun c d _ H => E c d H) (defBody s__law_one) d__law_one :=
  (sb_one (ss_ret (se_ix (se_var 0) (se_call (G__law_take.mono (by decide)) hr (takes_of rfl rfl rfl rfl) (sa_cons (se_var 1) (sa_cons (se_var 2) (sa_cons (se_blt call_lenA sv_len T.z_len PySem.boot_len (sa_cons (se_var 0) sa_nil)) sa_nil)))))))
theorem F__law_one (T : Top P w K mg base) : Fn P w K mg base (CM w mg) "_law_one" 3 3 m__law_one := by
  obtain ⟨f, fd, F, bn, gm⟩ := T.f__law_one
  exact fn_mk0 F sc__law_one bn gm (fun cdv A outer s H E hr => b__law_one T (F__law_take T) hr)
theorem b__law_table (T : Top P w K mg base) (G__law_is_run : Fn P w K mg base (CM w mg) "_law_is_run" 2 3 m__law_is_run) (hr : RoomG 2 (A.deeper (envOfC "_law_table" (defScope s__law_table) s.heap.objs.size f cdv))) : SB (cxOf (L2.CX P w) P w K mg base N__law_table "_law_table" (defScope s__law_table) f cdv A outer s H E) (CM w mg) (fun c d _ H => E c d H) (defBody s__law_table) d__law_table :=
  (sb_cons (ss_set 2 sc__law_table.nd (SL.se (sl_lst (sa_cons se_int sa_nil))))
    (sb_cons (ss_for (passes_of rfl) rfl (si_range3 T.z_range (sa_cons (se_op op_sub sv_sub (se_blt call_lenA sv_len T.z_len PySem.boot_len (sa_cons (se_var 0) sa_nil)) se_int) (sa_cons (se_un un_neg sv_neg se_int) (sa_cons (se_un un_neg sv_neg se_int) sa_nil)))) (sg_name 3 sc__law_table.nd) (sb_cons (ss_set 4 sc__law_table.nd (SL.se (sl_lst sa_nil)))
    (sb_cons (ss_for (passes_of rfl) rfl (si_range2 T.z_range (sa_cons se_int (sa_cons (se_op op_addA sv_add (se_op op_sub sv_sub (se_blt call_lenA sv_len T.z_len PySem.boot_len (sa_cons (se_var 0) sa_nil)) (se_var 3)) se_int) sa_nil))) (sg_name 5 sc__law_table.nd) (sb_cons (ss_set 6 sc__law_table.nd (se_slice (se_var 0) (so_some (se_var 3)) (so_some (se_op op_addA sv_add (se_var 3) (se_var 5)))))
    (sb_one (ss_if (st_cmp (op_ne.or (op_neD hr.u64)) sv_ne (SL.se (sl_comp rfl sc__law_table.nd (si_l (sl_lst (sa_cons se_str (sa_cons se_str (sa_cons se_str sa_nil))))) (blkOk_by (own := [("word", 7)]) (by rfl)) (fun _ _ _ _ _ => (sg_name 7 sc__law_table.nd)) (fun _ _ _ _ _ => (sts_one (st_tru (se_call (G__law_is_run.mono (by decide)) hr takes0 (sa_cons (se_var 6) (sa_cons (se_var 7) (sa_cons (se_var 1) sa_nil))))))) (fun _ _ _ _ _ => (se_var 7)))) (SL.se (sl_lst sa_nil))) (sb_one (ss_expr (se_append (se_var 4) (se_ix (se_var 2) (se_op op_sub sv_sub (se_var 5) se_int))))) sb_nil))))
    (sb_one (ss_set 2 sc__law_table.nd (SL.se (sl_catE (SL.se (sl_lst (sa_cons (se_op op_addA sv_add se_int (se_blt ((cr_min rfl).or (cr_minT rfl)) ss_min T.z_min boot_min0 (sa_cons (se_var 4) sa_nil))) sa_nil))) (se_var 2))))))))
    (sb_one (ss_ret (se_typ call_tuple_of sv_tuple T.z_tuple PyProof.Rows.boot_tuple (sa_cons (se_var 2) sa_nil))))))
theorem F__law_table (T : Top P w K mg base) : Fn P w K mg base (CM w mg) "_law_table" 3 2 m__law_table := by
  obtain ⟨f, fd, F, bn, gm⟩ := T.f__law_table
  exact fn_mk0 F sc__law_table bn gm (fun cdv A outer s H E hr => b__law_table T (F__law_is_run T) hr)
theorem b__check_shafts (T : Top P w K mg base) (G_is_number : Fn P w K mg base (CM w mg) "is_number" 2 3 m_is_number) (hr : RoomG 2 (A.deeper (envOfC "_check_shafts" (defScope s__check_shafts) s.heap.objs.size f cdv))) : SB (cxOf (L2.CX P w) P w K mg base N__check_shafts "_check_shafts" (defScope s__check_shafts) f cdv A outer s H E) (CM w mg) (fun c d _ H => E c d H) (defBody s__check_shafts) d__check_shafts :=
  (sb_one (ss_if (st_not (st_tru (se_call (G_is_number.mono (by decide)) hr (takes_of rfl rfl rfl rfl) (sa_cons (se_var 0) (sa_cons se_int (sa_cons (se_gint T.c_MAX_SHAFTS) sa_nil)))))) (sb_one (ss_raise (k := 0) rfl (T.x_ArgumentError) (hr.mono (by decide)) (takes_of rfl rfl rfl rfl) se_str)) sb_nil))
theorem F__check_shafts (T : Top P w K mg base) : Fn P w K mg base (CM w mg) "_check_shafts" 3 1 m__check_shafts := by
  obtain ⟨f, fd, F, bn, gm⟩ := T.f__check_shafts
  exact fn_mk0 F sc__check_shafts bn gm (fun cdv A outer s H E hr => b__check_shafts T (F_is_number T) hr)
theorem b_is_threading (T : Top P w K mg base) (G_is_number : Fn P w K mg base (CM w mg) "is_number" 2 3 m_is_number) (hr : RoomG 2 (A.deeper (envOfC "is_threading" (defScope s_is_threading) s.heap.objs.size f cdv))) : SB (cxOf (L2.CX P w) P w K mg base N_is_threading "is_threading" (defScope s_is_threading) f cdv A outer s H E) (CM w mg) (fun c d _ H => E c d H) (defBody s_is_threading) d_is_threading :=
  (sb_cons (ss_if (st_w (sw_or (st_not (st_tru (se_isi T.z_isinstance T.z_tuple PyProof.Rows.boot_tuple (se_var 0)))) (sw_or1 (st_not (st_chain op_le op_le sv_le sv_le se_int (se_blt call_lenA sv_len T.z_len PySem.boot_len (sa_cons (se_var 0) sa_nil)) (se_gint T.c_MAX_ENDS)))))) (sb_one (ss_ret se_bl)) sb_nil)
    (sb_one (ss_ret (se_bltF (cr_all rfl) sf_all T.z_all boot_all0 (sl_comp rfl sc_is_threading.nd (si_e (se_var 0)) (blkOk_by (own := [("part", 2)]) (by rfl)) (fun _ _ _ _ _ => (sg_name 2 sc_is_threading.nd)) (fun _ _ _ _ _ => sts_nil) (fun _ _ _ _ _ => (se_call (G_is_number.mono (by decide)) hr takes0 (sa_cons (se_var 2) (sa_cons se_int (sa_cons (se_op op_sub sv_sub (se_var 1) se_int) sa_nil))))))))))
theorem F_is_threading (T : Top P w K mg base) : Fn P w K mg base (CM w mg) "is_threading" 3 2 m_is_threading := by
  obtain ⟨f, fd, F, bn, gm⟩ := T.f_is_threading
  exact fn_mk0 F sc_is_threading bn gm (fun cdv A outer s H E hr => b_is_threading T (F_is_number T) hr)
theorem b__is_run (T : Top P w K mg base) (G_is_row : Fn P w K mg base (CM w mg) "is_row" 1 2 m_is_row) (G_is_number : Fn P w K mg base (CM w mg) "is_number" 2 3 m_is_number) (hr : RoomG 2 (A.deeper (envOfC "_is_run" (defScope s__is_run) s.heap.objs.size f cdv))) : SB (cxOf (L2.CX P w) P w K mg base N__is_run "_is_run" (defScope s__is_run) f cdv A outer s H E) (CM w mg) (fun c d _ H => E c d H) (defBody s__is_run) d__is_run :=
  (sb_cons (ss_if (st_not (st_tru (se_call (G_is_row.mono (by decide)) hr (takes_of rfl rfl rfl rfl) (sa_cons (se_var 0) (sa_cons se_int sa_nil))))) (sb_one (ss_ret se_bl)) sb_nil)
    (sb_cons (ss_asg (se_var 0) (sg_tup rfl (sgs_cons (sg_name 2 sc__is_run.nd) (sgs_cons (sg_name 3 sc__is_run.nd) (sgs_cons (sg_name 4 sc__is_run.nd) sgs_nil)))))
    (sb_cons (ss_if (st_w (sw_or (st_not (st_tru (se_isi T.z_isinstance T.z_str PyProof.Rows.boot_str (se_var 3)))) (sw_or1 (st_cmp op_notInGd sv_notInGd (se_var 3) (se_gd T.d__STEPS))))) (sb_one (ss_ret se_bl)) sb_nil)
    (sb_one (ss_ret (se_and (se_call (G_is_number.mono (by decide)) hr (takes_of rfl rfl rfl rfl) (sa_cons (se_var 2) (sa_cons se_int (sa_cons (se_op op_sub sv_sub (se_var 1) se_int) sa_nil)))) (se_one (se_call (G_is_number.mono (by decide)) hr (takes_of rfl rfl rfl rfl) (sa_cons (se_var 4) (sa_cons se_int (sa_cons (se_gint T.c_MAX_ENDS) sa_nil)))))))))))
theorem F__is_run (T : Top P w K mg base) : Fn P w K mg base (CM w mg) "_is_run" 3 2 m__is_run := by
  obtain ⟨f, fd, F, bn, gm⟩ := T.f__is_run
  exact fn_mk0 F sc__is_run bn gm (fun cdv A outer s H E hr => b__is_run T (F_is_row T) (F_is_number T) hr)
theorem b__law_fewest (T : Top P w K mg base) (G__law_is_run : Fn P w K mg base (CM w mg) "_law_is_run" 2 3 m__law_is_run) (hr : RoomG 2 (A.deeper (envOfC "_law_fewest" (defScope s__law_fewest) s.heap.objs.size f cdv))) : SB (cxOf (L2.CX P w) P w K mg base N__law_fewest "_law_fewest" (defScope s__law_fewest) f cdv A outer s H E) (CM w mg) (fun c d _ H => E c d H) (defBody s__law_fewest) d__law_fewest :=
  (sb_cons (ss_set 2 sc__law_fewest.nd (SL.se (sl_lst sa_nil)))
    (sb_cons (ss_set 3 sc__law_fewest.nd se_int)
    (sb_cons (ss_while (passes_of rfl) (st_cmp op_lt sv_lt (se_var 3) (se_blt call_lenA sv_len T.z_len PySem.boot_len (sa_cons (se_var 0) sa_nil))) (sb_cons (ss_set 4 sc__law_fewest.nd (se_tup (sa_cons se_int (sa_cons se_str sa_nil))))
    (sb_cons (ss_for (passes_of rfl) rfl (si_l (sl_lst (sa_cons se_str (sa_cons se_str (sa_cons se_str sa_nil))))) (sg_name 5 sc__law_fewest.nd) (sb_cons (ss_set 6 sc__law_fewest.nd se_int)
    (sb_cons (ss_while (passes_of rfl) (st_w (sw_and (st_cmp op_lt sv_lt (se_op op_addA sv_add (se_var 3) (se_var 6)) (se_blt call_lenA sv_len T.z_len PySem.boot_len (sa_cons (se_var 0) sa_nil))) (sw_and1 (st_tru (se_call (G__law_is_run.mono (by decide)) hr (takes_of rfl rfl rfl rfl) (sa_cons (se_slice (se_var 0) (so_some (se_var 3)) (so_some (se_op op_addA sv_add (se_op op_addA sv_add (se_var 3) (se_var 6)) se_int))) (sa_cons (se_var 5) (sa_cons (se_var 1) sa_nil)))))))) (sb_one (ss_set 6 sc__law_fewest.nd (se_op op_addA sv_add (se_var 6) se_int))))
    (sb_one (ss_if (st_cmp op_gt sv_gt (se_var 6) (se_ix (se_var 4) se_int)) (sb_one (ss_set 4 sc__law_fewest.nd (se_tup (sa_cons (se_var 6) (sa_cons (se_var 5) sa_nil))))) sb_nil)))))
    (sb_cons (ss_expr (se_append (se_var 2) (se_tup (sa_cons (se_ix (se_var 0) (se_var 3)) (sa_cons (se_ix (se_var 4) se_int) (sa_cons (se_ix (se_var 4) se_int) sa_nil))))))
    (sb_one (ss_set 3 sc__law_fewest.nd (se_op op_addA sv_add (se_var 3) (se_ix (se_var 4) se_int))))))))
    (sb_one (ss_ret (se_typ call_tuple_of sv_tuple T.z_tuple PyProof.Rows.boot_tuple (sa_cons (se_var 2) sa_nil)))))))
theorem F__law_fewest (T : Top P w K mg base) : Fn P w K mg base (CM w mg) "_law_fewest" 3 2 m__law_fewest := by
  obtain ⟨f, fd, F, bn, gm⟩ := T.f__law_fewest
  exact fn_mk0 F sc__law_fewest bn gm (fun cdv A outer s H E hr => b__law_fewest T (F__law_is_run T) hr)
theorem b__law_runs (T : Top P w K mg base) (G__law_take : Fn P w K mg base (CM w mg) "_law_take" 2 3 m__law_take) (G__law_one : Fn P w K mg base (CM w mg) "_law_one" 3 3 m__law_one) (hr : RoomG 3 (A.deeper (envOfC "_law_runs" (defScope s__law_runs) s.heap.objs.size f cdv))) : SB (cxOf (L2.CX P w) P w K mg base N__law_runs "_law_runs" (defScope s__law_runs) f cdv A outer s H E) (CM w mg) (fun c d _ H => E c d H) (defBody s__law_runs) d__law_runs :=
  (sb_one (ss_ret (se_typF (call_tuple_of) sf_tuple T.z_tuple PyProof.Rows.boot_tuple (sl_comp rfl sc__law_runs.nd (si_range1 T.z_range (sa_cons (se_op op_addA sv_add se_int (se_call (G__law_take.mono (by decide)) hr (takes_of rfl rfl rfl rfl) (sa_cons (se_var 1) (sa_cons (se_var 2) (sa_cons se_int sa_nil))))) sa_nil)) (blkOk_by (own := [("k", 3)]) (by rfl)) (fun _ _ _ _ _ => (sg_name 3 sc__law_runs.nd)) (fun _ _ _ _ _ => sts_nil) (fun _ _ _ _ _ => (se_tup (sa_cons (se_call (G__law_take.mono (by decide)) hr takes0 (sa_cons (se_var 1) (sa_cons (se_var 2) (sa_cons (se_var 0) sa_nil)))) (sa_cons (se_call (G__law_one.mono (by decide)) hr takes0 (sa_cons (SL.se (sl_lst (sa_cons se_str (sa_cons se_str (sa_cons se_str sa_nil))))) (sa_cons (se_var 1) (sa_cons (se_var 2) sa_nil)))) (sa_cons (se_op op_addA sv_add se_int (se_call (G__law_take.mono (by decide)) hr takes0 (sa_cons (se_var 1) (sa_cons (se_var 2) (sa_cons se_int sa_nil))))) sa_nil)))))))))
theorem F__law_runs (T : Top P w K mg base) : Fn P w K mg base (CM w mg) "_law_runs" 4 3 m__law_runs := by
  obtain ⟨f, fd, F, bn, gm⟩ := T.f__law_runs
  exact fn_mk0 F sc__law_runs bn gm (fun cdv A outer s H E hr => b__law_runs T (F__law_take T) (F__law_one T) hr)
theorem b__check_threading (T : Top P w K mg base) (G__check_shafts : Fn P w K mg base (CM w mg) "_check_shafts" 3 1 m__check_shafts) (G_is_threading : Fn P w K mg base (CM w mg) "is_threading" 3 2 m_is_threading) (hr : RoomG 3 (A.deeper (envOfC "_check_threading" (defScope s__check_threading) s.heap.objs.size f cdv))) : SB (cxOf (L2.CX P w) P w K mg base N__check_threading "_check_threading" (defScope s__check_threading) f cdv A outer s H E) (CM w mg) (fun c d _ H => E c d H) (defBody s__check_threading) d__check_threading :=
  (sb_cons (ss_expr (se_call (G__check_shafts.mono (by decide)) hr (takes_of rfl rfl rfl rfl) (sa_cons (se_var 1) sa_nil)))
    (sb_one (ss_if (st_not (st_tru (se_call (G_is_threading.mono (by decide)) hr (takes_of rfl rfl rfl rfl) (sa_cons (se_var 0) (sa_cons (se_var 1) sa_nil))))) (sb_one (ss_raise (k := 0) rfl (T.x_ArgumentError) (hr.mono (by decide)) (takes_of rfl rfl rfl rfl) se_str)) sb_nil)))
theorem F__check_threading (T : Top P w K mg base) : Fn P w K mg base (CM w mg) "_check_threading" 4 2 m__check_threading := by
  obtain ⟨f, fd, F, bn, gm⟩ := T.f__check_threading
  exact fn_mk0 F sc__check_threading bn gm (fun cdv A outer s H E hr => b__check_threading T (F__check_shafts T) (F_is_threading T) hr)
theorem b_threaded (T : Top P w K mg base) (G__check_shafts : Fn P w K mg base (CM w mg) "_check_shafts" 3 1 m__check_shafts) (G__is_run : Fn P w K mg base (CM w mg) "_is_run" 3 2 m__is_run) (hr : RoomG 3 (A.deeper (envOfC "threaded" (defScope s_threaded) s.heap.objs.size f cdv))) : SB (cxOf (L2.CX P w) P w K mg base N_threaded "threaded" (defScope s_threaded) f cdv A outer s H E) (CM w mg) (fun c d _ H => E c d H) (defBody s_threaded) d_threaded :=
  (sb_cons (ss_expr (se_call (G__check_shafts.mono (by decide)) hr (takes_of rfl rfl rfl rfl) (sa_cons (se_var 1) sa_nil)))
    (sb_cons (ss_if (st_w (sw_or (st_not (st_tru (se_isi T.z_isinstance T.z_tuple PyProof.Rows.boot_tuple (se_var 0)))) (sw_or1 (st_not (st_tru (se_bltF (cr_all rfl) sf_all T.z_all boot_all0 (sl_comp rfl sc_threaded.nd (si_e (se_var 0)) (blkOk_by (own := [("run", 6)]) (by rfl)) (fun _ _ _ _ _ => (sg_name 6 sc_threaded.nd)) (fun _ _ _ _ _ => sts_nil) (fun _ _ _ _ _ => (se_call (G__is_run.mono (by decide)) hr takes0 (sa_cons (se_var 6) (sa_cons (se_var 1) sa_nil))))))))))) (sb_one (ss_raise (k := 0) rfl (T.x_ArgumentError) (hr.mono (by decide)) (takes_of rfl rfl rfl rfl) se_str)) sb_nil)
    (sb_cons (ss_if (st_not (st_chain op_le op_le sv_le sv_le se_int (se_bltF (cr_sum rfl) sf_sum T.z_sum boot_sum0 (sl_comp rfl sc_threaded.nd (si_e (se_var 0)) (blkOk_by (own := [("_", 7), ("count", 5)]) (by rfl)) (fun _ _ _ _ _ => (sg_tup rfl (sgs_cons (sg_name 7 sc_threaded.nd) (sgs_cons (sg_name 7 sc_threaded.nd) (sgs_cons (sg_name 5 sc_threaded.nd) sgs_nil))))) (fun _ _ _ _ _ => sts_nil) (fun _ _ _ _ _ => (se_var 5)))) (se_gint T.c_MAX_ENDS))) (sb_one (ss_raise (k := 0) rfl (T.x_ArgumentError) (hr.mono (by decide)) (takes_of rfl rfl rfl rfl) se_str)) sb_nil)
    (sb_one (ss_ret (se_typ call_tuple_of sv_tuple T.z_tuple PyProof.Rows.boot_tuple (sa_cons (se_comp2 [2] rfl sc_threaded.nd (si_e (se_var 0)) (blkOk_by (own := [("shaft", 3), ("word", 4), ("count", 5), ("place", 2)]) (by rfl)) (fun _ _ _ _ _ => (sg_tup rfl (sgs_cons (sg_name 3 sc_threaded.nd) (sgs_cons (sg_name 4 sc_threaded.nd) (sgs_cons (sg_name 5 sc_threaded.nd) sgs_nil))))) (fun _ _ _ _ _ => sts_nil) (fun _ _ _ _ _ => (si_range1 T.z_range (sa_cons (se_var 5) sa_nil))) (fun _ _ _ _ _ => (sg_name 2 sc_threaded.nd)) (fun _ _ _ _ _ => sts_nil) (fun _ _ _ _ _ => (se_op op_modN sv_mod (se_op op_addA sv_add (se_var 3) (se_op op_mulA sv_mulA (se_var 2) (se_gdget (se_gd T.d__STEPS) (se_var 4)))) (se_var 1)))) sa_nil)))))))
theorem F_threaded (T : Top P w K mg base) : Fn P w K mg base (CM w mg) "threaded" 4 2 m_threaded := by
  obtain ⟨f, fd, F, bn, gm⟩ := T.f_threaded
  exact fn_mk0 F sc_threaded bn gm (fun cdv A outer s H E hr => b_threaded T (F__check_shafts T) (F__is_run T) hr)
theorem b__law_bent (T : Top P w K mg base) (G__law_take : Fn P w K mg base (CM w mg) "_law_take" 2 3 m__law_take) (G__law_one : Fn P w K mg base (CM w mg) "_law_one" 3 3 m__law_one) (hr : RoomG 3 (A.deeper (envOfC "_law_bent" (defScope s__law_bent) s.heap.objs.size f cdv))) : SB (cxOf (L2.CX P w) P w K mg base N__law_bent "_law_bent" (defScope s__law_bent) f cdv A outer s H E) (CM w mg) (fun c d _ H => E c d H) (defBody s__law_bent) d__law_bent :=
  (sb_cons (ss_set 3 sc__law_bent.nd (se_call (G__law_take.mono (by decide)) hr (takes_of rfl rfl rfl rfl) (sa_cons (se_var 1) (sa_cons (se_var 2) (sa_cons (se_blt call_lenA sv_len T.z_len PySem.boot_len (sa_cons (se_var 0) sa_nil)) sa_nil)))))
    (sb_cons (ss_setc 4 rfl sc__law_bent.nd (si_l (sl_lst (sa_cons (se_op op_addA sv_add (se_ix (se_var 0) (se_var 3)) se_int) (sa_cons (se_op op_sub sv_sub (se_ix (se_var 0) (se_var 3)) se_int) (sa_cons se_int (sa_cons se_bl (sa_cons se_non (sa_cons se_str sa_nil)))))))) (blkOk_by (own := [("one", 5)]) (by rfl)) (fun _ _ _ _ _ => (sg_name 5 sc__law_bent.nd)) (fun _ _ _ _ _ => sts_nil) (fun _ _ _ _ _ => (se_op op_addA sv_add (se_op op_addA sv_add (se_slice (se_var 0) so_none (so_some (se_var 3))) (se_tup (sa_cons (se_var 5) sa_nil))) (se_slice (se_var 0) (so_some (se_op op_addA sv_add (se_var 3) se_int)) so_none))) (sw_true rfl rfl rfl (by rfl)))
    (sb_one (ss_ret (se_call (G__law_one.mono (by decide)) hr (takes_of rfl rfl rfl rfl) (sa_cons (SL.se (sl_catE (se_var 4) (SL.se (sl_lst (sa_cons (se_slice (se_var 0) (so_some se_int) so_none) (sa_cons (se_op op_addA sv_add (se_var 0) (se_tup (sa_cons se_int sa_nil))) (sa_cons se_non (sa_cons (se_rev (se_var 0)) (sa_cons (se_op op_addA sv_add (se_slice (se_var 0) so_none (so_some (se_var 3))) (se_slice (se_var 0) (so_some (se_op op_addA sv_add (se_var 3) se_int)) so_none)) sa_nil))))))))) (sa_cons (se_var 1) (sa_cons (se_var 2) sa_nil))))))))
theorem F__law_bent (T : Top P w K mg base) : Fn P w K mg base (CM w mg) "_law_bent" 4 3 m__law_bent := by
  obtain ⟨f, fd, F, bn, gm⟩ := T.f__law_bent
  exact fn_mk0 F sc__law_bent bn gm (fun cdv A outer s H E hr => b__law_bent T (F__law_take T) (F__law_one T) hr)
theorem b_run_table (T : Top P w K mg base) (G__check_threading : Fn P w K mg base (CM w mg) "_check_threading" 4 2 m__check_threading) (G__longest_run : Fn P w K mg base (CM w mg) "_longest_run" 2 3 m__longest_run) (hr : RoomG 4 (A.deeper (envOfC "run_table" (defScope s_run_table) s.heap.objs.size f cdv))) : SB (cxOf (L2.CX P w) P w K mg base N_run_table "run_table" (defScope s_run_table) f cdv A outer s H E) (CM w mg) (fun c d _ H => E c d H) (defBody s_run_table) d_run_table :=
  (sb_cons (ss_expr (se_call (G__check_threading.mono (by decide)) hr (takes_of rfl rfl rfl rfl) (sa_cons (se_var 0) (sa_cons (se_var 1) sa_nil))))
    (sb_cons (ss_set 2 sc_run_table.nd (SL.se (sl_lst (sa_cons se_int sa_nil))))
    (sb_cons (ss_for (passes_of rfl) rfl (si_rev1 T.z_range T.z_reversed (se_blt call_lenA sv_len T.z_len PySem.boot_len (sa_cons (se_var 0) sa_nil))) (sg_name 3 sc_run_table.nd) (sb_cons (ss_set 4 sc_run_table.nd (se_ix (se_call (G__longest_run.mono (by decide)) hr (takes_of rfl rfl rfl rfl) (sa_cons (se_var 0) (sa_cons (se_var 1) (sa_cons (se_var 3) sa_nil)))) se_int))
    (sb_one (ss_expr (se_append (se_var 2) (se_op op_addA sv_add se_int (se_blt ((cr_min rfl).or (cr_minT rfl)) ss_min T.z_min boot_min0 (sa_cons (se_slice (se_var 2) (so_some (se_un un_neg sv_neg (se_var 4))) so_none) sa_nil))))))))
    (sb_one (ss_ret (se_typ call_tuple_of sv_tuple T.z_tuple PyProof.Rows.boot_tuple (sa_cons (se_rev (se_var 2)) sa_nil)))))))
theorem F_run_table (T : Top P w K mg base) : Fn P w K mg base (CM w mg) "run_table" 5 2 m_run_table := by
  obtain ⟨f, fd, F, bn, gm⟩ := T.f_run_table
  exact fn_mk0 F sc_run_table bn gm (fun cdv A outer s H E hr => b_run_table T (F__check_threading T) (F__longest_run T) hr)
theorem b_fewest_runs (T : Top P w K mg base) (G__check_threading : Fn P w K mg base (CM w mg) "_check_threading" 4 2 m__check_threading) (G__longest_run : Fn P w K mg base (CM w mg) "_longest_run" 2 3 m__longest_run) (hr : RoomG 4 (A.deeper (envOfC "fewest_runs" (defScope s_fewest_runs) s.heap.objs.size f cdv))) : SB (cxOf (L2.CX P w) P w K mg base N_fewest_runs "fewest_runs" (defScope s_fewest_runs) f cdv A outer s H E) (CM w mg) (fun c d _ H => E c d H) (defBody s_fewest_runs) d_fewest_runs :=
  (sb_cons (ss_expr (se_call (G__check_threading.mono (by decide)) hr (takes_of rfl rfl rfl rfl) (sa_cons (se_var 0) (sa_cons (se_var 1) sa_nil))))
    (sb_cons (ss_set 2 sc_fewest_runs.nd (SL.se (sl_lst sa_nil)))
    (sb_cons (ss_set 3 sc_fewest_runs.nd se_int)
    (sb_cons (ss_while (passes_of rfl) (st_cmp op_lt sv_lt (se_var 3) (se_blt call_lenA sv_len T.z_len PySem.boot_len (sa_cons (se_var 0) sa_nil))) (sb_cons (ss_expr (se_append (se_var 2) (se_call (G__longest_run.mono (by decide)) hr (takes_of rfl rfl rfl rfl) (sa_cons (se_var 0) (sa_cons (se_var 1) (sa_cons (se_var 3) sa_nil))))))
    (sb_one (ss_aug 3 sc_fewest_runs.nd ip_add sv_ipAdd (se_ix (se_ix (se_var 2) (se_un un_neg sv_neg se_int)) se_int)))))
    (sb_one (ss_ret (se_typ call_tuple_of sv_tuple T.z_tuple PyProof.Rows.boot_tuple (sa_cons (se_var 2) sa_nil))))))))
theorem F_fewest_runs (T : Top P w K mg base) : Fn P w K mg base (CM w mg) "fewest_runs" 5 2 m_fewest_runs := by
  obtain ⟨f, fd, F, bn, gm⟩ := T.f_fewest_runs
  exact fn_mk0 F sc_fewest_runs bn gm (fun cdv A outer s H E hr => b_fewest_runs T (F__check_threading T) (F__longest_run T) hr)
theorem b_accept_run_table (T : Top P w K mg base) (G__check_threading : Fn P w K mg base (CM w mg) "_check_threading" 4 2 m__check_threading) (G_is_row : Fn P w K mg base (CM w mg) "is_row" 1 2 m_is_row) (G_is_integer : Fn P w K mg base (CM w mg) "is_integer" 1 1 m_is_integer) (G_run_table : Fn P w K mg base (CM w mg) "run_table" 5 2 m_run_table) (hr : RoomG 5 (A.deeper (envOfC "accept_run_table" (defScope s_accept_run_table) s.heap.objs.size f cdv))) : SB (cxOf (L2.CX P w) P w K mg base N_accept_run_table "accept_run_table" (defScope s_accept_run_table) f cdv A outer s H E) (CM w mg) (fun c d _ H => E c d H) (defBody s_accept_run_table) d_accept_run_table :=
  (sb_cons (ss_expr (se_call (G__check_threading.mono (by decide)) hr (takes_of rfl rfl rfl rfl) (sa_cons (se_var 0) (sa_cons (se_var 1) sa_nil))))
    (sb_cons (ss_if (st_w (sw_or (st_not (st_tru (se_call (G_is_row.mono (by decide)) hr (takes_of rfl rfl rfl rfl) (sa_cons (se_var 2) (sa_cons (se_op op_addA sv_add (se_blt call_lenA sv_len T.z_len PySem.boot_len (sa_cons (se_var 0) sa_nil)) se_int) sa_nil))))) (sw_or1 (st_not (st_tru (se_bltF (cr_all rfl) sf_all T.z_all boot_all0 (sl_comp rfl sc_accept_run_table.nd (si_e (se_var 2)) (blkOk_by (own := [("part", 3)]) (by rfl)) (fun _ _ _ _ _ => (sg_name 3 sc_accept_run_table.nd)) (fun _ _ _ _ _ => sts_nil) (fun _ _ _ _ _ => (se_call (G_is_integer.mono (by decide)) hr takes0 (sa_cons (se_var 3) sa_nil)))))))))) (sb_one (ss_raise (k := 0) rfl (T.x_PaperError) (hr.mono (by decide)) (takes_of rfl rfl rfl rfl) se_str)) sb_nil)
    (sb_one (ss_if (st_cmp (op_ne.or (op_neD hr.u64)) sv_ne (se_var 2) (se_call (G_run_table.mono (by decide)) hr (takes_of rfl rfl rfl rfl) (sa_cons (se_var 0) (sa_cons (se_var 1) sa_nil)))) (sb_one (ss_raise (k := 0) rfl (T.x_PaperError) (hr.mono (by decide)) (takes_of rfl rfl rfl rfl) se_str)) sb_nil))))
theorem F_accept_run_table (T : Top P w K mg base) : Fn P w K mg base (CM w mg) "accept_run_table" 6 3 m_accept_run_table := by
  obtain ⟨f, fd, F, bn, gm⟩ := T.f_accept_run_table
  exact fn_mk0 F sc_accept_run_table bn gm (fun cdv A outer s H E hr => b_accept_run_table T (F__check_threading T) (F_is_row T) (F_is_integer T) (F_run_table T) hr)
theorem b__law_told (T : Top P w K mg base) (G_fewest_runs : Fn P w K mg base (CM w mg) "fewest_runs" 5 2 m_fewest_runs) (G_run_table : Fn P w K mg base (CM w mg) "run_table" 5 2 m_run_table) (G_threaded : Fn P w K mg base (CM w mg) "threaded" 4 2 m_threaded) (G_accept_run_table : Fn P w K mg base (CM w mg) "accept_run_table" 6 3 m_accept_run_table) (hr : RoomG 6 (A.deeper (envOfC "_law_told" (defScope s__law_told) s.heap.objs.size f cdv))) : SB (cxOf (L2.CX P w) P w K mg base N__law_told_k11 "_law_told" (defScope s__law_told) f cdv A outer s H E) (CM w mg) (fun c d _ H => E c d H) (defBody s__law_told) d__law_told_k11 :=
  (sb_cons (T.h_PaperError.elim fun c0 z0 => T.h_ArgumentError.elim fun c1 z1 => ss_tryM rfl rfl sc__law_told.nd (takes_of rfl rfl rfl rfl) (fun _ _ _ tk po => (sb_cons (ss_if (st_cmp op_lt sv_lt (se_var 0) se_int) (sb_one (ss_ret (se_if (st_cmp (op_eq.or (op_eqD hr.u64)) sv_eq (se_var 0) se_int) (se_call (G_fewest_runs.mono (by decide)) hr tk (sa_cons (se_var 1) (sa_cons (se_var 2) sa_nil))) (se_call (G_run_table.mono (by decide)) hr tk (sa_cons (se_var 1) (sa_cons (se_var 2) sa_nil)))))) sb_nil)
    (sb_cons (ss_if (st_cmp (op_eq.or (op_eqD hr.u64)) sv_eq (se_var 0) se_int) (sb_one (ss_ret (se_call (G_threaded.mono (by decide)) hr tk (sa_cons (se_var 1) (sa_cons (se_var 2) sa_nil))))) sb_nil)
    (sb_one (ss_expr (se_call (G_accept_run_table.mono (by decide)) hr tk (sa_cons (se_var 1) (sa_cons (se_var 2) (sa_cons (se_var 3) sa_nil))))))))) (shs_cons z0.1 z0.2 (sxb_ret (sx_fld (T.fx_reason))) (shs_cons z1.1 z1.2 (sxb_ret (sx_tup (sxa_cons (sx_of (fun _ _ _ => se_str)) (sxa_cons (sx_fld (T.fx_reason)) sxa_nil)))) .nil)))
    (sb_one (ss_ret se_non)))
theorem F__law_told (T : Top P w K mg base) : Fn P w K mg base (CM w mg) "_law_told" 7 4 m__law_told_k11 := by
  obtain ⟨f, fd, F, bn, gm⟩ := T.f__law_told
  exact fn_mk0 F sc__law_told bn gm (fun cdv A outer s H E hr => b__law_told T (F_fewest_runs T) (F_run_table T) (F_threaded T) (F_accept_run_table T) hr)
theorem b__law_refusals (T : Top P w K mg base) (G__law_one : Fn P w K mg base (CM w mg) "_law_one" 3 3 m__law_one) (G__law_told : Fn P w K mg base (CM w mg) "_law_told" 7 4 m__law_told_k11) (hr : RoomG 7 (A.deeper (envOfC "_law_refusals" (defScope s__law_refusals) s.heap.objs.size f cdv))) : SB (cxOf (L2.CX P w) P w K mg base N__law_refusals_k11 "_law_refusals" (defScope s__law_refusals) f cdv A outer s H E) (CM w mg) (fun c d _ H => E c d H) (defBody s__law_refusals) d__law_refusals_k11 :=
  (sb_cons (ss_set 4 sc__law_refusals.nd (se_call (G__law_one.mono (by decide)) hr (takes_of rfl rfl rfl rfl) (sa_cons (SL.se (sl_lst (sa_cons se_non (sa_cons se_int (sa_cons se_int (sa_cons se_bl (sa_cons se_str sa_nil))))))) (sa_cons (se_var 2) (sa_cons (se_var 3) sa_nil)))))
    (sb_cons (ss_set 5 sc__law_refusals.nd (se_call (G__law_one.mono (by decide)) hr (takes_of rfl rfl rfl rfl) (sa_cons (SL.se (sl_lst (sa_cons se_non (sa_cons (se_tup sa_nil) (sa_cons (se_tup (sa_cons (se_var 1) sa_nil)) (sa_cons (se_tup (sa_cons (se_un un_neg sv_neg se_int) sa_nil)) (sa_cons (se_tup (sa_cons se_bl sa_nil)) (sa_cons (se_op op_mulA sv_mulA (se_tup (sa_cons se_int sa_nil)) se_int) (sa_cons se_str (sa_cons (se_op op_addA sv_add (se_slice (se_var 0) (so_some se_int) so_none) (se_tup (sa_cons (se_var 1) sa_nil))) sa_nil)))))))))) (sa_cons (se_var 2) (sa_cons (se_var 3) sa_nil)))))
    (sb_cons (ss_set 6 sc__law_refusals.nd (se_call (G__law_one.mono (by decide)) hr (takes_of rfl rfl rfl rfl) (sa_cons (SL.se (sl_lst (sa_cons se_non (sa_cons (se_tup sa_nil) (sa_cons (se_tup (sa_cons (se_tup (sa_cons (se_var 1) (sa_cons se_str (sa_cons se_int sa_nil)))) sa_nil)) (sa_cons (se_tup (sa_cons (se_tup (sa_cons se_int (sa_cons se_str (sa_cons se_int sa_nil)))) sa_nil)) (sa_cons (se_tup (sa_cons (se_tup (sa_cons se_int (sa_cons se_str (sa_cons se_int sa_nil)))) sa_nil)) (sa_cons (se_tup (sa_cons (se_tup (sa_cons se_int (sa_cons se_str (sa_cons se_int sa_nil)))) sa_nil)) (sa_cons (se_tup (sa_cons (se_tup (sa_cons se_int (sa_cons se_str sa_nil))) sa_nil)) (sa_cons (se_tup (sa_cons (se_tup (sa_cons se_bl (sa_cons se_str (sa_cons se_int sa_nil)))) sa_nil)) (sa_cons (se_tup (sa_cons (se_tup (sa_cons se_int (sa_cons se_int (sa_cons se_int sa_nil)))) sa_nil)) (sa_cons (se_tup (sa_cons (se_tup (sa_cons se_int (sa_cons se_str (sa_cons se_int sa_nil)))) (sa_cons (se_tup (sa_cons se_int (sa_cons se_str (sa_cons se_int sa_nil)))) sa_nil))) (sa_cons (se_tup (sa_cons se_int (sa_cons se_str (sa_cons se_int sa_nil)))) (sa_cons (se_tup (sa_cons (se_tup (sa_cons se_int (sa_cons se_str (sa_cons se_bl sa_nil)))) sa_nil)) (sa_cons (se_tup (sa_cons (se_tup (sa_cons se_int (sa_cons se_str (sa_cons se_int (sa_cons se_int sa_nil))))) sa_nil)) sa_nil))))))))))))))) (sa_cons (se_var 2) (sa_cons (se_var 3) sa_nil)))))
    (sb_cons (ss_for (passes_of rfl) rfl (si_l (sl_lst (sa_cons se_int (sa_cons se_int (sa_cons se_int sa_nil))))) (sg_name 7 sc__law_refusals.nd) (sb_one (ss_if (st_w (sw_or (st_cmp (op_ne.or (op_neD hr.u64)) sv_ne (se_call (G__law_told.mono (by decide)) hr (takes_of rfl rfl rfl rfl) (sa_cons (se_var 7) (sa_cons (se_var 5) (sa_cons (se_var 4) (sa_cons se_non sa_nil))))) (se_tup (sa_cons se_str (sa_cons se_str sa_nil)))) (sw_or1 (st_cmp (op_ne.or (op_neD hr.u64)) sv_ne (se_call (G__law_told.mono (by decide)) hr (takes_of rfl rfl rfl rfl) (sa_cons (se_var 7) (sa_cons (se_var 5) (sa_cons (se_var 1) (sa_cons se_non sa_nil))))) (se_tup (sa_cons se_str (sa_cons se_str sa_nil))))))) (sb_one (ss_ret se_bl)) sb_nil)))
    (sb_one (ss_ret (se_and (se_cmp (op_eq.or (op_eqD hr.u64)) sv_eq (se_call (G__law_told.mono (by decide)) hr (takes_of rfl rfl rfl rfl) (sa_cons se_int (sa_cons (se_var 6) (sa_cons (se_var 4) (sa_cons se_non sa_nil))))) (se_tup (sa_cons se_str (sa_cons se_str sa_nil)))) (se_one (se_cmp (op_eq.or (op_eqD hr.u64)) sv_eq (se_call (G__law_told.mono (by decide)) hr (takes_of rfl rfl rfl rfl) (sa_cons se_int (sa_cons (se_var 6) (sa_cons (se_var 1) (sa_cons se_non sa_nil))))) (se_tup (sa_cons se_str (sa_cons se_str sa_nil))))))))))))
theorem F__law_refusals (T : Top P w K mg base) : Fn P w K mg base (CM w mg) "_law_refusals" 8 4 m__law_refusals_k11 := by
  obtain ⟨f, fd, F, bn, gm⟩ := T.f__law_refusals
  exact fn_mk0 F sc__law_refusals bn gm (fun cdv A outer s H E hr => b__law_refusals T (F__law_one T) (F__law_told T) hr)
theorem b_law (T : Top P w K mg base) (G__law_draws : Fn P w K mg base (CM w mg) "_law_draws" 1 1 m__law_draws) (G__law_take : Fn P w K mg base (CM w mg) "_law_take" 2 3 m__law_take) (G__law_runs : Fn P w K mg base (CM w mg) "_law_runs" 4 3 m__law_runs) (G__law_made : Fn P w K mg base (CM w mg) "_law_made" 2 2 m__law_made) (G__law_told : Fn P w K mg base (CM w mg) "_law_told" 7 4 m__law_told_k11) (G__law_table : Fn P w K mg base (CM w mg) "_law_table" 3 2 m__law_table) (G__law_fewest : Fn P w K mg base (CM w mg) "_law_fewest" 3 2 m__law_fewest) (G__law_bent : Fn P w K mg base (CM w mg) "_law_bent" 4 3 m__law_bent) (G__law_reason : Fn P w K mg base (CM w mg) "_law_reason" 1 2 m__law_reason_k11) (G__law_refusals : Fn P w K mg base (CM w mg) "_law_refusals" 8 4 m__law_refusals_k11) (hr : RoomG 8 (A.deeper (envOfC "law" (defScope s_law) s.heap.objs.size f cdv))) : SB (cxOf (L2.CX P w) P w K mg base N_law_k11 "law" (defScope s_law) f cdv A outer s H E) (CM w mg) (fun c d _ H => E c d H) (defBody s_law) d_law_k11 :=
  (sb_cons (ss_set 1 sc_law.nd (se_call (G__law_draws.mono (by decide)) hr (takes_of rfl rfl rfl rfl) (sa_cons (se_var 0) sa_nil)))
    (sb_cons (ss_set 2 sc_law.nd (SL.se (sl_lst (sa_cons se_int sa_nil))))
    (sb_cons (ss_for (passes_of rfl) rfl (si_range1 T.z_range (sa_cons se_int sa_nil)) (sg_name 3 sc_law.nd) (sb_cons (ss_set 4 sc_law.nd (se_op op_addA sv_add se_int (se_call (G__law_take.mono (by decide)) hr (takes_of rfl rfl rfl rfl) (sa_cons (se_var 1) (sa_cons (se_var 2) (sa_cons (se_ix (SL.se (sl_lst (sa_cons se_int (sa_cons se_int (sa_cons se_int sa_nil))))) (se_call (G__law_take.mono (by decide)) hr (takes_of rfl rfl rfl rfl) (sa_cons (se_var 1) (sa_cons (se_var 2) (sa_cons se_int sa_nil))))) sa_nil))))))
    (sb_cons (ss_set 5 sc_law.nd (se_call (G__law_runs.mono (by decide)) hr (takes_of rfl rfl rfl rfl) (sa_cons (se_var 4) (sa_cons (se_var 1) (sa_cons (se_var 2) sa_nil)))))
    (sb_cons (ss_set 6 sc_law.nd (se_call (G__law_made.mono (by decide)) hr (takes_of rfl rfl rfl rfl) (sa_cons (se_var 5) (sa_cons (se_var 4) sa_nil))))
    (sb_cons (ss_set 7 sc_law.nd (se_if (st_cmp op_lt sv_lt (se_blt call_lenA sv_len T.z_len PySem.boot_len (sa_cons (se_var 6) sa_nil)) se_int) (se_typ call_tuple_of sv_tuple T.z_tuple PyProof.Rows.boot_tuple (sa_cons (se_var 6) sa_nil)) (se_tup (sa_cons se_str (sa_cons se_str sa_nil)))))
    (sb_cons (ss_if (st_cmp (op_ne.or (op_neD hr.u64)) sv_ne (se_blt (call_reprD hr) sv_repr T.z_repr PyProof.Rows.boot_repr (sa_cons (se_call (G__law_told.mono (by decide)) hr (takes_of rfl rfl rfl rfl) (sa_cons se_int (sa_cons (se_var 5) (sa_cons (se_var 4) (sa_cons se_non sa_nil))))) sa_nil)) (se_blt (call_reprD hr) sv_repr T.z_repr PyProof.Rows.boot_repr (sa_cons (se_var 7) sa_nil))) (sb_one (ss_ret se_bl)) sb_nil)
    (sb_cons (ss_set 8 sc_law.nd (se_slice (se_var 6) so_none (so_some se_int)))
    (sb_cons (ss_for (passes_of rfl) rfl (si_range1 T.z_range (sa_cons (se_call (G__law_take.mono (by decide)) hr (takes_of rfl rfl rfl rfl) (sa_cons (se_var 1) (sa_cons (se_var 2) (sa_cons se_int sa_nil)))) sa_nil)) (sg_name 9 sc_law.nd) (sb_one (ss_asg (se_call (G__law_take.mono (by decide)) hr (takes_of rfl rfl rfl rfl) (sa_cons (se_var 1) (sa_cons (se_var 2) (sa_cons (se_var 4) sa_nil)))) (sg_ix (W := W0) (se_var 8) (se_call (G__law_take.mono (by decide)) hr takes0 (sa_cons (se_var 1) (sa_cons (se_var 2) (sa_cons (se_blt call_lenA sv_len T.z_len PySem.boot_len (sa_cons (se_var 8) sa_nil)) sa_nil))))))))
    (sb_cons (ss_set 8 sc_law.nd (se_typ call_tuple_of sv_tuple T.z_tuple PyProof.Rows.boot_tuple (sa_cons (se_var 8) sa_nil)))
    (sb_cons (ss_set 10 sc_law.nd (se_call (G__law_table.mono (by decide)) hr (takes_of rfl rfl rfl rfl) (sa_cons (se_var 8) (sa_cons (se_var 4) sa_nil))))
    (sb_cons (ss_set 11 sc_law.nd (se_call (G__law_told.mono (by decide)) hr (takes_of rfl rfl rfl rfl) (sa_cons se_int (sa_cons (se_var 8) (sa_cons (se_var 4) (sa_cons se_non sa_nil))))))
    (sb_cons (ss_if (st_w (sw_or (st_cmp (op_ne.or (op_neD hr.u64)) sv_ne (se_blt (call_reprD hr) sv_repr T.z_repr PyProof.Rows.boot_repr (sa_cons (se_var 11) sa_nil)) (se_blt (call_reprD hr) sv_repr T.z_repr PyProof.Rows.boot_repr (sa_cons (se_call (G__law_fewest.mono (by decide)) hr (takes_of rfl rfl rfl rfl) (sa_cons (se_var 8) (sa_cons (se_var 4) sa_nil))) sa_nil))) (sw_or (st_cmp (op_ne.or (op_neD hr.u64)) sv_ne (se_blt call_lenA sv_len T.z_len PySem.boot_len (sa_cons (se_var 11) sa_nil)) (se_ix (se_var 10) se_int)) (sw_or1 (st_cmp (op_ne.or (op_neD hr.u64)) sv_ne (se_call (G__law_told.mono (by decide)) hr (takes_of rfl rfl rfl rfl) (sa_cons se_int (sa_cons (se_var 11) (sa_cons (se_var 4) (sa_cons se_non sa_nil))))) (se_var 8)))))) (sb_one (ss_ret se_bl)) sb_nil)
    (sb_cons (ss_if (st_cmp (op_ne.or (op_neD hr.u64)) sv_ne (se_blt (call_reprD hr) sv_repr T.z_repr PyProof.Rows.boot_repr (sa_cons (se_call (G__law_told.mono (by decide)) hr (takes_of rfl rfl rfl rfl) (sa_cons se_int (sa_cons (se_var 8) (sa_cons (se_var 4) (sa_cons se_non sa_nil))))) sa_nil)) (se_blt (call_reprD hr) sv_repr T.z_repr PyProof.Rows.boot_repr (sa_cons (se_var 10) sa_nil))) (sb_one (ss_ret se_bl)) sb_nil)
    (sb_cons (ss_for (passes_of rfl) rfl (si_range1 T.z_range (sa_cons se_int sa_nil)) (sg_name 9 sc_law.nd) (sb_cons (ss_set 12 sc_law.nd (se_if (st_cmp op_gt sv_gt (se_var 9) se_int) (se_call (G__law_bent.mono (by decide)) hr (takes_of rfl rfl rfl rfl) (sa_cons (se_var 10) (sa_cons (se_var 1) (sa_cons (se_var 2) sa_nil)))) (se_var 10)))
    (sb_one (ss_if (st_cmp (op_ne.or (op_neD hr.u64)) sv_ne (se_call (G__law_told.mono (by decide)) hr (takes_of rfl rfl rfl rfl) (sa_cons se_int (sa_cons (se_var 8) (sa_cons (se_var 4) (sa_cons (se_var 12) sa_nil))))) (se_call (G__law_reason.mono (by decide)) hr (takes_of rfl rfl rfl rfl) (sa_cons (se_var 12) (sa_cons (se_var 10) sa_nil)))) (sb_one (ss_ret se_bl)) sb_nil))))
    (sb_one (ss_if (st_not (st_tru (se_call (G__law_refusals.mono (by decide)) hr (takes_of rfl rfl rfl rfl) (sa_cons (se_var 8) (sa_cons (se_var 4) (sa_cons (se_var 1) (sa_cons (se_var 2) sa_nil))))))) (sb_one (ss_ret se_bl)) sb_nil))))))))))))))))
    (sb_one (ss_ret se_bl)))))
theorem law_g (P : Program) (w : World) (K : PySem.W.Frag) (mg : Str → Option Value) (base : Heap) (f : Addr) (fd : FuncData) (T : Top P w K mg base) (F : Fun K "law" "law" s_law f fd) : FnG P w K mg base 9 f fd ["script"] (spM K (CM w mg) 1 m_law_k11) :=
  fng_mk0 F sc_law (fun cdv A outer s H E hr => b_law T (F__law_draws T) (F__law_take T) (F__law_runs T) (F__law_made T) (F__law_told T) (F__law_table T) (F__law_fewest T) (F__law_bent T) (F__law_reason T) (F__law_refusals T) hr)
end
end Lk11

set_option Elab.async false
set_option linter.all false
set_option maxRecDepth 100000
set_option maxHeartbeats 8000000
set_option autoImplicit false
namespace Lk11
open PySem PySem.Spec PyProof.Rows L2 Sh Dn
abbrev si_ArgumentError : Stmt := clsDef 2 0 PySem.Challenge.pw_hangstogether_k11_whole_threadings_told.main.body
theorem sci_ArgumentError : FnScope ["self", "reason"] ["self", "reason"] (defScope si_ArgumentError) := ⟨rfl, rfl, rfl, by decide +kernel, rfl, by decide +kernel, by decide +kernel⟩
abbrev si_PaperError : Stmt := clsDef 3 0 PySem.Challenge.pw_hangstogether_k11_whole_threadings_told.main.body
theorem sci_PaperError : FnScope ["self", "reason"] ["self", "reason"] (defScope si_PaperError) := ⟨rfl, rfl, rfl, by decide +kernel, rfl, by decide +kernel, by decide +kernel⟩
theorem top_mk {P : Program} {w : World} {K : PySem.W.Frag} {mg : Str → Option Value} {h : Heap} (X : K.In h) (G : h.Ns mainGlobals mg)
    {tk_MAX_ENDS : Tok}
    {tk_MAX_SHAFTS : Tok}
    {ad__STEPS : Addr}
    {f0 : Addr} {od0 an0 : Option Addr} {sl0 : Array (Option Value)} {oc0 kV0 dc0 pm0 cd0 ct0 : Value}
    {f1 : Addr} {od1 an1 : Option Addr} {sl1 : Array (Option Value)} {oc1 kV1 dc1 pm1 cd1 ct1 : Value}
    {f2 : Addr} {od2 an2 : Option Addr} {sl2 : Array (Option Value)} {oc2 kV2 dc2 pm2 cd2 ct2 : Value}
    {f3 : Addr} {od3 an3 : Option Addr} {sl3 : Array (Option Value)} {oc3 kV3 dc3 pm3 cd3 ct3 : Value}
    {f4 : Addr} {od4 an4 : Option Addr} {sl4 : Array (Option Value)} {oc4 kV4 dc4 pm4 cd4 ct4 : Value}
    {f5 : Addr} {od5 an5 : Option Addr} {sl5 : Array (Option Value)} {oc5 kV5 dc5 pm5 cd5 ct5 : Value}
    {f6 : Addr} {od6 an6 : Option Addr} {sl6 : Array (Option Value)} {oc6 kV6 dc6 pm6 cd6 ct6 : Value}
    {f7 : Addr} {od7 an7 : Option Addr} {sl7 : Array (Option Value)} {oc7 kV7 dc7 pm7 cd7 ct7 : Value}
    {f8 : Addr} {od8 an8 : Option Addr} {sl8 : Array (Option Value)} {oc8 kV8 dc8 pm8 cd8 ct8 : Value}
    {f9 : Addr} {od9 an9 : Option Addr} {sl9 : Array (Option Value)} {oc9 kV9 dc9 pm9 cd9 ct9 : Value}
    {f10 : Addr} {od10 an10 : Option Addr} {sl10 : Array (Option Value)} {oc10 kV10 dc10 pm10 cd10 ct10 : Value}
    {f11 : Addr} {od11 an11 : Option Addr} {sl11 : Array (Option Value)} {oc11 kV11 dc11 pm11 cd11 ct11 : Value}
    {f12 : Addr} {od12 an12 : Option Addr} {sl12 : Array (Option Value)} {oc12 kV12 dc12 pm12 cd12 ct12 : Value}
    {f13 : Addr} {od13 an13 : Option Addr} {sl13 : Array (Option Value)} {oc13 kV13 dc13 pm13 cd13 ct13 : Value}
    {f14 : Addr} {od14 an14 : Option Addr} {sl14 : Array (Option Value)} {oc14 kV14 dc14 pm14 cd14 ct14 : Value}
    {f15 : Addr} {od15 an15 : Option Addr} {sl15 : Array (Option Value)} {oc15 kV15 dc15 pm15 cd15 ct15 : Value}
    {f16 : Addr} {od16 an16 : Option Addr} {sl16 : Array (Option Value)} {oc16 kV16 dc16 pm16 cd16 ct16 : Value}
    {f17 : Addr} {od17 an17 : Option Addr} {sl17 : Array (Option Value)} {oc17 kV17 dc17 pm17 cd17 ct17 : Value}
    {f18 : Addr} {od18 an18 : Option Addr} {sl18 : Array (Option Value)} {oc18 kV18 dc18 pm18 cd18 ct18 : Value}
    {f19 : Addr} {od19 an19 : Option Addr} {sl19 : Array (Option Value)} {oc19 kV19 dc19 pm19 cd19 ct19 : Value}
    {f20 : Addr} {od20 an20 : Option Addr} {sl20 : Array (Option Value)} {oc20 kV20 dc20 pm20 cd20 ct20 : Value}
    {f21 : Addr} {od21 an21 : Option Addr} {sl21 : Array (Option Value)} {oc21 kV21 dc21 pm21 cd21 ct21 : Value}
    {f22 : Addr} {od22 an22 : Option Addr} {sl22 : Array (Option Value)} {oc22 kV22 dc22 pm22 cd22 ct22 : Value}
    {f23 : Addr} {od23 an23 : Option Addr} {sl23 : Array (Option Value)} {oc23 kV23 dc23 pm23 cd23 ct23 : Value}
    {f24 : Addr} {od24 an24 : Option Addr} {sl24 : Array (Option Value)} {oc24 kV24 dc24 pm24 cd24 ct24 : Value}
    {f25 : Addr} {od25 an25 : Option Addr} {sl25 : Array (Option Value)} {oc25 kV25 dc25 pm25 cd25 ct25 : Value}
    {f26 : Addr} {od26 an26 : Option Addr} {sl26 : Array (Option Value)} {oc26 kV26 dc26 pm26 cd26 ct26 : Value}
    {f27 : Addr} {od27 an27 : Option Addr} {sl27 : Array (Option Value)} {oc27 kV27 dc27 pm27 cd27 ct27 : Value}
    {I_ArgumentError N_ArgumentError : Addr} {nm_ArgumentError q_ArgumentError : Str} {bs_ArgumentError bm_ArgumentError sub_ArgumentError : List Value} {sn_ArgumentError : List Str} {ab_ArgumentError : Bool} {col_ArgumentError : Option Bool} {dd_ArgumentError : Option Addr} {m0_ArgumentError m1_ArgumentError m2_ArgumentError m3_ArgumentError m5_ArgumentError : Option Value} {od_ArgumentError an_ArgumentError : Option Addr} {sl_ArgumentError : Array (Option Value)} {oc_ArgumentError kV_ArgumentError dc_ArgumentError pm_ArgumentError cd_ArgumentError ct_ArgumentError : Value}
    {I_PaperError N_PaperError : Addr} {nm_PaperError q_PaperError : Str} {bs_PaperError bm_PaperError sub_PaperError : List Value} {sn_PaperError : List Str} {ab_PaperError : Bool} {col_PaperError : Option Bool} {dd_PaperError : Option Addr} {m0_PaperError m1_PaperError m2_PaperError m3_PaperError m5_PaperError : Option Value} {od_PaperError an_PaperError : Option Addr} {sl_PaperError : Array (Option Value)} {oc_PaperError kV_PaperError dc_PaperError pm_PaperError cd_PaperError ct_PaperError : Value}
    {A_ArgumentError : Addr}
    {A_PaperError : Addr}
    (c_MAX_ENDS : PySem.W.nsIn K mainGlobals "MAX_ENDS" = some (some (.int 24 tk_MAX_ENDS)))
    (c_MAX_SHAFTS : PySem.W.nsIn K mainGlobals "MAX_SHAFTS" = some (some (.int 16 tk_MAX_SHAFTS)))
    (d__STEPS : PySem.W.nsIn K mainGlobals "_STEPS" = some (some (.ref ad__STEPS)))
    (dt__STEPS : PyProof.Rows.KTD.tabLook PyProof.Rows.KTD.flatLooks (fun b => K.lookup b) ad__STEPS (([("up", 1), ("down", -1), ("same", 0)] : List (Str × Int)).map fun p => (p.1, PyData.int p.2)) = true)
    (z_abs : PySem.W.nsIn K mainGlobals "abs" = some none)
    (z_all : PySem.W.nsIn K mainGlobals "all" = some none)
    (z_bool : PySem.W.nsIn K mainGlobals "bool" = some none)
    (z_int : PySem.W.nsIn K mainGlobals "int" = some none)
    (z_isinstance : PySem.W.nsIn K mainGlobals "isinstance" = some none)
    (z_len : PySem.W.nsIn K mainGlobals "len" = some none)
    (z_list : PySem.W.nsIn K mainGlobals "list" = some none)
    (z_max : PySem.W.nsIn K mainGlobals "max" = some none)
    (z_min : PySem.W.nsIn K mainGlobals "min" = some none)
    (z_range : PySem.W.nsIn K mainGlobals "range" = some none)
    (z_repr : PySem.W.nsIn K mainGlobals "repr" = some none)
    (z_reversed : PySem.W.nsIn K mainGlobals "reversed" = some none)
    (z_str : PySem.W.nsIn K mainGlobals "str" = some none)
    (z_sum : PySem.W.nsIn K mainGlobals "sum" = some none)
    (z_tuple : PySem.W.nsIn K mainGlobals "tuple" = some none)
    (z_type : PySem.W.nsIn K mainGlobals "type" = some none)
    (a0 : PySem.W.nsIn K mainGlobals "_law_draws" = some (some (.ref f0)))
    (l0 : K.lookup f0 = some ⟨oc0, od0, .func (PySem.W.fnOf "_law_draws" "_law_draws" (defArgs s__law_draws) (defBody s__law_draws) (defScope s__law_draws) .none kV0 dc0 pm0 an0 cd0 ct0), sl0⟩)
    (co0 : PySem.W.codeIn K cd0 "_law_draws" = true)
    (ke0 : PySem.W.keepIn K (.ref f0) = true)
    (a1 : PySem.W.nsIn K mainGlobals "_law_more" = some (some (.ref f1)))
    (l1 : K.lookup f1 = some ⟨oc1, od1, .func (PySem.W.fnOf "_law_more" "_law_more" (defArgs s__law_more) (defBody s__law_more) (defScope s__law_more) .none kV1 dc1 pm1 an1 cd1 ct1), sl1⟩)
    (co1 : PySem.W.codeIn K cd1 "_law_more" = true)
    (ke1 : PySem.W.keepIn K (.ref f1) = true)
    (a2 : PySem.W.nsIn K mainGlobals "_law_take" = some (some (.ref f2)))
    (l2 : K.lookup f2 = some ⟨oc2, od2, .func (PySem.W.fnOf "_law_take" "_law_take" (defArgs s__law_take) (defBody s__law_take) (defScope s__law_take) .none kV2 dc2 pm2 an2 cd2 ct2), sl2⟩)
    (co2 : PySem.W.codeIn K cd2 "_law_take" = true)
    (ke2 : PySem.W.keepIn K (.ref f2) = true)
    (a3 : PySem.W.nsIn K mainGlobals "_law_one" = some (some (.ref f3)))
    (l3 : K.lookup f3 = some ⟨oc3, od3, .func (PySem.W.fnOf "_law_one" "_law_one" (defArgs s__law_one) (defBody s__law_one) (defScope s__law_one) .none kV3 dc3 pm3 an3 cd3 ct3), sl3⟩)
    (co3 : PySem.W.codeIn K cd3 "_law_one" = true)
    (ke3 : PySem.W.keepIn K (.ref f3) = true)
    (a4 : PySem.W.nsIn K mainGlobals "_law_runs" = some (some (.ref f4)))
    (l4 : K.lookup f4 = some ⟨oc4, od4, .func (PySem.W.fnOf "_law_runs" "_law_runs" (defArgs s__law_runs) (defBody s__law_runs) (defScope s__law_runs) .none kV4 dc4 pm4 an4 cd4 ct4), sl4⟩)
    (co4 : PySem.W.codeIn K cd4 "_law_runs" = true)
    (ke4 : PySem.W.keepIn K (.ref f4) = true)
    (a5 : PySem.W.nsIn K mainGlobals "_law_step" = some (some (.ref f5)))
    (l5 : K.lookup f5 = some ⟨oc5, od5, .func (PySem.W.fnOf "_law_step" "_law_step" (defArgs s__law_step) (defBody s__law_step) (defScope s__law_step) .none kV5 dc5 pm5 an5 cd5 ct5), sl5⟩)
    (co5 : PySem.W.codeIn K cd5 "_law_step" = true)
    (ke5 : PySem.W.keepIn K (.ref f5) = true)
    (a6 : PySem.W.nsIn K mainGlobals "_law_made" = some (some (.ref f6)))
    (l6 : K.lookup f6 = some ⟨oc6, od6, .func (PySem.W.fnOf "_law_made" "_law_made" (defArgs s__law_made) (defBody s__law_made) (defScope s__law_made) .none kV6 dc6 pm6 an6 cd6 ct6), sl6⟩)
    (co6 : PySem.W.codeIn K cd6 "_law_made" = true)
    (ke6 : PySem.W.keepIn K (.ref f6) = true)
    (a7 : PySem.W.nsIn K mainGlobals "_law_is_run" = some (some (.ref f7)))
    (l7 : K.lookup f7 = some ⟨oc7, od7, .func (PySem.W.fnOf "_law_is_run" "_law_is_run" (defArgs s__law_is_run) (defBody s__law_is_run) (defScope s__law_is_run) .none kV7 dc7 pm7 an7 cd7 ct7), sl7⟩)
    (co7 : PySem.W.codeIn K cd7 "_law_is_run" = true)
    (ke7 : PySem.W.keepIn K (.ref f7) = true)
    (a8 : PySem.W.nsIn K mainGlobals "_law_table" = some (some (.ref f8)))
    (l8 : K.lookup f8 = some ⟨oc8, od8, .func (PySem.W.fnOf "_law_table" "_law_table" (defArgs s__law_table) (defBody s__law_table) (defScope s__law_table) .none kV8 dc8 pm8 an8 cd8 ct8), sl8⟩)
    (co8 : PySem.W.codeIn K cd8 "_law_table" = true)
    (ke8 : PySem.W.keepIn K (.ref f8) = true)
    (a9 : PySem.W.nsIn K mainGlobals "is_integer" = some (some (.ref f9)))
    (l9 : K.lookup f9 = some ⟨oc9, od9, .func (PySem.W.fnOf "is_integer" "is_integer" (defArgs s_is_integer) (defBody s_is_integer) (defScope s_is_integer) .none kV9 dc9 pm9 an9 cd9 ct9), sl9⟩)
    (co9 : PySem.W.codeIn K cd9 "is_integer" = true)
    (ke9 : PySem.W.keepIn K (.ref f9) = true)
    (a10 : PySem.W.nsIn K mainGlobals "is_number" = some (some (.ref f10)))
    (l10 : K.lookup f10 = some ⟨oc10, od10, .func (PySem.W.fnOf "is_number" "is_number" (defArgs s_is_number) (defBody s_is_number) (defScope s_is_number) .none kV10 dc10 pm10 an10 cd10 ct10), sl10⟩)
    (co10 : PySem.W.codeIn K cd10 "is_number" = true)
    (ke10 : PySem.W.keepIn K (.ref f10) = true)
    (a11 : PySem.W.nsIn K mainGlobals "_check_shafts" = some (some (.ref f11)))
    (l11 : K.lookup f11 = some ⟨oc11, od11, .func (PySem.W.fnOf "_check_shafts" "_check_shafts" (defArgs s__check_shafts) (defBody s__check_shafts) (defScope s__check_shafts) .none kV11 dc11 pm11 an11 cd11 ct11), sl11⟩)
    (co11 : PySem.W.codeIn K cd11 "_check_shafts" = true)
    (ke11 : PySem.W.keepIn K (.ref f11) = true)
    (a12 : PySem.W.nsIn K mainGlobals "is_threading" = some (some (.ref f12)))
    (l12 : K.lookup f12 = some ⟨oc12, od12, .func (PySem.W.fnOf "is_threading" "is_threading" (defArgs s_is_threading) (defBody s_is_threading) (defScope s_is_threading) .none kV12 dc12 pm12 an12 cd12 ct12), sl12⟩)
    (co12 : PySem.W.codeIn K cd12 "is_threading" = true)
    (ke12 : PySem.W.keepIn K (.ref f12) = true)
    (a13 : PySem.W.nsIn K mainGlobals "_check_threading" = some (some (.ref f13)))
    (l13 : K.lookup f13 = some ⟨oc13, od13, .func (PySem.W.fnOf "_check_threading" "_check_threading" (defArgs s__check_threading) (defBody s__check_threading) (defScope s__check_threading) .none kV13 dc13 pm13 an13 cd13 ct13), sl13⟩)
    (co13 : PySem.W.codeIn K cd13 "_check_threading" = true)
    (ke13 : PySem.W.keepIn K (.ref f13) = true)
    (a14 : PySem.W.nsIn K mainGlobals "_length_of" = some (some (.ref f14)))
    (l14 : K.lookup f14 = some ⟨oc14, od14, .func (PySem.W.fnOf "_length_of" "_length_of" (defArgs s__length_of) (defBody s__length_of) (defScope s__length_of) .none kV14 dc14 pm14 an14 cd14 ct14), sl14⟩)
    (co14 : PySem.W.codeIn K cd14 "_length_of" = true)
    (ke14 : PySem.W.keepIn K (.ref f14) = true)
    (a15 : PySem.W.nsIn K mainGlobals "_longest_run" = some (some (.ref f15)))
    (l15 : K.lookup f15 = some ⟨oc15, od15, .func (PySem.W.fnOf "_longest_run" "_longest_run" (defArgs s__longest_run) (defBody s__longest_run) (defScope s__longest_run) .none kV15 dc15 pm15 an15 cd15 ct15), sl15⟩)
    (co15 : PySem.W.codeIn K cd15 "_longest_run" = true)
    (ke15 : PySem.W.keepIn K (.ref f15) = true)
    (a16 : PySem.W.nsIn K mainGlobals "run_table" = some (some (.ref f16)))
    (l16 : K.lookup f16 = some ⟨oc16, od16, .func (PySem.W.fnOf "run_table" "run_table" (defArgs s_run_table) (defBody s_run_table) (defScope s_run_table) .none kV16 dc16 pm16 an16 cd16 ct16), sl16⟩)
    (co16 : PySem.W.codeIn K cd16 "run_table" = true)
    (ke16 : PySem.W.keepIn K (.ref f16) = true)
    (a17 : PySem.W.nsIn K mainGlobals "is_row" = some (some (.ref f17)))
    (l17 : K.lookup f17 = some ⟨oc17, od17, .func (PySem.W.fnOf "is_row" "is_row" (defArgs s_is_row) (defBody s_is_row) (defScope s_is_row) .none kV17 dc17 pm17 an17 cd17 ct17), sl17⟩)
    (co17 : PySem.W.codeIn K cd17 "is_row" = true)
    (ke17 : PySem.W.keepIn K (.ref f17) = true)
    (a18 : PySem.W.nsIn K mainGlobals "accept_run_table" = some (some (.ref f18)))
    (l18 : K.lookup f18 = some ⟨oc18, od18, .func (PySem.W.fnOf "accept_run_table" "accept_run_table" (defArgs s_accept_run_table) (defBody s_accept_run_table) (defScope s_accept_run_table) .none kV18 dc18 pm18 an18 cd18 ct18), sl18⟩)
    (co18 : PySem.W.codeIn K cd18 "accept_run_table" = true)
    (ke18 : PySem.W.keepIn K (.ref f18) = true)
    (a19 : PySem.W.nsIn K mainGlobals "_is_run" = some (some (.ref f19)))
    (l19 : K.lookup f19 = some ⟨oc19, od19, .func (PySem.W.fnOf "_is_run" "_is_run" (defArgs s__is_run) (defBody s__is_run) (defScope s__is_run) .none kV19 dc19 pm19 an19 cd19 ct19), sl19⟩)
    (co19 : PySem.W.codeIn K cd19 "_is_run" = true)
    (ke19 : PySem.W.keepIn K (.ref f19) = true)
    (a20 : PySem.W.nsIn K mainGlobals "threaded" = some (some (.ref f20)))
    (l20 : K.lookup f20 = some ⟨oc20, od20, .func (PySem.W.fnOf "threaded" "threaded" (defArgs s_threaded) (defBody s_threaded) (defScope s_threaded) .none kV20 dc20 pm20 an20 cd20 ct20), sl20⟩)
    (co20 : PySem.W.codeIn K cd20 "threaded" = true)
    (ke20 : PySem.W.keepIn K (.ref f20) = true)
    (a21 : PySem.W.nsIn K mainGlobals "fewest_runs" = some (some (.ref f21)))
    (l21 : K.lookup f21 = some ⟨oc21, od21, .func (PySem.W.fnOf "fewest_runs" "fewest_runs" (defArgs s_fewest_runs) (defBody s_fewest_runs) (defScope s_fewest_runs) .none kV21 dc21 pm21 an21 cd21 ct21), sl21⟩)
    (co21 : PySem.W.codeIn K cd21 "fewest_runs" = true)
    (ke21 : PySem.W.keepIn K (.ref f21) = true)
    (a22 : PySem.W.nsIn K mainGlobals "_law_told" = some (some (.ref f22)))
    (l22 : K.lookup f22 = some ⟨oc22, od22, .func (PySem.W.fnOf "_law_told" "_law_told" (defArgs s__law_told) (defBody s__law_told) (defScope s__law_told) .none kV22 dc22 pm22 an22 cd22 ct22), sl22⟩)
    (co22 : PySem.W.codeIn K cd22 "_law_told" = true)
    (ke22 : PySem.W.keepIn K (.ref f22) = true)
    (a23 : PySem.W.nsIn K mainGlobals "_law_refusals" = some (some (.ref f23)))
    (l23 : K.lookup f23 = some ⟨oc23, od23, .func (PySem.W.fnOf "_law_refusals" "_law_refusals" (defArgs s__law_refusals) (defBody s__law_refusals) (defScope s__law_refusals) .none kV23 dc23 pm23 an23 cd23 ct23), sl23⟩)
    (co23 : PySem.W.codeIn K cd23 "_law_refusals" = true)
    (ke23 : PySem.W.keepIn K (.ref f23) = true)
    (a24 : PySem.W.nsIn K mainGlobals "_law_bent" = some (some (.ref f24)))
    (l24 : K.lookup f24 = some ⟨oc24, od24, .func (PySem.W.fnOf "_law_bent" "_law_bent" (defArgs s__law_bent) (defBody s__law_bent) (defScope s__law_bent) .none kV24 dc24 pm24 an24 cd24 ct24), sl24⟩)
    (co24 : PySem.W.codeIn K cd24 "_law_bent" = true)
    (ke24 : PySem.W.keepIn K (.ref f24) = true)
    (a25 : PySem.W.nsIn K mainGlobals "_law_reason" = some (some (.ref f25)))
    (l25 : K.lookup f25 = some ⟨oc25, od25, .func (PySem.W.fnOf "_law_reason" "_law_reason" (defArgs s__law_reason) (defBody s__law_reason) (defScope s__law_reason) .none kV25 dc25 pm25 an25 cd25 ct25), sl25⟩)
    (co25 : PySem.W.codeIn K cd25 "_law_reason" = true)
    (ke25 : PySem.W.keepIn K (.ref f25) = true)
    (a26 : PySem.W.nsIn K mainGlobals "_law_fewest" = some (some (.ref f26)))
    (l26 : K.lookup f26 = some ⟨oc26, od26, .func (PySem.W.fnOf "_law_fewest" "_law_fewest" (defArgs s__law_fewest) (defBody s__law_fewest) (defScope s__law_fewest) .none kV26 dc26 pm26 an26 cd26 ct26), sl26⟩)
    (co26 : PySem.W.codeIn K cd26 "_law_fewest" = true)
    (ke26 : PySem.W.keepIn K (.ref f26) = true)
    (a27 : PySem.W.nsIn K mainGlobals "law" = some (some (.ref f27)))
    (l27 : K.lookup f27 = some ⟨oc27, od27, .func (PySem.W.fnOf "law" "law" (defArgs s_law) (defBody s_law) (defScope s_law) .none kV27 dc27 pm27 an27 cd27 ct27), sl27⟩)
    (co27 : PySem.W.codeIn K cd27 "law" = true)
    (ke27 : PySem.W.keepIn K (.ref f27) = true)
    (xa_ArgumentError : PySem.W.nsIn K mainGlobals "ArgumentError" = some (some (.ref A_ArgumentError)))
    (xa_PaperError : PySem.W.nsIn K mainGlobals "PaperError" = some (some (.ref A_PaperError)))
    (xl_ArgumentError : K.lookup A_ArgumentError = some (excClassObj nm_ArgumentError q_ArgumentError A_ArgumentError N_ArgumentError bs_ArgumentError bm_ArgumentError true sn_ArgumentError sub_ArgumentError ab_ArgumentError col_ArgumentError dd_ArgumentError m0_ArgumentError m1_ArgumentError m2_ArgumentError m3_ArgumentError m5_ArgumentError "ValueError.__new__"))
    (xr_ArgumentError : PySem.HandSPX.refsVE bm_ArgumentError = true)
    (xs_ArgumentError : PySem.W.findIn K (.ref A_ArgumentError) "__setattr__" = some (some (.builtin "object.__setattr__")))
    (xi_ArgumentError : PySem.W.findIn K (.ref A_ArgumentError) "__init__" = some (some (.ref I_ArgumentError)))
    (xt_ArgumentError : PySem.W.typeIn K (.ref I_ArgumentError) = some (.type "function"))
    (yl_ArgumentError : K.lookup I_ArgumentError = some ⟨oc_ArgumentError, od_ArgumentError, .func (PySem.W.fnOf "__init__" "ArgumentError.__init__" (defArgs si_ArgumentError) (defBody si_ArgumentError) (defScope si_ArgumentError) .none kV_ArgumentError dc_ArgumentError pm_ArgumentError an_ArgumentError cd_ArgumentError ct_ArgumentError), sl_ArgumentError⟩)
    (yc_ArgumentError : PySem.W.codeIn K cd_ArgumentError "ArgumentError.__init__" = true)
    (yk_ArgumentError : PySem.W.keepIn K (.ref I_ArgumentError) = true)
    (xk_ArgumentError : PySem.W.keepIn K (.ref A_ArgumentError) = true)
    (xl_PaperError : K.lookup A_PaperError = some (excClassObj nm_PaperError q_PaperError A_PaperError N_PaperError bs_PaperError bm_PaperError true sn_PaperError sub_PaperError ab_PaperError col_PaperError dd_PaperError m0_PaperError m1_PaperError m2_PaperError m3_PaperError m5_PaperError "ValueError.__new__"))
    (xr_PaperError : PySem.HandSPX.refsVE bm_PaperError = true)
    (xs_PaperError : PySem.W.findIn K (.ref A_PaperError) "__setattr__" = some (some (.builtin "object.__setattr__")))
    (xi_PaperError : PySem.W.findIn K (.ref A_PaperError) "__init__" = some (some (.ref I_PaperError)))
    (xt_PaperError : PySem.W.typeIn K (.ref I_PaperError) = some (.type "function"))
    (yl_PaperError : K.lookup I_PaperError = some ⟨oc_PaperError, od_PaperError, .func (PySem.W.fnOf "__init__" "PaperError.__init__" (defArgs si_PaperError) (defBody si_PaperError) (defScope si_PaperError) .none kV_PaperError dc_PaperError pm_PaperError an_PaperError cd_PaperError ct_PaperError), sl_PaperError⟩)
    (yc_PaperError : PySem.W.codeIn K cd_PaperError "PaperError.__init__" = true)
    (yk_PaperError : PySem.W.keepIn K (.ref I_PaperError) = true)
    (xk_PaperError : PySem.W.keepIn K (.ref A_PaperError) = true)
    (xg_ArgumentError : PySem.W.findIn K (.ref A_ArgumentError) "__getattribute__" = some (some (.builtin "BaseException.__getattribute__")))
    (xh_ArgumentError : PySem.W.findIn K (.ref A_ArgumentError) "__getattr__" = some none)
    (xn_ArgumentError : PySem.W.findIn K (.ref A_ArgumentError) "reason" = some none)
    (xd_ArgumentError : PySem.W.hasDictIn K A_ArgumentError = true)
    (xg_PaperError : PySem.W.findIn K (.ref A_PaperError) "__getattribute__" = some (some (.builtin "BaseException.__getattribute__")))
    (xh_PaperError : PySem.W.findIn K (.ref A_PaperError) "__getattr__" = some none)
    (xn_PaperError : PySem.W.findIn K (.ref A_PaperError) "reason" = some none)
    (xd_PaperError : PySem.W.hasDictIn K A_PaperError = true)
    (xe_ArgumentError : PySem.W.subIn K (.ref A_ArgumentError) (.type "BaseException") = some true)
    (xe_PaperError : PySem.W.subIn K (.ref A_PaperError) (.type "BaseException") = some true)
    (xy_ArgumentError : PySem.W.typeIn K (.ref A_ArgumentError) = some (.type "type"))
    (xy_PaperError : PySem.W.typeIn K (.ref A_PaperError) = some (.type "type"))
    (xc_ArgumentError : PySem.W.isClsIn K A_ArgumentError = true)
    (xc_PaperError : PySem.W.isClsIn K A_PaperError = true)
    (xq_ArgumentError_ArgumentError : PySem.W.subIn K (.ref A_ArgumentError) (.ref A_ArgumentError) = some true)
    (xq_PaperError_ArgumentError : PySem.W.subIn K (.ref A_PaperError) (.ref A_ArgumentError) = some false)
    (xq_ArgumentError_PaperError : PySem.W.subIn K (.ref A_ArgumentError) (.ref A_PaperError) = some false)
    (xq_PaperError_PaperError : PySem.W.subIn K (.ref A_PaperError) (.ref A_PaperError) = some true) : ∀ base : Heap, Top P w K mg base := fun base => {
  c_MAX_ENDS := ⟨_, PySem.W.mg_of X G c_MAX_ENDS⟩
  c_MAX_SHAFTS := ⟨_, PySem.W.mg_of X G c_MAX_SHAFTS⟩
  d__STEPS := ⟨_, PySem.W.mg_of X G d__STEPS, dt__STEPS, by decide +kernel⟩
  z_abs := PySem.W.mg_none_of X G z_abs
  z_all := PySem.W.mg_none_of X G z_all
  z_bool := PySem.W.mg_none_of X G z_bool
  z_int := PySem.W.mg_none_of X G z_int
  z_isinstance := PySem.W.mg_none_of X G z_isinstance
  z_len := PySem.W.mg_none_of X G z_len
  z_list := PySem.W.mg_none_of X G z_list
  z_max := PySem.W.mg_none_of X G z_max
  z_min := PySem.W.mg_none_of X G z_min
  z_range := PySem.W.mg_none_of X G z_range
  z_repr := PySem.W.mg_none_of X G z_repr
  z_reversed := PySem.W.mg_none_of X G z_reversed
  z_str := PySem.W.mg_none_of X G z_str
  z_sum := PySem.W.mg_none_of X G z_sum
  z_tuple := PySem.W.mg_none_of X G z_tuple
  z_type := PySem.W.mg_none_of X G z_type
  f__law_draws := ⟨f0, _, fun_mk (st := s__law_draws) l0 co0 ke0, (fun_mk (st := s__law_draws) l0 co0 ke0).binds (ps := ["script"]) (fun _ _ _ _ _ _ us hl => match us, hl with | [_], _ => rfl), PySem.W.mg_of X G a0⟩
  f__law_more := ⟨f1, _, fun_mk (st := s__law_more) l1 co1 ke1, (fun_mk (st := s__law_more) l1 co1 ke1).binds (ps := ["draws", "place"]) (fun _ _ _ _ _ _ us hl => match us, hl with | [_, _], _ => rfl), PySem.W.mg_of X G a1⟩
  f__law_take := ⟨f2, _, fun_mk (st := s__law_take) l2 co2 ke2, (fun_mk (st := s__law_take) l2 co2 ke2).binds (ps := ["draws", "at", "many"]) (fun _ _ _ _ _ _ us hl => match us, hl with | [_, _, _], _ => rfl), PySem.W.mg_of X G a2⟩
  f__law_one := ⟨f3, _, fun_mk (st := s__law_one) l3 co3 ke3, (fun_mk (st := s__law_one) l3 co3 ke3).binds (ps := ["rows", "draws", "at"]) (fun _ _ _ _ _ _ us hl => match us, hl with | [_, _, _], _ => rfl), PySem.W.mg_of X G a3⟩
  f__law_runs := ⟨f4, _, fun_mk (st := s__law_runs) l4 co4 ke4, (fun_mk (st := s__law_runs) l4 co4 ke4).binds (ps := ["shafts", "draws", "at"]) (fun _ _ _ _ _ _ us hl => match us, hl with | [_, _, _], _ => rfl), PySem.W.mg_of X G a4⟩
  f__law_step := ⟨f5, _, fun_mk (st := s__law_step) l5 co5 ke5, (fun_mk (st := s__law_step) l5 co5 ke5).binds (ps := ["word"]) (fun _ _ _ _ _ _ us hl => match us, hl with | [_], _ => rfl), PySem.W.mg_of X G a5⟩
  f__law_made := ⟨f6, _, fun_mk (st := s__law_made) l6 co6 ke6, (fun_mk (st := s__law_made) l6 co6 ke6).binds (ps := ["runs", "shafts"]) (fun _ _ _ _ _ _ us hl => match us, hl with | [_, _], _ => rfl), PySem.W.mg_of X G a6⟩
  f__law_is_run := ⟨f7, _, fun_mk (st := s__law_is_run) l7 co7 ke7, (fun_mk (st := s__law_is_run) l7 co7 ke7).binds (ps := ["part", "word", "shafts"]) (fun _ _ _ _ _ _ us hl => match us, hl with | [_, _, _], _ => rfl), PySem.W.mg_of X G a7⟩
  f__law_table := ⟨f8, _, fun_mk (st := s__law_table) l8 co8 ke8, (fun_mk (st := s__law_table) l8 co8 ke8).binds (ps := ["threading", "shafts"]) (fun _ _ _ _ _ _ us hl => match us, hl with | [_, _], _ => rfl), PySem.W.mg_of X G a8⟩
  f_is_integer := ⟨f9, _, fun_mk (st := s_is_integer) l9 co9 ke9, (fun_mk (st := s_is_integer) l9 co9 ke9).binds (ps := ["value"]) (fun _ _ _ _ _ _ us hl => match us, hl with | [_], _ => rfl), PySem.W.mg_of X G a9⟩
  f_is_number := ⟨f10, _, fun_mk (st := s_is_number) l10 co10 ke10, (fun_mk (st := s_is_number) l10 co10 ke10).binds (ps := ["value", "least", "most"]) (fun _ _ _ _ _ _ us hl => match us, hl with | [_, _, _], _ => rfl), PySem.W.mg_of X G a10⟩
  f__check_shafts := ⟨f11, _, fun_mk (st := s__check_shafts) l11 co11 ke11, (fun_mk (st := s__check_shafts) l11 co11 ke11).binds (ps := ["shafts"]) (fun _ _ _ _ _ _ us hl => match us, hl with | [_], _ => rfl), PySem.W.mg_of X G a11⟩
  f_is_threading := ⟨f12, _, fun_mk (st := s_is_threading) l12 co12 ke12, (fun_mk (st := s_is_threading) l12 co12 ke12).binds (ps := ["value", "shafts"]) (fun _ _ _ _ _ _ us hl => match us, hl with | [_, _], _ => rfl), PySem.W.mg_of X G a12⟩
  f__check_threading := ⟨f13, _, fun_mk (st := s__check_threading) l13 co13 ke13, (fun_mk (st := s__check_threading) l13 co13 ke13).binds (ps := ["threading", "shafts"]) (fun _ _ _ _ _ _ us hl => match us, hl with | [_, _], _ => rfl), PySem.W.mg_of X G a13⟩
  f__length_of := ⟨f14, _, fun_mk (st := s__length_of) l14 co14 ke14, (fun_mk (st := s__length_of) l14 co14 ke14).binds (ps := ["threading", "shafts", "first", "step"]) (fun _ _ _ _ _ _ us hl => match us, hl with | [_, _, _, _], _ => rfl), PySem.W.mg_of X G a14⟩
  f__longest_run := ⟨f15, _, fun_mk (st := s__longest_run) l15 co15 ke15, (fun_mk (st := s__longest_run) l15 co15 ke15).binds (ps := ["threading", "shafts", "first"]) (fun _ _ _ _ _ _ us hl => match us, hl with | [_, _, _], _ => rfl), PySem.W.mg_of X G a15⟩
  f_run_table := ⟨f16, _, fun_mk (st := s_run_table) l16 co16 ke16, (fun_mk (st := s_run_table) l16 co16 ke16).binds (ps := ["threading", "shafts"]) (fun _ _ _ _ _ _ us hl => match us, hl with | [_, _], _ => rfl), PySem.W.mg_of X G a16⟩
  f_is_row := ⟨f17, _, fun_mk (st := s_is_row) l17 co17 ke17, (fun_mk (st := s_is_row) l17 co17 ke17).binds (ps := ["value", "size"]) (fun _ _ _ _ _ _ us hl => match us, hl with | [_, _], _ => rfl), PySem.W.mg_of X G a17⟩
  f_accept_run_table := ⟨f18, _, fun_mk (st := s_accept_run_table) l18 co18 ke18, (fun_mk (st := s_accept_run_table) l18 co18 ke18).binds (ps := ["threading", "shafts", "table"]) (fun _ _ _ _ _ _ us hl => match us, hl with | [_, _, _], _ => rfl), PySem.W.mg_of X G a18⟩
  f__is_run := ⟨f19, _, fun_mk (st := s__is_run) l19 co19 ke19, (fun_mk (st := s__is_run) l19 co19 ke19).binds (ps := ["value", "shafts"]) (fun _ _ _ _ _ _ us hl => match us, hl with | [_, _], _ => rfl), PySem.W.mg_of X G a19⟩
  f_threaded := ⟨f20, _, fun_mk (st := s_threaded) l20 co20 ke20, (fun_mk (st := s_threaded) l20 co20 ke20).binds (ps := ["runs", "shafts"]) (fun _ _ _ _ _ _ us hl => match us, hl with | [_, _], _ => rfl), PySem.W.mg_of X G a20⟩
  f_fewest_runs := ⟨f21, _, fun_mk (st := s_fewest_runs) l21 co21 ke21, (fun_mk (st := s_fewest_runs) l21 co21 ke21).binds (ps := ["threading", "shafts"]) (fun _ _ _ _ _ _ us hl => match us, hl with | [_, _], _ => rfl), PySem.W.mg_of X G a21⟩
  f__law_told := ⟨f22, _, fun_mk (st := s__law_told) l22 co22 ke22, (fun_mk (st := s__law_told) l22 co22 ke22).binds (ps := ["call", "one", "shafts", "table"]) (fun _ _ _ _ _ _ us hl => match us, hl with | [_, _, _, _], _ => rfl), PySem.W.mg_of X G a22⟩
  f__law_refusals := ⟨f23, _, fun_mk (st := s__law_refusals) l23 co23 ke23, (fun_mk (st := s__law_refusals) l23 co23 ke23).binds (ps := ["threading", "shafts", "draws", "at"]) (fun _ _ _ _ _ _ us hl => match us, hl with | [_, _, _, _], _ => rfl), PySem.W.mg_of X G a23⟩
  f__law_bent := ⟨f24, _, fun_mk (st := s__law_bent) l24 co24 ke24, (fun_mk (st := s__law_bent) l24 co24 ke24).binds (ps := ["table", "draws", "at"]) (fun _ _ _ _ _ _ us hl => match us, hl with | [_, _, _], _ => rfl), PySem.W.mg_of X G a24⟩
  f__law_reason := ⟨f25, _, fun_mk (st := s__law_reason) l25 co25 ke25, (fun_mk (st := s__law_reason) l25 co25 ke25).binds (ps := ["bent", "table"]) (fun _ _ _ _ _ _ us hl => match us, hl with | [_, _], _ => rfl), PySem.W.mg_of X G a25⟩
  f__law_fewest := ⟨f26, _, fun_mk (st := s__law_fewest) l26 co26 ke26, (fun_mk (st := s__law_fewest) l26 co26 ke26).binds (ps := ["threading", "shafts"]) (fun _ _ _ _ _ _ us hl => match us, hl with | [_, _], _ => rfl), PySem.W.mg_of X G a26⟩
  f_law := ⟨f27, _, fun_mk (st := s_law) l27 co27 ke27, (fun_mk (st := s_law) l27 co27 ke27).binds (ps := ["script"]) (fun _ _ _ _ _ _ us hl => match us, hl with | [_], _ => rfl), PySem.W.mg_of X G a27⟩
  x_ArgumentError := exc1_mk (PySem.W.mg_of X G xa_ArgumentError) xl_ArgumentError xr_ArgumentError xs_ArgumentError xg_ArgumentError xh_ArgumentError xn_ArgumentError xi_ArgumentError xt_ArgumentError (fun_mk (st := si_ArgumentError) yl_ArgumentError yc_ArgumentError yk_ArgumentError) sci_ArgumentError rfl ((fun_mk (st := si_ArgumentError) yl_ArgumentError yc_ArgumentError yk_ArgumentError).binds (fun _ _ _ _ _ _ us hl => match us, hl with | [_, _], _ => rfl)) xk_ArgumentError xe_ArgumentError xy_ArgumentError xd_ArgumentError
  x_PaperError := exc1_mk (PySem.W.mg_of X G xa_PaperError) xl_PaperError xr_PaperError xs_PaperError xg_PaperError xh_PaperError xn_PaperError xi_PaperError xt_PaperError (fun_mk (st := si_PaperError) yl_PaperError yc_PaperError yk_PaperError) sci_PaperError rfl ((fun_mk (st := si_PaperError) yl_PaperError yc_PaperError yk_PaperError).binds (fun _ _ _ _ _ _ us hl => match us, hl with | [_, _], _ => rfl)) xk_PaperError xe_PaperError xy_PaperError xd_PaperError
  h_ArgumentError := ⟨_, PySem.W.mg_of X G xa_ArgumentError, fun y v e A hA => by
    have z := PySem.mem_of_lookup e
    simp only [mt_ArgumentError, List.mem_cons, List.not_mem_nil, or_false, Prod.mk.injEq] at z
    rcases z with ⟨rfl, rfl⟩ | ⟨rfl, rfl⟩
    · have e2 := (show _ = _ from hA).symm.trans (PySem.W.mg_of X G xa_ArgumentError)
      cases e2
      exact exm_of xe_ArgumentError xc_ArgumentError xy_ArgumentError xq_ArgumentError_ArgumentError
    · have e2 := (show _ = _ from hA).symm.trans (PySem.W.mg_of X G xa_PaperError)
      cases e2
      exact exm_of xe_ArgumentError xc_ArgumentError xy_ArgumentError xq_PaperError_ArgumentError⟩
  h_PaperError := ⟨_, PySem.W.mg_of X G xa_PaperError, fun y v e A hA => by
    have z := PySem.mem_of_lookup e
    simp only [mt_PaperError, List.mem_cons, List.not_mem_nil, or_false, Prod.mk.injEq] at z
    rcases z with ⟨rfl, rfl⟩ | ⟨rfl, rfl⟩
    · have e2 := (show _ = _ from hA).symm.trans (PySem.W.mg_of X G xa_ArgumentError)
      cases e2
      exact exm_of xe_PaperError xc_PaperError xy_PaperError xq_ArgumentError_PaperError
    · have e2 := (show _ = _ from hA).symm.trans (PySem.W.mg_of X G xa_PaperError)
      cases e2
      exact exm_of xe_PaperError xc_PaperError xy_PaperError xq_PaperError_PaperError⟩
  fx_reason := fun x hx A hA => by
    simp only [xs_reason, List.mem_cons, List.not_mem_nil, or_false] at hx
    rcases hx with rfl | rfl
    · have e2 := (show _ = _ from hA).symm.trans (PySem.W.mg_of X G xa_ArgumentError)
      cases e2
      exact ⟨⟨xg_ArgumentError, xh_ArgumentError, xe_ArgumentError, xd_ArgumentError⟩, xn_ArgumentError⟩
    · have e2 := (show _ = _ from hA).symm.trans (PySem.W.mg_of X G xa_PaperError)
      cases e2
      exact ⟨⟨xg_PaperError, xh_PaperError, xe_PaperError, xd_PaperError⟩, xn_PaperError⟩
}
theorem all_mk {l : PySem.W.OpenLaw} {w : World} {K : PySem.W.Frag} {mg : Str → Option Value} {h : Heap} {fa : Addr} {m : M} (X : K.In h) (G : h.Ns mainGlobals mg) (hfa : mg "law" = some (.ref fa))
    (lg : ∀ (P : Program) (w : World) (K : PySem.W.Frag) (mg : Str → Option Value) (base : Heap) (f : Addr) (fd : FuncData), Top P w K mg base → Fun K "law" "law" s_law f fd → FnG P w K mg base 9 f fd ["script"] (spM K (CM w mg) 1 m))
    {tk_MAX_ENDS : Tok}
    {tk_MAX_SHAFTS : Tok}
    {ad__STEPS : Addr}
    {f0 : Addr} {od0 an0 : Option Addr} {sl0 : Array (Option Value)} {oc0 kV0 dc0 pm0 cd0 ct0 : Value}
    {f1 : Addr} {od1 an1 : Option Addr} {sl1 : Array (Option Value)} {oc1 kV1 dc1 pm1 cd1 ct1 : Value}
    {f2 : Addr} {od2 an2 : Option Addr} {sl2 : Array (Option Value)} {oc2 kV2 dc2 pm2 cd2 ct2 : Value}
    {f3 : Addr} {od3 an3 : Option Addr} {sl3 : Array (Option Value)} {oc3 kV3 dc3 pm3 cd3 ct3 : Value}
    {f4 : Addr} {od4 an4 : Option Addr} {sl4 : Array (Option Value)} {oc4 kV4 dc4 pm4 cd4 ct4 : Value}
    {f5 : Addr} {od5 an5 : Option Addr} {sl5 : Array (Option Value)} {oc5 kV5 dc5 pm5 cd5 ct5 : Value}
    {f6 : Addr} {od6 an6 : Option Addr} {sl6 : Array (Option Value)} {oc6 kV6 dc6 pm6 cd6 ct6 : Value}
    {f7 : Addr} {od7 an7 : Option Addr} {sl7 : Array (Option Value)} {oc7 kV7 dc7 pm7 cd7 ct7 : Value}
    {f8 : Addr} {od8 an8 : Option Addr} {sl8 : Array (Option Value)} {oc8 kV8 dc8 pm8 cd8 ct8 : Value}
    {f9 : Addr} {od9 an9 : Option Addr} {sl9 : Array (Option Value)} {oc9 kV9 dc9 pm9 cd9 ct9 : Value}
    {f10 : Addr} {od10 an10 : Option Addr} {sl10 : Array (Option Value)} {oc10 kV10 dc10 pm10 cd10 ct10 : Value}
    {f11 : Addr} {od11 an11 : Option Addr} {sl11 : Array (Option Value)} {oc11 kV11 dc11 pm11 cd11 ct11 : Value}
    {f12 : Addr} {od12 an12 : Option Addr} {sl12 : Array (Option Value)} {oc12 kV12 dc12 pm12 cd12 ct12 : Value}
    {f13 : Addr} {od13 an13 : Option Addr} {sl13 : Array (Option Value)} {oc13 kV13 dc13 pm13 cd13 ct13 : Value}
    {f14 : Addr} {od14 an14 : Option Addr} {sl14 : Array (Option Value)} {oc14 kV14 dc14 pm14 cd14 ct14 : Value}
    {f15 : Addr} {od15 an15 : Option Addr} {sl15 : Array (Option Value)} {oc15 kV15 dc15 pm15 cd15 ct15 : Value}
    {f16 : Addr} {od16 an16 : Option Addr} {sl16 : Array (Option Value)} {oc16 kV16 dc16 pm16 cd16 ct16 : Value}
    {f17 : Addr} {od17 an17 : Option Addr} {sl17 : Array (Option Value)} {oc17 kV17 dc17 pm17 cd17 ct17 : Value}
    {f18 : Addr} {od18 an18 : Option Addr} {sl18 : Array (Option Value)} {oc18 kV18 dc18 pm18 cd18 ct18 : Value}
    {f19 : Addr} {od19 an19 : Option Addr} {sl19 : Array (Option Value)} {oc19 kV19 dc19 pm19 cd19 ct19 : Value}
    {f20 : Addr} {od20 an20 : Option Addr} {sl20 : Array (Option Value)} {oc20 kV20 dc20 pm20 cd20 ct20 : Value}
    {f21 : Addr} {od21 an21 : Option Addr} {sl21 : Array (Option Value)} {oc21 kV21 dc21 pm21 cd21 ct21 : Value}
    {f22 : Addr} {od22 an22 : Option Addr} {sl22 : Array (Option Value)} {oc22 kV22 dc22 pm22 cd22 ct22 : Value}
    {f23 : Addr} {od23 an23 : Option Addr} {sl23 : Array (Option Value)} {oc23 kV23 dc23 pm23 cd23 ct23 : Value}
    {f24 : Addr} {od24 an24 : Option Addr} {sl24 : Array (Option Value)} {oc24 kV24 dc24 pm24 cd24 ct24 : Value}
    {f25 : Addr} {od25 an25 : Option Addr} {sl25 : Array (Option Value)} {oc25 kV25 dc25 pm25 cd25 ct25 : Value}
    {f26 : Addr} {od26 an26 : Option Addr} {sl26 : Array (Option Value)} {oc26 kV26 dc26 pm26 cd26 ct26 : Value}
    {f27 : Addr} {od27 an27 : Option Addr} {sl27 : Array (Option Value)} {oc27 kV27 dc27 pm27 cd27 ct27 : Value}
    {I_ArgumentError N_ArgumentError : Addr} {nm_ArgumentError q_ArgumentError : Str} {bs_ArgumentError bm_ArgumentError sub_ArgumentError : List Value} {sn_ArgumentError : List Str} {ab_ArgumentError : Bool} {col_ArgumentError : Option Bool} {dd_ArgumentError : Option Addr} {m0_ArgumentError m1_ArgumentError m2_ArgumentError m3_ArgumentError m5_ArgumentError : Option Value} {od_ArgumentError an_ArgumentError : Option Addr} {sl_ArgumentError : Array (Option Value)} {oc_ArgumentError kV_ArgumentError dc_ArgumentError pm_ArgumentError cd_ArgumentError ct_ArgumentError : Value}
    {I_PaperError N_PaperError : Addr} {nm_PaperError q_PaperError : Str} {bs_PaperError bm_PaperError sub_PaperError : List Value} {sn_PaperError : List Str} {ab_PaperError : Bool} {col_PaperError : Option Bool} {dd_PaperError : Option Addr} {m0_PaperError m1_PaperError m2_PaperError m3_PaperError m5_PaperError : Option Value} {od_PaperError an_PaperError : Option Addr} {sl_PaperError : Array (Option Value)} {oc_PaperError kV_PaperError dc_PaperError pm_PaperError cd_PaperError ct_PaperError : Value}
    {A_ArgumentError : Addr}
    {A_PaperError : Addr}
    (c_MAX_ENDS : PySem.W.nsIn K mainGlobals "MAX_ENDS" = some (some (.int 24 tk_MAX_ENDS)))
    (c_MAX_SHAFTS : PySem.W.nsIn K mainGlobals "MAX_SHAFTS" = some (some (.int 16 tk_MAX_SHAFTS)))
    (d__STEPS : PySem.W.nsIn K mainGlobals "_STEPS" = some (some (.ref ad__STEPS)))
    (dt__STEPS : PyProof.Rows.KTD.tabLook PyProof.Rows.KTD.flatLooks (fun b => K.lookup b) ad__STEPS (([("up", 1), ("down", -1), ("same", 0)] : List (Str × Int)).map fun p => (p.1, PyData.int p.2)) = true)
    (z_abs : PySem.W.nsIn K mainGlobals "abs" = some none)
    (z_all : PySem.W.nsIn K mainGlobals "all" = some none)
    (z_bool : PySem.W.nsIn K mainGlobals "bool" = some none)
    (z_int : PySem.W.nsIn K mainGlobals "int" = some none)
    (z_isinstance : PySem.W.nsIn K mainGlobals "isinstance" = some none)
    (z_len : PySem.W.nsIn K mainGlobals "len" = some none)
    (z_list : PySem.W.nsIn K mainGlobals "list" = some none)
    (z_max : PySem.W.nsIn K mainGlobals "max" = some none)
    (z_min : PySem.W.nsIn K mainGlobals "min" = some none)
    (z_range : PySem.W.nsIn K mainGlobals "range" = some none)
    (z_repr : PySem.W.nsIn K mainGlobals "repr" = some none)
    (z_reversed : PySem.W.nsIn K mainGlobals "reversed" = some none)
    (z_str : PySem.W.nsIn K mainGlobals "str" = some none)
    (z_sum : PySem.W.nsIn K mainGlobals "sum" = some none)
    (z_tuple : PySem.W.nsIn K mainGlobals "tuple" = some none)
    (z_type : PySem.W.nsIn K mainGlobals "type" = some none)
    (a0 : PySem.W.nsIn K mainGlobals "_law_draws" = some (some (.ref f0)))
    (l0 : K.lookup f0 = some ⟨oc0, od0, .func (PySem.W.fnOf "_law_draws" "_law_draws" (defArgs s__law_draws) (defBody s__law_draws) (defScope s__law_draws) .none kV0 dc0 pm0 an0 cd0 ct0), sl0⟩)
    (co0 : PySem.W.codeIn K cd0 "_law_draws" = true)
    (ke0 : PySem.W.keepIn K (.ref f0) = true)
    (a1 : PySem.W.nsIn K mainGlobals "_law_more" = some (some (.ref f1)))
    (l1 : K.lookup f1 = some ⟨oc1, od1, .func (PySem.W.fnOf "_law_more" "_law_more" (defArgs s__law_more) (defBody s__law_more) (defScope s__law_more) .none kV1 dc1 pm1 an1 cd1 ct1), sl1⟩)
    (co1 : PySem.W.codeIn K cd1 "_law_more" = true)
    (ke1 : PySem.W.keepIn K (.ref f1) = true)
    (a2 : PySem.W.nsIn K mainGlobals "_law_take" = some (some (.ref f2)))
    (l2 : K.lookup f2 = some ⟨oc2, od2, .func (PySem.W.fnOf "_law_take" "_law_take" (defArgs s__law_take) (defBody s__law_take) (defScope s__law_take) .none kV2 dc2 pm2 an2 cd2 ct2), sl2⟩)
    (co2 : PySem.W.codeIn K cd2 "_law_take" = true)
    (ke2 : PySem.W.keepIn K (.ref f2) = true)
    (a3 : PySem.W.nsIn K mainGlobals "_law_one" = some (some (.ref f3)))
    (l3 : K.lookup f3 = some ⟨oc3, od3, .func (PySem.W.fnOf "_law_one" "_law_one" (defArgs s__law_one) (defBody s__law_one) (defScope s__law_one) .none kV3 dc3 pm3 an3 cd3 ct3), sl3⟩)
    (co3 : PySem.W.codeIn K cd3 "_law_one" = true)
    (ke3 : PySem.W.keepIn K (.ref f3) = true)
    (a4 : PySem.W.nsIn K mainGlobals "_law_runs" = some (some (.ref f4)))
    (l4 : K.lookup f4 = some ⟨oc4, od4, .func (PySem.W.fnOf "_law_runs" "_law_runs" (defArgs s__law_runs) (defBody s__law_runs) (defScope s__law_runs) .none kV4 dc4 pm4 an4 cd4 ct4), sl4⟩)
    (co4 : PySem.W.codeIn K cd4 "_law_runs" = true)
    (ke4 : PySem.W.keepIn K (.ref f4) = true)
    (a5 : PySem.W.nsIn K mainGlobals "_law_step" = some (some (.ref f5)))
    (l5 : K.lookup f5 = some ⟨oc5, od5, .func (PySem.W.fnOf "_law_step" "_law_step" (defArgs s__law_step) (defBody s__law_step) (defScope s__law_step) .none kV5 dc5 pm5 an5 cd5 ct5), sl5⟩)
    (co5 : PySem.W.codeIn K cd5 "_law_step" = true)
    (ke5 : PySem.W.keepIn K (.ref f5) = true)
    (a6 : PySem.W.nsIn K mainGlobals "_law_made" = some (some (.ref f6)))
    (l6 : K.lookup f6 = some ⟨oc6, od6, .func (PySem.W.fnOf "_law_made" "_law_made" (defArgs s__law_made) (defBody s__law_made) (defScope s__law_made) .none kV6 dc6 pm6 an6 cd6 ct6), sl6⟩)
    (co6 : PySem.W.codeIn K cd6 "_law_made" = true)
    (ke6 : PySem.W.keepIn K (.ref f6) = true)
    (a7 : PySem.W.nsIn K mainGlobals "_law_is_run" = some (some (.ref f7)))
    (l7 : K.lookup f7 = some ⟨oc7, od7, .func (PySem.W.fnOf "_law_is_run" "_law_is_run" (defArgs s__law_is_run) (defBody s__law_is_run) (defScope s__law_is_run) .none kV7 dc7 pm7 an7 cd7 ct7), sl7⟩)
    (co7 : PySem.W.codeIn K cd7 "_law_is_run" = true)
    (ke7 : PySem.W.keepIn K (.ref f7) = true)
    (a8 : PySem.W.nsIn K mainGlobals "_law_table" = some (some (.ref f8)))
    (l8 : K.lookup f8 = some ⟨oc8, od8, .func (PySem.W.fnOf "_law_table" "_law_table" (defArgs s__law_table) (defBody s__law_table) (defScope s__law_table) .none kV8 dc8 pm8 an8 cd8 ct8), sl8⟩)
    (co8 : PySem.W.codeIn K cd8 "_law_table" = true)
    (ke8 : PySem.W.keepIn K (.ref f8) = true)
    (a9 : PySem.W.nsIn K mainGlobals "is_integer" = some (some (.ref f9)))
    (l9 : K.lookup f9 = some ⟨oc9, od9, .func (PySem.W.fnOf "is_integer" "is_integer" (defArgs s_is_integer) (defBody s_is_integer) (defScope s_is_integer) .none kV9 dc9 pm9 an9 cd9 ct9), sl9⟩)
    (co9 : PySem.W.codeIn K cd9 "is_integer" = true)
    (ke9 : PySem.W.keepIn K (.ref f9) = true)
    (a10 : PySem.W.nsIn K mainGlobals "is_number" = some (some (.ref f10)))
    (l10 : K.lookup f10 = some ⟨oc10, od10, .func (PySem.W.fnOf "is_number" "is_number" (defArgs s_is_number) (defBody s_is_number) (defScope s_is_number) .none kV10 dc10 pm10 an10 cd10 ct10), sl10⟩)
    (co10 : PySem.W.codeIn K cd10 "is_number" = true)
    (ke10 : PySem.W.keepIn K (.ref f10) = true)
    (a11 : PySem.W.nsIn K mainGlobals "_check_shafts" = some (some (.ref f11)))
    (l11 : K.lookup f11 = some ⟨oc11, od11, .func (PySem.W.fnOf "_check_shafts" "_check_shafts" (defArgs s__check_shafts) (defBody s__check_shafts) (defScope s__check_shafts) .none kV11 dc11 pm11 an11 cd11 ct11), sl11⟩)
    (co11 : PySem.W.codeIn K cd11 "_check_shafts" = true)
    (ke11 : PySem.W.keepIn K (.ref f11) = true)
    (a12 : PySem.W.nsIn K mainGlobals "is_threading" = some (some (.ref f12)))
    (l12 : K.lookup f12 = some ⟨oc12, od12, .func (PySem.W.fnOf "is_threading" "is_threading" (defArgs s_is_threading) (defBody s_is_threading) (defScope s_is_threading) .none kV12 dc12 pm12 an12 cd12 ct12), sl12⟩)
    (co12 : PySem.W.codeIn K cd12 "is_threading" = true)
    (ke12 : PySem.W.keepIn K (.ref f12) = true)
    (a13 : PySem.W.nsIn K mainGlobals "_check_threading" = some (some (.ref f13)))
    (l13 : K.lookup f13 = some ⟨oc13, od13, .func (PySem.W.fnOf "_check_threading" "_check_threading" (defArgs s__check_threading) (defBody s__check_threading) (defScope s__check_threading) .none kV13 dc13 pm13 an13 cd13 ct13), sl13⟩)
    (co13 : PySem.W.codeIn K cd13 "_check_threading" = true)
    (ke13 : PySem.W.keepIn K (.ref f13) = true)
    (a14 : PySem.W.nsIn K mainGlobals "_length_of" = some (some (.ref f14)))
    (l14 : K.lookup f14 = some ⟨oc14, od14, .func (PySem.W.fnOf "_length_of" "_length_of" (defArgs s__length_of) (defBody s__length_of) (defScope s__length_of) .none kV14 dc14 pm14 an14 cd14 ct14), sl14⟩)
    (co14 : PySem.W.codeIn K cd14 "_length_of" = true)
    (ke14 : PySem.W.keepIn K (.ref f14) = true)
    (a15 : PySem.W.nsIn K mainGlobals "_longest_run" = some (some (.ref f15)))
    (l15 : K.lookup f15 = some ⟨oc15, od15, .func (PySem.W.fnOf "_longest_run" "_longest_run" (defArgs s__longest_run) (defBody s__longest_run) (defScope s__longest_run) .none kV15 dc15 pm15 an15 cd15 ct15), sl15⟩)
    (co15 : PySem.W.codeIn K cd15 "_longest_run" = true)
    (ke15 : PySem.W.keepIn K (.ref f15) = true)
    (a16 : PySem.W.nsIn K mainGlobals "run_table" = some (some (.ref f16)))
    (l16 : K.lookup f16 = some ⟨oc16, od16, .func (PySem.W.fnOf "run_table" "run_table" (defArgs s_run_table) (defBody s_run_table) (defScope s_run_table) .none kV16 dc16 pm16 an16 cd16 ct16), sl16⟩)
    (co16 : PySem.W.codeIn K cd16 "run_table" = true)
    (ke16 : PySem.W.keepIn K (.ref f16) = true)
    (a17 : PySem.W.nsIn K mainGlobals "is_row" = some (some (.ref f17)))
    (l17 : K.lookup f17 = some ⟨oc17, od17, .func (PySem.W.fnOf "is_row" "is_row" (defArgs s_is_row) (defBody s_is_row) (defScope s_is_row) .none kV17 dc17 pm17 an17 cd17 ct17), sl17⟩)
    (co17 : PySem.W.codeIn K cd17 "is_row" = true)
    (ke17 : PySem.W.keepIn K (.ref f17) = true)
    (a18 : PySem.W.nsIn K mainGlobals "accept_run_table" = some (some (.ref f18)))
    (l18 : K.lookup f18 = some ⟨oc18, od18, .func (PySem.W.fnOf "accept_run_table" "accept_run_table" (defArgs s_accept_run_table) (defBody s_accept_run_table) (defScope s_accept_run_table) .none kV18 dc18 pm18 an18 cd18 ct18), sl18⟩)
    (co18 : PySem.W.codeIn K cd18 "accept_run_table" = true)
    (ke18 : PySem.W.keepIn K (.ref f18) = true)
    (a19 : PySem.W.nsIn K mainGlobals "_is_run" = some (some (.ref f19)))
    (l19 : K.lookup f19 = some ⟨oc19, od19, .func (PySem.W.fnOf "_is_run" "_is_run" (defArgs s__is_run) (defBody s__is_run) (defScope s__is_run) .none kV19 dc19 pm19 an19 cd19 ct19), sl19⟩)
    (co19 : PySem.W.codeIn K cd19 "_is_run" = true)
    (ke19 : PySem.W.keepIn K (.ref f19) = true)
    (a20 : PySem.W.nsIn K mainGlobals "threaded" = some (some (.ref f20)))
    (l20 : K.lookup f20 = some ⟨oc20, od20, .func (PySem.W.fnOf "threaded" "threaded" (defArgs s_threaded) (defBody s_threaded) (defScope s_threaded) .none kV20 dc20 pm20 an20 cd20 ct20), sl20⟩)
    (co20 : PySem.W.codeIn K cd20 "threaded" = true)
    (ke20 : PySem.W.keepIn K (.ref f20) = true)
    (a21 : PySem.W.nsIn K mainGlobals "fewest_runs" = some (some (.ref f21)))
    (l21 : K.lookup f21 = some ⟨oc21, od21, .func (PySem.W.fnOf "fewest_runs" "fewest_runs" (defArgs s_fewest_runs) (defBody s_fewest_runs) (defScope s_fewest_runs) .none kV21 dc21 pm21 an21 cd21 ct21), sl21⟩)
    (co21 : PySem.W.codeIn K cd21 "fewest_runs" = true)
    (ke21 : PySem.W.keepIn K (.ref f21) = true)
    (a22 : PySem.W.nsIn K mainGlobals "_law_told" = some (some (.ref f22)))
    (l22 : K.lookup f22 = some ⟨oc22, od22, .func (PySem.W.fnOf "_law_told" "_law_told" (defArgs s__law_told) (defBody s__law_told) (defScope s__law_told) .none kV22 dc22 pm22 an22 cd22 ct22), sl22⟩)
    (co22 : PySem.W.codeIn K cd22 "_law_told" = true)
    (ke22 : PySem.W.keepIn K (.ref f22) = true)
    (a23 : PySem.W.nsIn K mainGlobals "_law_refusals" = some (some (.ref f23)))
    (l23 : K.lookup f23 = some ⟨oc23, od23, .func (PySem.W.fnOf "_law_refusals" "_law_refusals" (defArgs s__law_refusals) (defBody s__law_refusals) (defScope s__law_refusals) .none kV23 dc23 pm23 an23 cd23 ct23), sl23⟩)
    (co23 : PySem.W.codeIn K cd23 "_law_refusals" = true)
    (ke23 : PySem.W.keepIn K (.ref f23) = true)
    (a24 : PySem.W.nsIn K mainGlobals "_law_bent" = some (some (.ref f24)))
    (l24 : K.lookup f24 = some ⟨oc24, od24, .func (PySem.W.fnOf "_law_bent" "_law_bent" (defArgs s__law_bent) (defBody s__law_bent) (defScope s__law_bent) .none kV24 dc24 pm24 an24 cd24 ct24), sl24⟩)
    (co24 : PySem.W.codeIn K cd24 "_law_bent" = true)
    (ke24 : PySem.W.keepIn K (.ref f24) = true)
    (a25 : PySem.W.nsIn K mainGlobals "_law_reason" = some (some (.ref f25)))
    (l25 : K.lookup f25 = some ⟨oc25, od25, .func (PySem.W.fnOf "_law_reason" "_law_reason" (defArgs s__law_reason) (defBody s__law_reason) (defScope s__law_reason) .none kV25 dc25 pm25 an25 cd25 ct25), sl25⟩)
    (co25 : PySem.W.codeIn K cd25 "_law_reason" = true)
    (ke25 : PySem.W.keepIn K (.ref f25) = true)
    (a26 : PySem.W.nsIn K mainGlobals "_law_fewest" = some (some (.ref f26)))
    (l26 : K.lookup f26 = some ⟨oc26, od26, .func (PySem.W.fnOf "_law_fewest" "_law_fewest" (defArgs s__law_fewest) (defBody s__law_fewest) (defScope s__law_fewest) .none kV26 dc26 pm26 an26 cd26 ct26), sl26⟩)
    (co26 : PySem.W.codeIn K cd26 "_law_fewest" = true)
    (ke26 : PySem.W.keepIn K (.ref f26) = true)
    (a27 : PySem.W.nsIn K mainGlobals "law" = some (some (.ref f27)))
    (l27 : K.lookup f27 = some ⟨oc27, od27, .func (PySem.W.fnOf "law" "law" (defArgs s_law) (defBody s_law) (defScope s_law) .none kV27 dc27 pm27 an27 cd27 ct27), sl27⟩)
    (co27 : PySem.W.codeIn K cd27 "law" = true)
    (ke27 : PySem.W.keepIn K (.ref f27) = true)
    (xa_ArgumentError : PySem.W.nsIn K mainGlobals "ArgumentError" = some (some (.ref A_ArgumentError)))
    (xa_PaperError : PySem.W.nsIn K mainGlobals "PaperError" = some (some (.ref A_PaperError)))
    (xl_ArgumentError : K.lookup A_ArgumentError = some (excClassObj nm_ArgumentError q_ArgumentError A_ArgumentError N_ArgumentError bs_ArgumentError bm_ArgumentError true sn_ArgumentError sub_ArgumentError ab_ArgumentError col_ArgumentError dd_ArgumentError m0_ArgumentError m1_ArgumentError m2_ArgumentError m3_ArgumentError m5_ArgumentError "ValueError.__new__"))
    (xr_ArgumentError : PySem.HandSPX.refsVE bm_ArgumentError = true)
    (xs_ArgumentError : PySem.W.findIn K (.ref A_ArgumentError) "__setattr__" = some (some (.builtin "object.__setattr__")))
    (xi_ArgumentError : PySem.W.findIn K (.ref A_ArgumentError) "__init__" = some (some (.ref I_ArgumentError)))
    (xt_ArgumentError : PySem.W.typeIn K (.ref I_ArgumentError) = some (.type "function"))
    (yl_ArgumentError : K.lookup I_ArgumentError = some ⟨oc_ArgumentError, od_ArgumentError, .func (PySem.W.fnOf "__init__" "ArgumentError.__init__" (defArgs si_ArgumentError) (defBody si_ArgumentError) (defScope si_ArgumentError) .none kV_ArgumentError dc_ArgumentError pm_ArgumentError an_ArgumentError cd_ArgumentError ct_ArgumentError), sl_ArgumentError⟩)
    (yc_ArgumentError : PySem.W.codeIn K cd_ArgumentError "ArgumentError.__init__" = true)
    (yk_ArgumentError : PySem.W.keepIn K (.ref I_ArgumentError) = true)
    (xk_ArgumentError : PySem.W.keepIn K (.ref A_ArgumentError) = true)
    (xl_PaperError : K.lookup A_PaperError = some (excClassObj nm_PaperError q_PaperError A_PaperError N_PaperError bs_PaperError bm_PaperError true sn_PaperError sub_PaperError ab_PaperError col_PaperError dd_PaperError m0_PaperError m1_PaperError m2_PaperError m3_PaperError m5_PaperError "ValueError.__new__"))
    (xr_PaperError : PySem.HandSPX.refsVE bm_PaperError = true)
    (xs_PaperError : PySem.W.findIn K (.ref A_PaperError) "__setattr__" = some (some (.builtin "object.__setattr__")))
    (xi_PaperError : PySem.W.findIn K (.ref A_PaperError) "__init__" = some (some (.ref I_PaperError)))
    (xt_PaperError : PySem.W.typeIn K (.ref I_PaperError) = some (.type "function"))
    (yl_PaperError : K.lookup I_PaperError = some ⟨oc_PaperError, od_PaperError, .func (PySem.W.fnOf "__init__" "PaperError.__init__" (defArgs si_PaperError) (defBody si_PaperError) (defScope si_PaperError) .none kV_PaperError dc_PaperError pm_PaperError an_PaperError cd_PaperError ct_PaperError), sl_PaperError⟩)
    (yc_PaperError : PySem.W.codeIn K cd_PaperError "PaperError.__init__" = true)
    (yk_PaperError : PySem.W.keepIn K (.ref I_PaperError) = true)
    (xk_PaperError : PySem.W.keepIn K (.ref A_PaperError) = true)
    (xg_ArgumentError : PySem.W.findIn K (.ref A_ArgumentError) "__getattribute__" = some (some (.builtin "BaseException.__getattribute__")))
    (xh_ArgumentError : PySem.W.findIn K (.ref A_ArgumentError) "__getattr__" = some none)
    (xn_ArgumentError : PySem.W.findIn K (.ref A_ArgumentError) "reason" = some none)
    (xd_ArgumentError : PySem.W.hasDictIn K A_ArgumentError = true)
    (xg_PaperError : PySem.W.findIn K (.ref A_PaperError) "__getattribute__" = some (some (.builtin "BaseException.__getattribute__")))
    (xh_PaperError : PySem.W.findIn K (.ref A_PaperError) "__getattr__" = some none)
    (xn_PaperError : PySem.W.findIn K (.ref A_PaperError) "reason" = some none)
    (xd_PaperError : PySem.W.hasDictIn K A_PaperError = true)
    (xe_ArgumentError : PySem.W.subIn K (.ref A_ArgumentError) (.type "BaseException") = some true)
    (xe_PaperError : PySem.W.subIn K (.ref A_PaperError) (.type "BaseException") = some true)
    (xy_ArgumentError : PySem.W.typeIn K (.ref A_ArgumentError) = some (.type "type"))
    (xy_PaperError : PySem.W.typeIn K (.ref A_PaperError) = some (.type "type"))
    (xc_ArgumentError : PySem.W.isClsIn K A_ArgumentError = true)
    (xc_PaperError : PySem.W.isClsIn K A_PaperError = true)
    (xq_ArgumentError_ArgumentError : PySem.W.subIn K (.ref A_ArgumentError) (.ref A_ArgumentError) = some true)
    (xq_PaperError_ArgumentError : PySem.W.subIn K (.ref A_PaperError) (.ref A_ArgumentError) = some false)
    (xq_ArgumentError_PaperError : PySem.W.subIn K (.ref A_ArgumentError) (.ref A_PaperError) = some false)
    (xq_PaperError_PaperError : PySem.W.subIn K (.ref A_PaperError) (.ref A_PaperError) = some true) :
    ∃ fd : FuncData, (∀ (s : Shared) (u : Value), BindsTo s fd ⟨[u], []⟩ [("script", u)]) ∧ ∃ C : Cls0, ∀ base : Heap, K.In base → base.Ns mainGlobals mg → FnG l.prog w K mg base 9 fa fd ["script"] (spM K C 1 m) := by
  have e := hfa.symm.trans (PySem.W.mg_of X G a27)
  cases e
  exact ⟨_, fun s v => .of_eq rfl, _, fun base _ _ => lg _ _ _ _ _ _ _ (top_mk X G c_MAX_ENDS c_MAX_SHAFTS d__STEPS dt__STEPS z_abs z_all z_bool z_int z_isinstance z_len z_list z_max z_min z_range z_repr z_reversed z_str z_sum z_tuple z_type a0 l0 co0 ke0 a1 l1 co1 ke1 a2 l2 co2 ke2 a3 l3 co3 ke3 a4 l4 co4 ke4 a5 l5 co5 ke5 a6 l6 co6 ke6 a7 l7 co7 ke7 a8 l8 co8 ke8 a9 l9 co9 ke9 a10 l10 co10 ke10 a11 l11 co11 ke11 a12 l12 co12 ke12 a13 l13 co13 ke13 a14 l14 co14 ke14 a15 l15 co15 ke15 a16 l16 co16 ke16 a17 l17 co17 ke17 a18 l18 co18 ke18 a19 l19 co19 ke19 a20 l20 co20 ke20 a21 l21 co21 ke21 a22 l22 co22 ke22 a23 l23 co23 ke23 a24 l24 co24 ke24 a25 l25 co25 ke25 a26 l26 co26 ke26 a27 l27 co27 ke27 xa_ArgumentError xa_PaperError xl_ArgumentError xr_ArgumentError xs_ArgumentError xi_ArgumentError xt_ArgumentError yl_ArgumentError yc_ArgumentError yk_ArgumentError xk_ArgumentError xl_PaperError xr_PaperError xs_PaperError xi_PaperError xt_PaperError yl_PaperError yc_PaperError yk_PaperError xk_PaperError xg_ArgumentError xh_ArgumentError xn_ArgumentError xd_ArgumentError xg_PaperError xh_PaperError xn_PaperError xd_PaperError xe_ArgumentError xe_PaperError xy_ArgumentError xy_PaperError xc_ArgumentError xc_PaperError xq_ArgumentError_ArgumentError xq_PaperError_ArgumentError xq_ArgumentError_PaperError xq_PaperError_PaperError base) (fun_mk (st := s_law) l27 co27 ke27)⟩
end Lk11

set_option autoImplicit false
set_option maxRecDepth 100000
namespace R11
/-! ### threadings by runs, plain -/
/-- the rest of an int -/
def wn (a : Int) (S : Nat) : Nat := (a % (S : Int)).toNat
theorem wn_cast {a : Int} {S : Nat} (hS : 1 ≤ S) : ((wn a S : Nat) : Int) = a % (S : Int) := Int.toNat_of_nonneg (Int.emod_nonneg _ (by omega))
theorem wn_lt {a : Int} {S : Nat} (hS : 1 ≤ S) : wn a S < S := by
  have h1 := wn_cast (a := a) hS
  have h2 := Int.emod_lt_of_pos a (show (0 : Int) < (S : Int) by omega)
  omega
theorem wn_eq {a b : Int} {S : Nat} (h : a % (S : Int) = b % (S : Int)) : wn a S = wn b S := by unfold wn; rw [h]
theorem wn_self {a S : Nat} (h : a < S) : wn (a : Nat) S = a := by
  unfold wn
  rw [Int.emod_eq_of_lt (by omega) (by omega)]
  rfl
theorem wn_add {a b : Int} {S : Nat} (hS : 1 ≤ S) : wn ((wn a S : Nat) + b) S = wn (a + b) S := by
  refine wn_eq ?_
  rw [wn_cast hS, Int.emod_add_emod]
/-- from f on m ends run on by st -/
def Run (T : Nat → Nat) (S : Nat) (st : Int) (f m : Nat) : Prop := ∀ k, k + 1 < m → wn ((T (f + k) : Nat) + st) S = T (f + k + 1)
variable {T : Nat → Nat} {S n : Nat} {st : Int} {f m : Nat}
theorem Run.le (h : Run T S st f m) {m' : Nat} (hm : m' ≤ m) : Run T S st f m' := fun k hk => h k (by omega)
theorem Run.tail (h : Run T S st f m) {j : Nat} (hj : j ≤ m) : Run T S st (f + j) (m - j) := fun k hk => by
  have := h (j + k) (by omega)
  rw [Nat.add_assoc f j k]
  exact this
theorem run_one : Run T S st f 1 := fun k hk => by omega
/-- the k-th of a run -/
theorem Run.at (hS : 1 ≤ S) (hT : T f < S) (h : Run T S st f m) : ∀ k, k < m → T (f + k) = wn ((T f : Nat) + (k : Nat) * st) S
  | 0, _ => by simp [wn_self hT]
  | k + 1, hk => by
    have e1 := h.at hS hT k (by omega)
    have e2 := h k (by omega)
    rw [← Nat.add_assoc, ← e2, e1, wn_add hS]
    refine wn_eq ?_
    congr 1
    rw [Int.natCast_succ, Int.add_mul]
    omega
theorem run_of (hS : 1 ≤ S) (hT : T f < S) (h : ∀ k, k < m → T (f + k) = wn ((T f : Nat) + (k : Nat) * st) S) : Run T S st f m := fun k hk => by
  have e1 := h k (by omega)
  have e2 := h (k + 1) hk
  rw [show f + k + 1 = f + (k + 1) by omega, e2, e1, wn_add hS]
  refine wn_eq ?_
  congr 1
  rw [Int.natCast_succ, Int.add_mul]
  omega
/-- the longest -/
structure IsLen (T : Nat → Nat) (S n : Nat) (st : Int) (f m : Nat) : Prop where
  pos : 1 ≤ m
  le : f + m ≤ n
  run : Run T S st f m
  max : f + m < n → ¬ Run T S st f (m + 1)
theorem IsLen.iff (h : IsLen T S n st f m) {j : Nat} (hj : f + j ≤ n) : Run T S st f j ↔ j ≤ m := by
  constructor
  · intro r
    apply Classical.byContradiction
    intro hn
    exact h.max (by omega) (r.le (by omega))
  · intro hjm; exact h.run.le hjm
theorem len_ex (hf : f < n) : ∃ m, IsLen T S n st f m := by
  have key : ∀ d m, n - (f + m) = d → f + m ≤ n → 1 ≤ m → Run T S st f m → ∃ m, IsLen T S n st f m := by
    intro d
    induction d with
    | zero => intro m h1 h2 h3 h4; exact ⟨m, h3, h2, h4, fun h => by omega⟩
    | succ d ih =>
      intro m h1 h2 h3 h4
      by_cases hr : Run T S st f (m + 1)
      · exact ih (m + 1) (by omega) (by omega) (by omega) hr
      · exact ⟨m, h3, h2, h4, fun _ => hr⟩
  exact key _ 1 rfl (by omega) (by omega) run_one
open Classical in
noncomputable def len (T : Nat → Nat) (S n : Nat) (st : Int) (f : Nat) : Nat := if h : ∃ m, IsLen T S n st f m then h.choose else 1
theorem len_is (hf : f < n) : IsLen T S n st f (len T S n st f) := by
  have h := len_ex (T := T) (S := S) (st := st) hf
  unfold len
  rw [dif_pos h]
  exact h.choose_spec
/-- the three words, by number -/
def stp : Fin 3 → Int
  | 0 => 1
  | 1 => -1
  | 2 => 0
noncomputable def cnt (T : Nat → Nat) (S n f : Nat) : Nat := max (max (len T S n 1 f) (len T S n (-1) f)) (len T S n 0 f)
theorem cnt_pos (hf : f < n) : 1 ≤ cnt T S n f := by
  have := (len_is (T := T) (S := S) (st := 1) hf).pos
  unfold cnt; omega
theorem cnt_le (hf : f < n) : f + cnt T S n f ≤ n := by
  have h1 := (len_is (T := T) (S := S) (st := 1) hf).le
  have h2 := (len_is (T := T) (S := S) (st := -1) hf).le
  have h3 := (len_is (T := T) (S := S) (st := 0) hf).le
  unfold cnt; omega
/-- so many ends can be one run -/
def Any (T : Nat → Nat) (S f m : Nat) : Prop := Run T S 1 f m ∨ Run T S (-1) f m ∨ Run T S 0 f m
theorem any_iff (hf : f < n) {j : Nat} (hj : f + j ≤ n) : Any T S f j ↔ j ≤ cnt T S n f := by
  unfold Any cnt
  rw [(len_is hf).iff hj, (len_is hf).iff hj, (len_is hf).iff hj]
  omega
theorem cnt_tail (hf : f < n) {j : Nat} (hj : j < cnt T S n f) : cnt T S n f ≤ cnt T S n (f + j) + j := by
  have h1 := cnt_le (T := T) (S := S) hf
  have h2 := (any_iff (T := T) (S := S) hf h1).mpr (Nat.le_refl _)
  have h3 : Any T S (f + j) (cnt T S n f - j) := by
    rcases h2 with h | h | h
    · exact .inl (h.tail (by omega))
    · exact .inr (.inl (h.tail (by omega)))
    · exact .inr (.inr (h.tail (by omega)))
  have h4 := (any_iff (T := T) (S := S) (n := n) (f := f + j) (j := cnt T S n f - j) (by omega) (by omega)).mp h3
  omega
/-- the least of F (f + 1) .. F (f + m + 1) -/
def down (F : Nat → Nat) (f : Nat) : Nat → Nat
  | 0 => F (f + 1)
  | m + 1 => min (down F f m) (F (f + m + 2))
theorem down_le (F : Nat → Nat) (f : Nat) : ∀ m j, j ≤ m → down F f m ≤ F (f + j + 1)
  | 0, j, h => by have : j = 0 := by omega
                  subst this; exact Nat.le_refl _
  | m + 1, j, h => by
    unfold down
    by_cases hj : j ≤ m
    · have := down_le F f m j hj; omega
    · have : j = m + 1 := by omega
      subst this
      rw [show f + (m + 1) + 1 = f + m + 2 by omega]; omega
theorem down_ex (F : Nat → Nat) (f : Nat) : ∀ m, ∃ j, j ≤ m ∧ down F f m = F (f + j + 1)
  | 0 => ⟨0, Nat.le_refl _, rfl⟩
  | m + 1 => by
    obtain ⟨j, h1, h2⟩ := down_ex F f m
    unfold down
    by_cases h : down F f m ≤ F (f + m + 2)
    · exact ⟨j, by omega, by rw [Nat.min_eq_left h]; exact h2⟩
    · exact ⟨m + 1, by omega, by rw [Nat.min_eq_right (by omega)]; rfl⟩
theorem down_congr {F G : Nat → Nat} {f : Nat} : ∀ m, (∀ j, f < j → F j = G j) → down F f m = down G f m
  | 0, h => h _ (by omega)
  | m + 1, h => by unfold down; rw [down_congr m h, h _ (by omega)]
/-- the fewest runs that make the ends from f on -/
noncomputable def E (T : Nat → Nat) (S n f : Nat) : Nat := if f < n then 1 + down (fun j => if f < j then E T S n j else 0) f (cnt T S n f - 1) else 0
termination_by n - f
decreasing_by omega
theorem E_end {f : Nat} (h : n ≤ f) : E T S n f = 0 := by
  rw [E, if_neg (by omega)]
theorem E_eq {f : Nat} (hf : f < n) : E T S n f = 1 + down (E T S n) f (cnt T S n f - 1) := by
  rw [E, if_pos hf]
  congr 1
  exact down_congr _ fun j hj => if_pos hj
theorem E_le {f j : Nat} (hf : f < n) (h1 : 1 ≤ j) (h2 : j ≤ cnt T S n f) : E T S n f ≤ 1 + E T S n (f + j) := by
  rw [E_eq hf]
  have := down_le (E T S n) f (cnt T S n f - 1) (j - 1) (by omega)
  rw [show f + (j - 1) + 1 = f + j by omega] at this
  omega
theorem E_mono : ∀ d f g, n - f = d → f ≤ g → E T S n g ≤ E T S n f := by
  intro d
  induction d using Nat.strongRecOn with
  | ind d ih =>
    intro f g hd hfg
    by_cases hg : n ≤ g
    · rw [E_end hg]; omega
    · by_cases hfg' : f = g
      · subst hfg'; exact Nat.le_refl _
      · have hf : f < n := by omega
        obtain ⟨j, h1, h2⟩ := down_ex (E T S n) f (cnt T S n f - 1)
        have e := E_eq (T := T) (S := S) hf
        rw [h2] at e
        have hc := cnt_pos (T := T) (S := S) hf
        by_cases hgj : g < f + j + 1
        · have ht := cnt_tail (T := T) (S := S) hf (j := g - f) (by omega)
          rw [show f + (g - f) = g by omega] at ht
          have := E_le (T := T) (S := S) (n := n) (f := g) (j := f + j + 1 - g) (by omega) (by omega) (by omega)
          rw [show g + (f + j + 1 - g) = f + j + 1 by omega] at this
          omega
        · have := ih (n - (f + j + 1)) (by omega) (f + j + 1) g rfl (by omega)
          omega
/-- the longest run is best -/
theorem E_greedy {f : Nat} (hf : f < n) : E T S n f = 1 + E T S n (f + cnt T S n f) := by
  have hc := cnt_pos (T := T) (S := S) hf
  have h1 := E_le (T := T) (S := S) hf hc (Nat.le_refl _)
  have e := E_eq (T := T) (S := S) hf
  obtain ⟨j, h2, h3⟩ := down_ex (E T S n) f (cnt T S n f - 1)
  rw [h3] at e
  have := E_mono (T := T) (S := S) (n := n) _ (f + j + 1) (f + cnt T S n f) rfl (by omega)
  omega
end R11

set_option Elab.async false
set_option linter.all false
set_option maxRecDepth 100000
set_option maxHeartbeats 4000000
set_option autoImplicit false
namespace Sh
open PySem L2
/-! ### a second layer: values that are wholly values (lists too), no store; a plain function of them for each piece of the text -/
inductive Q where
  | non | bl (b : Bool) | int (i : Int) | str (x : Str) | tup (xs : List Q) | lst (xs : List Q) | atr | drs (ns : List Int) | scr | rng (lo hi st : Int) | dic (ks : List DKey) (xs : List Q) | gd (kvs : List (Str × Int))
/-- how many draws were taken -/
abbrev Sq := Nat
abbrev Qx := Str × List (Str × Q)
abbrev Rq (α : Type) := Option (Except Qx α × Sq)
abbrev RhoQ := List (Option Q)
abbrev EQ (α : Type) := RhoQ → Sq → Rq α
def bindQ {α β : Type} (r : Rq α) (k : α → Sq → Rq β) : Rq β :=
  match r with
  | none => none
  | some (.ok a, s) => k a s
  | some (.error e, s) => some (.error e, s)
abbrev okQ {α : Type} (a : α) (s : Sq) : Rq α := some (.ok a, s)
@[simp] theorem bindQ_none {α β : Type} (k : α → Sq → Rq β) : bindQ none k = none := rfl
@[simp] theorem bindQ_ok {α β : Type} (a : α) (s : Sq) (k : α → Sq → Rq β) : bindQ (some (.ok a, s)) k = k a s := rfl
@[simp] theorem bindQ_error {α β : Type} (e : Qx) (s : Sq) (k : α → Sq → Rq β) : bindQ (some (.error e, s)) k = some (.error e, s) := rfl
def liftQ {α : Type} (o : Option α) (s : Sq) : Rq α := match o with
  | some z => okQ z s
  | none => none
@[simp] theorem liftQ_some {α : Type} (z : α) (s : Sq) : liftQ (some z) s = okQ z s := rfl
@[simp] theorem liftQ_none {α : Type} (s : Sq) : liftQ (none : Option α) s = none := rfl
/-- where the draws stand -/
structure Cw where
  la : Nat
  ld : Nat
  ns : List Int
mutual
inductive RQ (c : Cw) (S : Store) (O : Nat → Prop) : Q → D → Prop
  | non : RQ c S O .non .non
  | bl (b : Bool) : RQ c S O (.bl b) (.bl b)
  | int (i : Int) : RQ c S O (.int i) (.int i)
  | str (x : Str) : RQ c S O (.str x) (.str x)
  | tup {qs : List Q} {ds : List D} : RQs c S O qs ds → RQ c S O (.tup qs) (.tup ds)
  | lst {qs : List Q} {l : Nat} {ds : List D} : ¬ O l → S[l]? = some (.lst ds) → RQs c S O qs ds → RQ c S O (.lst qs) (.ref l)
  | scr {ds : List D} : RQ c S O .scr (.fl ds)
  | atr : RQ c S O .atr (.ref c.la)
  | drs : RQ c S O (.drs c.ns) (.ref c.ld)
  | rng (lo hi st : Int) : RQ c S O (.rng lo hi st) (.rng lo hi st)
  | gd (kvs : List (Str × Int)) : RQ c S O (.gd kvs) (.gd kvs)
  | dic {ks : List DKey} {qs : List Q} {l : Nat} {ds : List D} : ¬ O l → dicO S[l]? = some (ks, ds) → ks.length = qs.length → RQs c S O qs ds → RQ c S O (.dic ks qs) (.ref l)
inductive RQs (c : Cw) (S : Store) (O : Nat → Prop) : List Q → List D → Prop
  | nil : RQs c S O [] []
  | cons {q : Q} {qs : List Q} {d : D} {ds : List D} : RQ c S O q d → RQs c S O qs ds → RQs c S O (q :: qs) (d :: ds)
end
structure Gd (c : Cw) (S : Store) (O : Nat → Prop) (s : Sq) : Prop where
  lt : ∀ l, O l → l < S.length
  ola : O c.la
  old : ¬ O c.ld
  ha : S[c.la]? = some (.lst [.int s])
  hd : S[c.ld]? = some (.lst (c.ns.map D.int))
structure Stp (c : Cw) (S T : Store) : Prop where
  le : S.length ≤ T.length
  fr : ∀ l o, l ≠ c.la → S[l]? = some o → T[l]? = some o
theorem Stp.refl {c : Cw} {S : Store} : Stp c S S := ⟨Nat.le_refl _, fun _ _ _ h => h⟩
theorem Stp.trans {c : Cw} {S T U : Store} (a : Stp c S T) (b : Stp c T U) : Stp c S U := ⟨Nat.le_trans a.le b.le, fun l o h e => b.fr l o h (a.fr l o h e)⟩
theorem Stp.put {c : Cw} {S : Store} (o : SO) : Stp c S (S ++ [o]) := ⟨by simp, fun l _ _ e => by rw [List.getElem?_append_left (List.getElem?_eq_some_iff.mp e).1]; exact e⟩
theorem Gd.put {c : Cw} {S : Store} {O : Nat → Prop} {s : Sq} (g : Gd c S O s) (o : SO) : Gd c (S ++ [o]) O s :=
  ⟨fun l h => by have := g.lt l h; simp; omega, g.ola, g.old, by rw [List.getElem?_append_left (g.lt _ g.ola)]; exact g.ha, by rw [List.getElem?_append_left (List.getElem?_eq_some_iff.mp g.hd).1]; exact g.hd⟩
theorem dicO_mv {S T : Store} {l : Nat} {ks : List DKey} {ds : List D} (h : dicO S[l]? = some (ks, ds)) (k : ∀ o, S[l]? = some o → T[l]? = some o) : dicO T[l]? = some (ks, ds) := by
  rcases dicO_some h with e | e
  · rw [k _ e]; rfl
  · rw [k _ e]; rfl
mutual
theorem RQ.mv {c : Cw} {S T : Store} {O O' : Nat → Prop} (h : ∀ l o, ¬ O l → S[l]? = some o → T[l]? = some o ∧ ¬ O' l) : ∀ {q : Q} {d : D}, RQ c S O q d → RQ c T O' q d
  | .non, _, r => by cases r; exact .non
  | .bl b, _, r => by cases r; exact .bl b
  | .int b, _, r => by cases r; exact .int b
  | .str b, _, r => by cases r; exact .str b
  | .tup qs, _, r => by cases r with | tup rs => exact .tup (RQs.mv h rs)
  | .lst qs, _, r => by
    cases r with
    | lst h1 h2 rs => exact .lst (h _ _ h1 h2).2 (h _ _ h1 h2).1 (RQs.mv h rs)
  | .atr, _, r => by cases r; exact .atr
  | .drs _, _, r => by cases r; exact .drs
  | .scr, _, r => by cases r; exact .scr
  | .rng _ _ _, _, r => by cases r; exact .rng _ _ _
  | .gd _, _, r => by cases r; exact .gd _
  | .dic ks qs, _, r => by
    cases r with
    | dic h1 h2 hl rs =>
      rename_i l ds
      have e : ∃ o, S[l]? = some o := by
        rcases dicO_some h2 with e | e
        · exact ⟨_, e⟩
        · exact ⟨_, e⟩
      obtain ⟨o, e⟩ := e
      exact .dic (h _ _ h1 e).2 (dicO_mv h2 fun o e => (h _ _ h1 e).1) hl (RQs.mv h rs)
theorem RQs.mv {c : Cw} {S T : Store} {O O' : Nat → Prop} (h : ∀ l o, ¬ O l → S[l]? = some o → T[l]? = some o ∧ ¬ O' l) : ∀ {qs : List Q} {ds : List D}, RQs c S O qs ds → RQs c T O' qs ds
  | [], _, r => by cases r; exact .nil
  | _ :: _, _, r => by cases r with | cons r1 r2 => exact .cons (RQ.mv h r1) (RQs.mv h r2)
end
section
variable {c : Cw} {S T : Store} {O O' : Nat → Prop}
theorem Stp.mv (st : Stp c S T) (h : O c.la) : ∀ l o, ¬ O l → S[l]? = some o → T[l]? = some o ∧ ¬ O l := fun l o h1 h2 => ⟨st.fr l o (fun e => h1 (e ▸ h)) h2, h1⟩
theorem RQ.stp (st : Stp c S T) (h : O c.la) {q : Q} {d : D} (r : RQ c S O q d) : RQ c T O q d := r.mv (st.mv h)
theorem RQs.stp (st : Stp c S T) (h : O c.la) {q : List Q} {d : List D} (r : RQs c S O q d) : RQs c T O q d := r.mv (st.mv h)
theorem RQ.wk (h : ∀ l, O' l → O l) {q : Q} {d : D} (r : RQ c S O q d) : RQ c S O' q d := r.mv fun l o h1 h2 => ⟨h2, fun z => h1 (h l z)⟩
theorem RQs.wk (h : ∀ l, O' l → O l) {q : List Q} {d : List D} (r : RQs c S O q d) : RQs c S O' q d := r.mv fun l o h1 h2 => ⟨h2, fun z => h1 (h l z)⟩
theorem RQs.length : ∀ {qs : List Q} {ds : List D}, RQs c S O qs ds → qs.length = ds.length
  | [], _, r => by cases r; rfl
  | _ :: _, _, r => by cases r with | cons _ r2 => simp [RQs.length r2]
theorem RQs.append : ∀ {xs ys : List Q} {us vs : List D}, RQs c S O xs us → RQs c S O ys vs → RQs c S O (xs ++ ys) (us ++ vs)
  | [], _, _, _, r, h => by cases r; exact h
  | _ :: _, _, _, _, r, h => by cases r with | cons r1 r2 => exact .cons r1 (RQs.append r2 h)
theorem RQs.get : ∀ {qs : List Q} {ds : List D} {i : Nat} {q : Q}, RQs c S O qs ds → qs[i]? = some q → ∃ d, ds[i]? = some d ∧ RQ c S O q d
  | [], _, _, _, _, e => by simp at e
  | _ :: _, _, 0, _, r, e => by
    cases r with
    | cons r1 _ => simp at e; subst e; exact ⟨_, rfl, r1⟩
  | _ :: _, _, i + 1, _, r, e => by
    cases r with
    | cons _ r2 =>
      obtain ⟨d, e1, r⟩ := RQs.get (i := i) r2 (by simpa using e)
      exact ⟨d, by simpa using e1, r⟩
theorem RQs.take : ∀ {xs : List Q} {us : List D} (m : Nat), RQs c S O xs us → RQs c S O (xs.take m) (us.take m)
  | _, _, 0, _ => by simp; exact .nil
  | [], _, m + 1, r => by cases r; exact .nil
  | _ :: _, _, m + 1, r => by cases r with | cons r1 r2 => exact .cons r1 (RQs.take m r2)
theorem RQs.drop : ∀ {xs : List Q} {us : List D} (m : Nat), RQs c S O xs us → RQs c S O (xs.drop m) (us.drop m)
  | _, _, 0, r => by simpa using r
  | [], _, m + 1, r => by cases r; exact .nil
  | _ :: _, _, m + 1, r => by cases r with | cons _ r2 => exact RQs.drop m r2
theorem RQs.set {q : Q} {d : D} (r : RQ c S O q d) : ∀ {xs : List Q} {us : List D} (i : Nat), RQs c S O xs us → RQs c S O (xs.set i q) (us.set i d)
  | [], _, _, h => by cases h; exact .nil
  | _ :: _, _, 0, h => by cases h with | cons _ h2 => exact .cons r h2
  | _ :: _, _, i + 1, h => by cases h with | cons h1 h2 => exact .cons h1 (RQs.set r i h2)
theorem RQs.reverse : ∀ {xs : List Q} {us : List D}, RQs c S O xs us → RQs c S O xs.reverse us.reverse
  | [], _, h => by cases h; exact .nil
  | _ :: _, _, h => by
    cases h with
    | cons h1 h2 => simp only [List.reverse_cons]; exact (RQs.reverse h2).append (.cons h1 .nil)
theorem RQs.flat : ∀ {xs : List (List Q)} {us : List (List D)}, (xs.length = us.length) → (∀ (i : Nat) (x : List Q) (u : List D), xs[i]? = some x → us[i]? = some u → RQs c S O x u) → RQs c S O xs.flatten us.flatten
  | [], [], _, _ => .nil
  | x :: xs, u :: us, e, h => by
    simp only [List.flatten_cons]
    exact (h 0 x u rfl rfl).append (RQs.flat (by simpa using e) fun i x u e1 e2 => h (i + 1) x u (by simpa using e1) (by simpa using e2))
  | [], _ :: _, e, _ => by simp at e
  | _ :: _, [], e, _ => by simp at e
end
/-- an exception -/
def RX (c : Cw) (S : Store) (O : Nat → Prop) (e : Qx) (x : Ex) : Prop := e.1 = x.1 ∧ e.2.map (·.1) = x.2.map (·.1) ∧ RQs c S O (e.2.map (·.2)) (x.2.map (·.2))
theorem RX.mv {c : Cw} {S T : Store} {O O' : Nat → Prop} (h : ∀ l o, ¬ O l → S[l]? = some o → T[l]? = some o ∧ ¬ O' l) {e : Qx} {x : Ex} (r : RX c S O e x) : RX c T O' e x := ⟨r.1, r.2.1, r.2.2.mv h⟩

/-! ### what stands behind a piece -/
def PostQ {α β : Type} (c : Cw) (O : Nat → Prop) (S : Store) (RA : Store → β → α → Prop) (r : Rs α) (q : Rq β) : Prop := match q with
  | none => True
  | some (.ok v, s') => ∃ T a, r = some (.ok a, T) ∧ Stp c S T ∧ Gd c T O s' ∧ RA T v a
  | some (.error e, s') => ∃ T x, r = some (.error x, T) ∧ Stp c S T ∧ Gd c T O s' ∧ RX c T O e x
theorem PostQ.up {α β : Type} {c : Cw} {O : Nat → Prop} {S T : Store} {RA : Store → β → α → Prop} {r : Rs α} {q : Rq β} (st : Stp c S T) (h : PostQ c O T RA r q) : PostQ c O S RA r q := by
  match q, h with
  | none, _ => trivial
  | some (.ok v, s'), ⟨U, a, e, s1, g, ra⟩ => exact ⟨U, a, e, st.trans s1, g, ra⟩
  | some (.error v, s'), ⟨U, a, e, s1, g, ra⟩ => exact ⟨U, a, e, st.trans s1, g, ra⟩
theorem PostQ.bind {α β γ δ : Type} {c : Cw} {O : Nat → Prop} {S : Store} {RA : Store → β → α → Prop} {RB : Store → δ → γ → Prop} {r : Rs α} {q : Rq β} {k : α → Store → Rs γ} {k' : β → Sq → Rq δ} (h : PostQ c O S RA r q)
    (hk : ∀ T a v s', Stp c S T → Gd c T O s' → RA T v a → PostQ c O T RB (k a T) (k' v s')) : PostQ c O S RB (bindR r k) (bindQ q k') := by
  match q, h with
  | none, _ => trivial
  | some (.ok v, s'), ⟨U, a, e, s1, g, ra⟩ => subst e; exact (hk U a v s' s1 g ra).up s1
  | some (.error v, s'), ⟨U, a, e, s1, g, ra⟩ => subst e; exact ⟨U, a, rfl, s1, g, ra⟩
theorem PostQ.ok {α β : Type} {c : Cw} {O : Nat → Prop} {S : Store} {RA : Store → β → α → Prop} {a : α} {v : β} {s : Sq} (g : Gd c S O s) (h : RA S v a) : PostQ c O S RA (okR a S) (okQ v s) := ⟨S, a, rfl, .refl, g, h⟩
theorem PostQ.mono {α β : Type} {c : Cw} {O : Nat → Prop} {S : Store} {RA RB : Store → β → α → Prop} {r : Rs α} {q : Rq β} (h : PostQ c O S RA r q) (k : ∀ T v a, RA T v a → RB T v a) : PostQ c O S RB r q := by
  match q, h with
  | none, _ => trivial
  | some (.ok v, s'), ⟨U, a, e, s1, g, ra⟩ => exact ⟨U, a, e, s1, g, k _ _ _ ra⟩
  | some (.error v, s'), h => exact h
abbrev RV (c : Cw) (O : Nat → Prop) : Store → Q → D → Prop := fun T v d => RQ c T O v d
abbrev RVs (c : Cw) (O : Nat → Prop) : Store → List Q → List D → Prop := fun T v d => RQs c T O v d
abbrev REq {α : Type} : Store → α → α → Prop := fun _ a b => a = b

/-! ### the frame's slots; some hold a list of their own; one alone may hold a list of lists, all its own (i and i + 1000 are told then) -/
structure Deep (c : Cw) (S : Store) (O0 O : Nat → Prop) (q : Q) (od : Option (Option D)) (l : Nat) (ls : List Nat) (rows : List (List Q)) : Prop where
  q : q = .lst (rows.map .lst)
  r : od = some (some (.ref l))
  s : S[l]? = some (.lst (ls.map .ref))
  len : ls.length = rows.length
  row : ∀ (j lj : Nat) (rj : List Q), ls[j]? = some lj → rows[j]? = some rj → ∃ ds, S[lj]? = some (.lst ds) ∧ RQs c S O rj ds
  inn : ∀ lj ∈ ls, O lj ∧ ¬ O0 lj ∧ lj ≠ l
  nd : ls.Nodup
  o : O l
  o0 : ¬ O0 l
/-- a thing of one's own: a list, a dict -/
inductive OV : Q → SO → List Q → List D → Prop
  | lst (xs : List Q) (ds : List D) : OV (.lst xs) (.lst ds) xs ds
  | dic (ks : List DKey) (xs : List Q) (ds : List D) : ks.length = xs.length → OV (.dic ks xs) (.dic ks ds) xs ds
theorem OV.rq {c : Cw} {S : Store} {O' : Nat → Prop} {q : Q} {so : SO} {xs : List Q} {ds : List D} {l : Nat} (v : OV q so xs ds) (hn : ¬ O' l) (h : S[l]? = some so) (r : RQs c S O' xs ds) : RQ c S O' q (.ref l) := by
  cases v with
  | lst => exact .lst hn h r
  | dic ks _ _ hl => exact .dic hn (by rw [h]; rfl) hl r
structure Env (c : Cw) (S : Store) (O0 O : Nat → Prop) (ow : List Nat) (ρq : RhoQ) (ρ : Rho) : Prop where
  len : ρq.length = ρ.length
  sm : ρq.length ≤ 1000
  val : ∀ i q, i ∉ ow → ρq[i]? = some (some q) → ∃ d, ρ[i]? = some (some d) ∧ RQ c S O q d
  own : ∀ i q, i < 1000 → i ∈ ow → i + 1000 ∉ ow → ρq[i]? = some (some q) → ∃ l so xs ds, OV q so xs ds ∧ ρ[i]? = some (some (.ref l)) ∧ S[l]? = some so ∧ RQs c S O xs ds ∧ O l ∧ ¬ O0 l
  dep : ∀ i q, i + 1000 ∈ ow → ρq[i]? = some (some q) → ∃ l ls rows, Deep c S O0 O q ρ[i]? l ls rows
  cl : ∀ i, i + 1000 ∈ ow → i ∈ ow ∧ (∀ j ∈ ow, j = i ∨ j = i + 1000) ∧ i < 1000
  dis : ∀ i j q q' l, i < 1000 → j < 1000 → i ∈ ow → j ∈ ow → ρq[i]? = some (some q) → ρq[j]? = some (some q') → ρ[i]? = some (some (.ref l)) → ρ[j]? = some (some (.ref l)) → i = j
  sub : ∀ l, O0 l → O l
  ola : O0 c.la
theorem Deep.mv {c : Cw} {S T : Store} {O0 O O0' O' : Nat → Prop} {q : Q} {od : Option (Option D)} {l : Nat} {ls : List Nat} {rows : List (List Q)} (d : Deep c S O0 O q od l ls rows) (hS : ∀ k o, (k = l ∨ k ∈ ls) → S[k]? = some o → T[k]? = some o) (hR : ∀ xs ds, RQs c S O xs ds → RQs c T O' xs ds) (hO : ∀ k, (k = l ∨ k ∈ ls) → O k ∧ ¬ O0 k → O' k ∧ ¬ O0' k) : Deep c T O0' O' q od l ls rows where
  q := d.q
  r := d.r
  s := hS l _ (.inl rfl) d.s
  len := d.len
  row := fun j lj rj h1 h2 => let ⟨ds, h3, h4⟩ := d.row j lj rj h1 h2; ⟨ds, hS lj _ (.inr (List.mem_of_getElem? h1)) h3, hR _ _ h4⟩
  inn := fun lj h => let ⟨a, b, e⟩ := d.inn lj h; let ⟨a', b'⟩ := hO lj (.inr h) ⟨a, b⟩; ⟨a', b', e⟩
  nd := d.nd
  o := (hO l (.inl rfl) ⟨d.o, d.o0⟩).1
  o0 := (hO l (.inl rfl) ⟨d.o, d.o0⟩).2
theorem Deep.no0 {c : Cw} {S : Store} {O0 O : Nat → Prop} {q : Q} {od : Option (Option D)} {l : Nat} {ls : List Nat} {rows : List (List Q)} (d : Deep c S O0 O q od l ls rows) : ∀ k, (k = l ∨ k ∈ ls) → O k ∧ ¬ O0 k := fun k h => by
  rcases h with rfl | h
  · exact ⟨d.o, d.o0⟩
  · exact ⟨(d.inn k h).1, (d.inn k h).2.1⟩
/-- all of it, let go -/
theorem Deep.rq {c : Cw} {S : Store} {O0 O O' : Nat → Prop} {q : Q} {od : Option (Option D)} {l : Nat} {ls : List Nat} {rows : List (List Q)} (d : Deep c S O0 O q od l ls rows) (h : ∀ k, O' k → O k) (h2 : ∀ k, (k = l ∨ k ∈ ls) → ¬ O' k) : RQ c S O' q (.ref l) := by
  rw [d.q]
  refine .lst (h2 l (.inl rfl)) d.s ?_
  have key : ∀ (rs : List (List Q)) (ks : List Nat), ks.length = rs.length → (∀ k ∈ ks, k ∈ ls) → (∀ (j lj : Nat) (rj : List Q), ks[j]? = some lj → rs[j]? = some rj → ∃ ds, S[lj]? = some (.lst ds) ∧ RQs c S O rj ds) → RQs c S O' (rs.map .lst) (ks.map .ref) := by
    intro rs
    induction rs with
    | nil =>
      intro ks hl _ _
      cases ks with
      | nil => exact .nil
      | cons _ _ => simp at hl
    | cons r rs ih =>
      intro ks hl hm hr
      cases ks with
      | nil => simp at hl
      | cons k ks =>
        obtain ⟨ds, h3, h4⟩ := hr 0 k r rfl rfl
        exact .cons (.lst (h2 k (.inr (hm k (by simp)))) h3 (h4.wk h)) (ih ks (by simpa using hl) (fun k hk => hm k (by simp [hk])) fun j lj rj e1 e2 => hr (j + 1) lj rj (by simpa using e1) (by simpa using e2))
  exact key rows ls d.len (fun k hk => hk) d.row
section
variable {c : Cw} {S T : Store} {O0 O O' : Nat → Prop} {ow ow' : List Nat} {ρq : RhoQ} {ρ : Rho} {s : Sq}
theorem Env.ownC (e : Env c S O0 O ow ρq ρ) (i : Nat) (q : Q) (h0 : i < 1000) (h1 : i ∈ ow) (hn : i + 1000 ∉ ow) (h2 : ρq[i]? = some (some q)) :
    (∃ l ks xs, q = .dic ks xs ∧ ρ[i]? = some (some (.ref l))) ∨ ∃ l xs ds, q = .lst xs ∧ ρ[i]? = some (some (.ref l)) ∧ S[l]? = some (.lst ds) ∧ RQs c S O xs ds ∧ O l ∧ ¬ O0 l := by
  obtain ⟨l, so, xs, ds, ov, h3, h4, h5, h6, h7⟩ := e.own i q h0 h1 hn h2
  cases ov with
  | lst => exact .inr ⟨l, xs, ds, rfl, h3, h4, h5, h6, h7⟩
  | dic ks _ _ _ => exact .inl ⟨l, ks, xs, rfl, h3⟩
theorem Env.oc (e : Env c S O0 O ow ρq ρ) : O c.la := e.sub _ e.ola
theorem Env.stp (e : Env c S O0 O ow ρq ρ) (st : Stp c S T) : Env c T O0 O ow ρq ρ where
  len := e.len
  sm := e.sm
  val := fun i q h1 h2 => let ⟨d, h3, h4⟩ := e.val i q h1 h2; ⟨d, h3, h4.stp st e.oc⟩
  own := fun i q h0 h1 hn h2 => let ⟨l, so, xs, ds, h3, h4, h5, h6, h7, h8⟩ := e.own i q h0 h1 hn h2; ⟨l, so, xs, ds, h3, h4, st.fr l _ (fun z => h8 (z ▸ e.ola)) h5, h6.stp st e.oc, h7, h8⟩
  dep := fun i q h1 h2 => let ⟨l, ls, rows, d⟩ := e.dep i q h1 h2; ⟨l, ls, rows, d.mv (fun k o hk h => st.fr k o (fun z => (d.no0 k hk).2 (z ▸ e.ola)) h) (fun _ _ r => r.stp st e.oc) fun _ _ h => h⟩
  cl := e.cl
  dis := e.dis
  sub := e.sub
  ola := e.ola
end

/-! ### values of expressions -/
/-- f and g say the same -/
def KG {α β : Type} (RA : Cw → (Nat → Prop) → Store → β → α → Prop) (ow : List Nat) (f : EF α) (g : EQ β) : Prop :=
  ∀ (c : Cw) (S : Store) (O0 O : Nat → Prop) (s : Sq) (ρq : RhoQ) (ρ : Rho), Gd c S O s → Env c S O0 O ow ρq ρ → PostQ c O S (RA c O) (f ρ S) (g ρq s)
abbrev KE := KG (fun c O => RV c O)
abbrev KA := KG (fun c O => RVs c O)
abbrev KB := KG (fun _ _ => (REq : Store → Bool → Bool → Prop))
abbrev KO := KG (fun _ _ => (REq : Store → Option Int → Option Int → Prop))
section
variable {ow : List Nat}
def qVar (i : Nat) : EQ Q := fun ρ s => match ρ[i]? with
  | some (some d) => okQ d s
  | _ => none
theorem k_var {i : Nat} (h : i ∉ ow := by decide) : KE ow (fVar i) (qVar i) := fun c S O0 O s ρq ρ g e => by
  unfold qVar fVar
  match h1 : ρq[i]? with
  | none => trivial
  | some none => trivial
  | some (some q) =>
    obtain ⟨d, h2, h3⟩ := e.val i q h h1
    rw [h2]
    exact .ok g h3
def qC (q : Q) : EQ Q := fun _ s => okQ q s
theorem k_non : KE ow (fC .non) (qC .non) := fun c S O0 O s ρq ρ g e => .ok g .non
theorem k_bl (b : Bool) : KE ow (fC (.bl b)) (qC (.bl b)) := fun c S O0 O s ρq ρ g e => .ok g (.bl b)
theorem k_int (b : Int) : KE ow (fC (.int b)) (qC (.int b)) := fun c S O0 O s ρq ρ g e => .ok g (.int b)
theorem k_str (b : Str) : KE ow (fC (.str b)) (qC (.str b)) := fun c S O0 O s ρq ρ g e => .ok g (.str b)
def qNil : EQ (List Q) := fun _ s => okQ [] s
theorem k_nil : KA ow fNil qNil := fun c S O0 O s ρq ρ g e => .ok g .nil
def qCons (f : EQ Q) (g : EQ (List Q)) : EQ (List Q) := fun ρ s => bindQ (f ρ s) fun d s1 => bindQ (g ρ s1) fun ds s2 => okQ (d :: ds) s2
theorem k_cons {f : EF D} {g : EF (List D)} {f' : EQ Q} {g' : EQ (List Q)} (hf : KE ow f f') (hg : KA ow g g') : KA ow (fCons f g) (qCons f' g') := fun c S O0 O s ρq ρ G e =>
  (hf c S O0 O s ρq ρ G e).bind fun T a v s1 st G1 ra => (hg c T O0 O s1 ρq ρ G1 (e.stp st)).bind fun U b w s2 st2 G2 rb => .ok G2 (.cons (ra.stp st2 e.oc) rb)
def qseq : Q → Option (List Q)
  | .tup xs => some xs
  | .lst xs => some xs
  | _ => none
theorem seq_of {c : Cw} {S : Store} {O : Nat → Prop} {q : Q} {d : D} {xs : List Q} (r : RQ c S O q d) (h : qseq q = some xs) : ∃ ds, seqOf d S = some ds ∧ RQs c S O xs ds := by
  cases r with
  | tup rs => cases h; exact ⟨_, rfl, rs⟩
  | lst h1 h2 rs => cases h; exact ⟨_, by simp only [seqOf, h2], rs⟩
  | _ => cases h
def qStar (f : EQ Q) (g : EQ (List Q)) : EQ (List Q) := fun ρ s => bindQ (f ρ s) fun d s1 => match qseq d with
  | some xs => bindQ (g ρ s1) fun ds s2 => okQ (xs ++ ds) s2
  | none => none
/-! operators -/
abbrev Q1 := Q → Option Q
abbrev Q2 := Q → Q → Option Q
def Y1 (p : P1) (q : Q1) : Prop := ∀ (c : Cw) (S : Store) (O : Nat → Prop) (s : Sq) (a v : Q) (da : D), Gd c S O s → RQ c S O a da → q a = some v → ∃ d, p da S = okR d S ∧ RQ c S O v d
def Y2 (p : P2) (q : Q2) : Prop := ∀ (c : Cw) (S : Store) (O : Nat → Prop) (s : Sq) (a b v : Q) (da db : D), Gd c S O s → RQ c S O a da → RQ c S O b db → q a b = some v → ∃ d, p da db S = okR d S ∧ RQ c S O v d
def YL (p : PL) (q : List Q → Option Q) : Prop := ∀ (c : Cw) (S : Store) (O : Nat → Prop) (s : Sq) (as : List Q) (v : Q) (ds : List D), Gd c S O s → RQs c S O as ds → q as = some v → ∃ d, p ds S = okR d S ∧ RQ c S O v d
def qUn (p : Q1) (f : EQ Q) : EQ Q := fun ρ s => bindQ (f ρ s) fun v s1 => liftQ (p v) s1
def qBin (p : Q2) (f g : EQ Q) : EQ Q := fun ρ s => bindQ (f ρ s) fun v s1 => bindQ (g ρ s1) fun w s2 => liftQ (p v w) s2
def qCall (p : List Q → Option Q) (g : EQ (List Q)) : EQ Q := fun ρ s => bindQ (g ρ s) fun v s1 => liftQ (p v) s1
theorem k_un {p : P1} {q : Q1} {f : EF D} {f' : EQ Q} (hp : Y1 p q) (hf : KE ow f f') : KE ow (fUn p f) (qUn q f') := fun c S O0 O s ρq ρ G e =>
  (hf c S O0 O s ρq ρ G e).bind fun T a v s1 st G1 ra => by
    cases h : q v with
    | none => trivial
    | some z =>
      obtain ⟨d, h1, h2⟩ := hp c T O s1 v z a G1 ra h
      rw [h1]
      exact .ok G1 h2
theorem k_bin {p : P2} {q : Q2} {f g : EF D} {f' g' : EQ Q} (hp : Y2 p q) (hf : KE ow f f') (hg : KE ow g g') : KE ow (fBin p f g) (qBin q f' g') := fun c S O0 O s ρq ρ G e =>
  (hf c S O0 O s ρq ρ G e).bind fun T a v s1 st G1 ra => (hg c T O0 O s1 ρq ρ G1 (e.stp st)).bind fun U b w s2 st2 G2 rb => by
    cases h : q v w with
    | none => trivial
    | some z =>
      obtain ⟨d, h1, h2⟩ := hp c U O s2 v w z a b G2 (ra.stp st2 e.oc) rb h
      rw [h1]
      exact .ok G2 h2
theorem k_call {p : PL} {q : List Q → Option Q} {g : EF (List D)} {g' : EQ (List Q)} (hp : YL p q) (hg : KA ow g g') : KE ow (fCall p g) (qCall q g') := fun c S O0 O s ρq ρ G e =>
  (hg c S O0 O s ρq ρ G e).bind fun T a v s1 st G1 ra => by
    cases h : q v with
    | none => trivial
    | some z =>
      obtain ⟨d, h1, h2⟩ := hp c T O s1 v z a G1 ra h
      rw [h1]
      exact .ok G1 h2
theorem k_new {p : List D → Store → Rs D} {q : List Q → Option Q} {g : EF (List D)} {g' : EQ (List Q)} (hp : YL p q) (hg : KA ow g g') : KE ow (fNew p g) (qCall q g') := k_call hp hg
def qTup (g : EQ (List Q)) : EQ Q := fun ρ s => bindQ (g ρ s) fun ds s1 => if ds.length ≤ 16777216 then okQ (.tup ds) s1 else none
theorem k_tup {g : EF (List D)} {g' : EQ (List Q)} (hg : KA ow g g') : KE ow (fTup g) (qTup g') := fun c S O0 O s ρq ρ G e =>
  (hg c S O0 O s ρq ρ G e).bind fun T a v s1 st G1 ra => by
    by_cases h : v.length ≤ 16777216
    · rw [if_pos h, if_pos (by rw [← ra.length]; exact h)]
      exact .ok G1 (.tup ra)
    · rw [if_neg h]; trivial
def qLst (g : EQ (List Q)) : EQ (List Q) := fun ρ s => bindQ (g ρ s) fun ds s1 => if ds.length ≤ 16777216 then okQ ds s1 else none
theorem k_lst {g : EF (List D)} {g' : EQ (List Q)} (hg : KA ow g g') : KA ow (fLst g) (qLst g') := fun c S O0 O s ρq ρ G e =>
  (hg c S O0 O s ρq ρ G e).bind fun T a v s1 st G1 ra => by
    by_cases h : v.length ≤ 16777216
    · rw [if_pos h, if_pos (by rw [← ra.length]; exact h)]
      exact .ok G1 ra
    · rw [if_neg h]; trivial
def qAl (g : EQ (List Q)) : EQ Q := fun ρ s => bindQ (g ρ s) fun ds s1 => okQ (.lst ds) s1
theorem new_ok {c : Cw} {T : Store} {O : Nat → Prop} {s1 : Sq} {v : List Q} {a : List D} (G1 : Gd c T O s1) (ra : RQs c T O v a) : PostQ c O T (RV c O) (okR (D.ref T.length) (T ++ [.lst a])) (okQ (.lst v) s1) :=
  ⟨_, _, rfl, .put _, G1.put _, .lst (fun z => Nat.lt_irrefl _ (G1.lt _ z)) (by simp) (ra.stp (.put _) G1.ola)⟩
theorem k_al {g : EF (List D)} {g' : EQ (List Q)} (hg : KA ow g g') : KE ow (fAl g) (qAl g') := fun c S O0 O s ρq ρ G e =>
  (hg c S O0 O s ρq ρ G e).bind fun T a v s1 st G1 ra => new_ok G1 ra
def qCat (f g : EQ (List Q)) : EQ (List Q) := fun ρ s => bindQ (f ρ s) fun xs s1 => bindQ (g ρ s1) fun ys s2 => if xs.length + ys.length ≤ 16777216 then okQ (xs ++ ys) s2 else none
def qCatE (f g : EQ Q) : EQ (List Q) := fun ρ s => bindQ (f ρ s) fun d s1 => bindQ (g ρ s1) fun e s2 => match d, e with
  | .lst xs, .lst ys => if xs.length + ys.length ≤ 16777216 then okQ (xs ++ ys) s2 else none
  | _, _ => none
theorem k_catE {f g : EF D} {f' g' : EQ Q} (hf : KE ow f f') (hg : KE ow g g') : KA ow (fCatE f g) (qCatE f' g') := fun c S O0 O s ρq ρ G e =>
  (hf c S O0 O s ρq ρ G e).bind fun T a v s1 st G1 ra => (hg c T O0 O s1 ρq ρ G1 (e.stp st)).bind fun U b w s2 st2 G2 rb => by
    have ra' := ra.stp st2 e.oc
    cases ra' with
    | lst h1 h2 rs =>
      cases rb with
      | lst h3 h4 rs2 =>
        rename_i xs _ _ ys _ _
        simp only [refSeq, h2, h4]
        by_cases h : xs.length + ys.length ≤ 16777216
        · rw [if_pos h, if_pos (by rw [← rs.length, ← rs2.length]; exact h)]
          exact .ok G2 (rs.append rs2)
        · rw [if_neg h]; trivial
      | _ => trivial
    | _ => trivial
def qList (f : EQ Q) : EQ (List Q) := fun ρ s => bindQ (f ρ s) fun d s1 => liftQ (qseq d) s1
theorem rep_ok {c : Cw} {S : Store} {O : Nat → Prop} {xs : List Q} {us : List D} (h : RQs c S O xs us) : ∀ k : Nat, RQs c S O (List.replicate k xs).flatten (List.replicate k us).flatten
  | 0 => .nil
  | k + 1 => by simp only [List.replicate_succ, List.flatten_cons]; exact h.append (rep_ok h k)
def qRep (f : EQ (List Q)) (g : EQ Q) : EQ (List Q) := fun ρ s => bindQ (f ρ s) fun xs s1 => bindQ (g ρ s1) fun d s2 => match d with
  | .int k => if (-(2 ^ 63) ≤ k ∧ k < 2 ^ 63) ∧ xs.length * k.toNat ≤ 16777216 then okQ (List.replicate k.toNat xs).flatten s2 else none
  | _ => none
/-! truth -/
def asBQ (r : Rq Q) : Rq Bool := bindQ r fun d s => match d with
  | .bl b => okQ b s
  | _ => none
@[simp] theorem asBQ_bl (b : Bool) (s : Sq) : asBQ (some (.ok (.bl b), s)) = okQ b s := rfl
theorem asB_ok {c : Cw} {O : Nat → Prop} {S : Store} {r : Rs D} {q : Rq Q} (h : PostQ c O S (RV c O) r q) : PostQ c O S REq (asB r) (asBQ q) := h.bind fun T a v s1 st G1 ra => by
  cases ra with
  | bl b => exact .ok G1 rfl
  | _ => trivial
def qT (f : EQ Q) : EQ Bool := fun ρ s => asBQ (f ρ s)
theorem k_T {f : EF D} {f' : EQ Q} (hf : KE ow f f') : KB ow (fT f) (qT f') := fun c S O0 O s ρq ρ G e => asB_ok (hf c S O0 O s ρq ρ G e)
def qtru : Q → Option Bool
  | .non => some false
  | .bl b => some b
  | .int i => some (i != 0)
  | .str x => if x.length ≤ 16777216 then some ((x.length : Int) != 0) else none
  | .tup xs => some !xs.isEmpty
  | .lst xs => some !xs.isEmpty
  | .drs ns => some !ns.isEmpty
  | _ => none
theorem isEmpty_eq {c : Cw} {S : Store} {O : Nat → Prop} {xs : List Q} {us : List D} (h : RQs c S O xs us) : xs.isEmpty = us.isEmpty := by cases h <;> rfl
theorem tru_of {c : Cw} {S : Store} {O : Nat → Prop} {s : Sq} {q : Q} {d : D} {b : Bool} (G : Gd c S O s) (r : RQ c S O q d) (h : qtru q = some b) : truO d S = some b := by
  cases r with
  | tup rs => simp only [qtru, truO, isEmpty_eq rs] at h ⊢; exact h
  | lst h1 h2 rs => simp only [qtru, truO, isEmpty_eq rs, h2] at h ⊢; exact h
  | atr => cases h
  | drs => simp only [qtru, truO, G.hd] at h ⊢; rw [← h]; simp
  | scr => cases h
  | dic _ _ _ _ => cases h
  | _ => exact h
def qTru (f : EQ Q) : EQ Bool := fun ρ s => bindQ (f ρ s) fun d s1 => liftQ (qtru d) s1
theorem k_tru {f : EF D} {f' : EQ Q} (hf : KE ow f f') : KB ow (fTru f) (qTru f') := fun c S O0 O s ρq ρ G e =>
  (hf c S O0 O s ρq ρ G e).bind fun T a v s1 st G1 ra => by
    cases h : qtru v with
    | none => trivial
    | some b =>
      rw [tru_of G1 ra h]
      exact .ok G1 rfl
def qAndF (f g : EQ Bool) : EQ Bool := fun ρ s => bindQ (f ρ s) fun b s1 => if b = true then g ρ s1 else okQ false s1
def qOrF (f g : EQ Bool) : EQ Bool := fun ρ s => bindQ (f ρ s) fun b s1 => if b = true then okQ true s1 else g ρ s1
def qNotF (f : EQ Bool) : EQ Bool := fun ρ s => bindQ (f ρ s) fun b s1 => okQ (!b) s1
theorem k_andF {f g : EF Bool} {f' g' : EQ Bool} (hf : KB ow f f') (hg : KB ow g g') : KB ow (tAndF f g) (qAndF f' g') := fun c S O0 O s ρq ρ G e =>
  (hf c S O0 O s ρq ρ G e).bind fun T a v s1 st G1 ra => by
    obtain rfl : v = a := ra
    cases v with
    | true => exact hg c T O0 O s1 ρq ρ G1 (e.stp st)
    | false => exact .ok G1 rfl
theorem k_orF {f g : EF Bool} {f' g' : EQ Bool} (hf : KB ow f f') (hg : KB ow g g') : KB ow (tOrF f g) (qOrF f' g') := fun c S O0 O s ρq ρ G e =>
  (hf c S O0 O s ρq ρ G e).bind fun T a v s1 st G1 ra => by
    obtain rfl : v = a := ra
    cases v with
    | true => exact .ok G1 rfl
    | false => exact hg c T O0 O s1 ρq ρ G1 (e.stp st)
theorem k_notF {f : EF Bool} {f' : EQ Bool} (hf : KB ow f f') : KB ow (tNotF f) (qNotF f') := fun c S O0 O s ρq ρ G e =>
  (hf c S O0 O s ρq ρ G e).bind fun T a v s1 st G1 ra => by
    obtain rfl : v = a := ra
    exact .ok G1 rfl
def qIf (t : EQ Bool) (f g : EQ Q) : EQ Q := fun ρ s => bindQ (t ρ s) fun b s1 => if b = true then f ρ s1 else g ρ s1
theorem k_if {t : EF Bool} {f g : EF D} {t' : EQ Bool} {f' g' : EQ Q} (ht : KB ow t t') (hf : KE ow f f') (hg : KE ow g g') : KE ow (fIf t f g) (qIf t' f' g') := fun c S O0 O s ρq ρ G e =>
  (ht c S O0 O s ρq ρ G e).bind fun T a v s1 st G1 ra => by
    obtain rfl : v = a := ra
    cases v with
    | true => exact hf c T O0 O s1 ρq ρ G1 (e.stp st)
    | false => exact hg c T O0 O s1 ρq ρ G1 (e.stp st)
def qAnd (f g : EQ Q) : EQ Q := fun ρ s => bindQ (asBQ (f ρ s)) fun b s1 => if b = true then g ρ s1 else okQ (.bl false) s1
def qOr (f g : EQ Q) : EQ Q := fun ρ s => bindQ (asBQ (f ρ s)) fun b s1 => if b = true then okQ (.bl true) s1 else g ρ s1
def qNot (f : EQ Q) : EQ Q := fun ρ s => bindQ (asBQ (f ρ s)) fun b s1 => okQ (.bl (!b)) s1
theorem k_and {f g : EF D} {f' g' : EQ Q} (hf : KE ow f f') (hg : KE ow g g') : KE ow (fAnd f g) (qAnd f' g') := fun c S O0 O s ρq ρ G e =>
  (asB_ok (hf c S O0 O s ρq ρ G e)).bind fun T a v s1 st G1 ra => by
    obtain rfl : v = a := ra
    cases v with
    | true => exact hg c T O0 O s1 ρq ρ G1 (e.stp st)
    | false => exact .ok G1 (.bl false)
def qChain (p q : Q2) (f g h : EQ Q) : EQ Q := fun ρ s => bindQ (f ρ s) fun d s1 => bindQ (g ρ s1) fun e s2 => bindQ (liftQ (p d e) s2) fun z s3 => match z with
  | .bl true => bindQ (h ρ s3) fun k s4 => liftQ (q e k) s4
  | .bl false => okQ (.bl false) s3
  | _ => none
theorem k_chain {p p2 : P2} {q q2 : Q2} {f g h : EF D} {f' g' h' : EQ Q} (hp : Y2 p q) (hp2 : Y2 p2 q2) (hf : KE ow f f') (hg : KE ow g g') (hh : KE ow h h') : KE ow (fChain p p2 f g h) (qChain q q2 f' g' h') := fun c S O0 O s ρq ρ G e =>
  (hf c S O0 O s ρq ρ G e).bind fun T a v s1 st G1 ra => (hg c T O0 O s1 ρq ρ G1 (e.stp st)).bind fun U b w s2 st2 G2 rb => by
    cases hq : q v w with
    | none => trivial
    | some z =>
      obtain ⟨d, h1, h2⟩ := hp c U O s2 v w z a b G2 (ra.stp st2 e.oc) rb hq
      rw [h1]
      simp only [bindR_ok, liftQ_some, bindQ_ok]
      cases h2 with
      | bl x =>
        cases x with
        | false => exact .ok G2 (.bl false)
        | true =>
          exact (hh c U O0 O s2 ρq ρ G2 ((e.stp st).stp st2)).bind fun W k y s3 st3 G3 rk => by
            cases hq2 : q2 w y with
            | none => trivial
            | some z2 =>
              obtain ⟨d2, h3, h4⟩ := hp2 c W O s3 w y z2 b k G3 (rb.stp st3 e.oc) rk hq2
              rw [h3]
              exact .ok G3 h4
      | _ => trivial
/-! bounds of slices -/
def qoN : EQ (Option Int) := fun _ s => okQ none s
def qoS (f : EQ Q) : EQ (Option Int) := fun ρ s => bindQ (f ρ s) fun d s1 => match d with
  | .int i => okQ (some i) s1
  | _ => none
theorem k_oN : KO ow oNone qoN := fun c S O0 O s ρq ρ G e => .ok G rfl
theorem k_oS {f : EF D} {f' : EQ Q} (hf : KE ow f f') : KO ow (oSome f) (qoS f') := fun c S O0 O s ρq ρ G e =>
  (hf c S O0 O s ρq ρ G e).bind fun T a v s1 st G1 ra => by
    cases ra with
    | int i => exact .ok G1 rfl
    | _ => trivial
theorem cut_ok {c : Cw} {S : Store} {O : Nat → Prop} {xs : List Q} {us : List D} (h : RQs c S O xs us) (a b : Option Int) : RQs c S O (cutD xs a b) (cutD us a b) := by
  unfold cutD
  rw [h.length]
  exact (h.drop _).take _
def qSl (f : EQ Q) (lo hi : EQ (Option Int)) : EQ Q := fun ρ s => bindQ (f ρ s) fun d s1 => bindQ (lo ρ s1) fun a s2 => bindQ (hi ρ s2) fun b s3 => match d with
  | .tup xs => okQ (.tup (cutD xs a b)) s3
  | .lst xs => okQ (.lst (cutD xs a b)) s3
  | _ => none
theorem k_sl {f : EF D} {lo hi : OF} {f' : EQ Q} {lo' hi' : EQ (Option Int)} (hf : KE ow f f') (hl : KO ow lo lo') (hh : KO ow hi hi') : KE ow (fSl f lo hi) (qSl f' lo' hi') := fun c S O0 O s ρq ρ G e =>
  (hf c S O0 O s ρq ρ G e).bind fun T a v s1 st G1 ra => (hl c T O0 O s1 ρq ρ G1 (e.stp st)).bind fun U x x' s2 st2 G2 rx => (hh c U O0 O s2 ρq ρ G2 ((e.stp st).stp st2)).bind fun W y y' s3 st3 G3 ry => by
    obtain rfl : x' = x := rx
    obtain rfl : y' = y := ry
    have ra' := (ra.stp st2 e.oc).stp st3 e.oc
    cases ra' with
    | tup rs => exact .ok G3 (.tup (cut_ok rs _ _))
    | lst h1 h2 rs =>
      simp only [h2]
      exact new_ok G3 (cut_ok rs _ _)
    | _ => trivial
def qRev (f : EQ Q) : EQ Q := fun ρ s => bindQ (f ρ s) fun d s1 => match d with
  | .tup xs => okQ (.tup xs.reverse) s1
  | .lst xs => okQ (.lst xs.reverse) s1
  | _ => none
theorem k_rev {f : EF D} {f' : EQ Q} (hf : KE ow f f') : KE ow (fRev f) (qRev f') := fun c S O0 O s ρq ρ G e =>
  (hf c S O0 O s ρq ρ G e).bind fun T a v s1 st G1 ra => by
    cases ra with
    | tup rs => exact .ok G1 (.tup rs.reverse)
    | lst h1 h2 rs =>
      simp only [h2]
      exact new_ok G1 rs.reverse
    | _ => trivial
/-! calls of defs -/
abbrev QM := List Q → Sq → Rq Q
def LkM (m : M) (p : QM) : Prop := ∀ (c : Cw) (S : Store) (O : Nat → Prop) (s : Sq) (qs : List Q) (ds : List D), Gd c S O s → RQs c S O qs ds → PostQ c O S (RV c O) (m ds S) (p qs s)
def qApp (n : Nat) (p : QM) (g : EQ (List Q)) : EQ Q := fun ρ s => bindQ (g ρ s) fun ds s1 => if ds.length = n then p ds s1 else none
theorem k_app {n : Nat} {m : M} {p : QM} {g : EF (List D)} {g' : EQ (List Q)} (hm : LkM m p) (hg : KA ow g g') : KE ow (fApp n m g) (qApp n p g') := fun c S O0 O s ρq ρ G e =>
  (hg c S O0 O s ρq ρ G e).bind fun T a v s1 st G1 ra => by
    by_cases h : v.length = n
    · rw [if_pos h, if_pos (by rw [← ra.length]; exact h)]
      exact hm c T O s1 v a G1 ra
    · rw [if_neg h]; trivial
end
end Sh

set_option Elab.async false
set_option linter.all false
set_option maxRecDepth 100000
set_option maxHeartbeats 4000000
set_option autoImplicit false
namespace Sh
open PySem L2
/-! ### operators on values -/
def uz : D → Option Q
  | .int i => some (.int i)
  | .bl b => some (.bl b)
  | _ => none
theorem uz_ok {c : Cw} {S : Store} {O : Nat → Prop} {d : D} {v : Q} (h : uz d = some v) : RQ c S O v d := by
  cases d with
  | int i => cases h; exact .int i
  | bl i => cases h; exact .bl i
  | _ => cases h
def uI2 (g : Int → Int → Option D) : Q2 := fun a b => match a, b with
  | .int i, .int j => (g i j).bind uz
  | _, _ => none
theorem y_I2 {g : Int → Int → Option D} : Y2 (pI2 g) (uI2 g) := fun c S O s a b v da db G ra rb h => by
  cases ra with
  | int i =>
    cases rb with
    | int j =>
      simp only [uI2] at h
      cases e : g i j with
      | none => rw [e] at h; cases h
      | some z =>
        rw [e] at h
        exact ⟨z, by simp only [pI2, e], uz_ok h⟩
    | _ => cases h
  | _ => cases h
@[simp] theorem uSub_int (i j : Int) : uI2 gSub (.int i) (.int j) = some (.int (i - j)) := rfl
@[simp] theorem uLt_int (i j : Int) : uI2 gLt (.int i) (.int j) = some (.bl (decide (i < j))) := rfl
@[simp] theorem uLe_int (i j : Int) : uI2 gLe (.int i) (.int j) = some (.bl (decide (i ≤ j))) := rfl
@[simp] theorem uGt_int (i j : Int) : uI2 gGt (.int i) (.int j) = some (.bl (decide (j < i))) := rfl
@[simp] theorem uGe_int (i j : Int) : uI2 gGe (.int i) (.int j) = some (.bl (decide (j ≤ i))) := rfl
theorem uMul_int {i j : Int} (h : (-(2 ^ 64) < i ∧ i < 2 ^ 64) ∨ (-(2 ^ 64) < j ∧ j < 2 ^ 64)) : uI2 gMul (.int i) (.int j) = some (.int (i * j)) := by simp only [uI2, gMul, if_pos h]; rfl
theorem uMod_int {i j : Int} (h : j ≠ 0) : uI2 gMod (.int i) (.int j) = some (.int (i.fmod j)) := by simp only [uI2, gMod, if_pos h]; rfl
theorem uDiv_int {i j : Int} (h : j ≠ 0 ∧ j.natAbs < 1073741824) : uI2 gDiv (.int i) (.int j) = some (.int (i.fdiv j)) := by simp only [uI2, gDiv, if_pos h]; rfl
def uAdd : Q2 := fun a b => match a, b with
  | .int i, .int j => some (.int (i + j))
  | .str x, .str y => if x.length + y.length ≤ 16777216 then some (.str (x ++ y)) else none
  | .tup xs, .tup ys => if xs.length + ys.length ≤ 16777216 then some (.tup (xs ++ ys)) else none
  | _, _ => none
@[simp] theorem uAdd_int (i j : Int) : uAdd (.int i) (.int j) = some (.int (i + j)) := rfl
theorem uAdd_tup {xs ys : List Q} (h : xs.length + ys.length ≤ 16777216) : uAdd (.tup xs) (.tup ys) = some (.tup (xs ++ ys)) := by simp only [uAdd, if_pos h]
theorem y_add : Y2 pAdd uAdd := fun c S O s a b v da db G ra rb h => by
  cases ra with
  | int i =>
    cases rb with
    | int j => cases h; exact ⟨_, rfl, .int _⟩
    | _ => cases h
  | str x =>
    cases rb with
    | str y =>
      simp only [uAdd] at h
      split at h
      · rename_i hl; cases h; exact ⟨_, by simp only [pAdd, if_pos hl], .str _⟩
      · cases h
    | _ => cases h
  | tup rs =>
    cases rb with
    | tup rs2 =>
      simp only [uAdd] at h
      split at h
      · rename_i hl; cases h; exact ⟨_, by simp only [pAdd]; rw [if_pos (by rw [← rs.length, ← rs2.length]; exact hl)], .tup (rs.append rs2)⟩
      · cases h
    | _ => cases h
  | _ => cases h
/-! data -/
def pyQ : Nat → Q → Option PyData
  | _, .non => some .none
  | _, .bl b => some (.bool b)
  | _, .int i => some (.int i)
  | _, .str x => if PyData.canLay0 (.str x) = true then some (.str x) else none
  | k + 1, .tup xs => (xs.mapM (pyQ k)).map .tuple
  | k + 1, .lst xs => (xs.mapM (pyQ k)).map .list
  | 0, .tup _ => none
  | 0, .lst _ => none
  | _, .atr => none
  | _, .drs _ => none
  | _, .scr => none
  | _, .rng _ _ _ => none
  | _, .gd _ => none
  | _, .dic _ _ => none
theorem pyM_of {c : Cw} {S : Store} {O : Nat → Prop} {k : Nat} (ih : ∀ {q : Q} {d : D} {a : PyData}, RQ c S O q d → pyQ k q = some a → pyD S k d = some a) :
    ∀ {qs : List Q} {ds : List D} {as : List PyData}, RQs c S O qs ds → qs.mapM (pyQ k) = some as → ds.mapM (pyD S k) = some as
  | [], ds, as, r, e => by cases r; exact e
  | q :: qs, ds, as, r, e => by
    cases r with
    | cons r1 r2 =>
      rw [List.mapM_cons] at e ⊢
      cases e1 : pyQ k q with
      | none => rw [e1] at e; cases e
      | some a =>
        rw [e1] at e
        rw [ih r1 e1]
        cases e2 : qs.mapM (pyQ k) with
        | none => rw [e2] at e; cases e
        | some as2 =>
          rw [e2] at e
          rw [pyM_of ih r2 e2]
          exact e
theorem py_of {c : Cw} {S : Store} {O : Nat → Prop} : ∀ (k : Nat) {q : Q} {d : D} {a : PyData}, RQ c S O q d → pyQ k q = some a → pyD S k d = some a
  | k, q, d, a, r, e => by
    cases r with
    | non => simpa [pyD, pyQ] using e
    | bl b => simpa [pyD, pyQ] using e
    | int b => simpa [pyD, pyQ] using e
    | str b => simpa [pyD, pyQ] using e
    | tup rs =>
      cases k with
      | zero => simp [pyQ] at e
      | succ k =>
        rename_i qs ds
        simp only [pyQ] at e
        cases e1 : qs.mapM (pyQ k) with
        | none => rw [e1] at e; cases e
        | some as => rw [e1] at e; simp only [pyD, pyM_of (fun r h => py_of k r h) rs e1]; exact e
    | lst h1 h2 rs =>
      cases k with
      | zero => simp [pyQ] at e
      | succ k =>
        rename_i qs l ds
        simp only [pyQ] at e
        cases e1 : qs.mapM (pyQ k) with
        | none => rw [e1] at e; cases e
        | some as => rw [e1] at e; simp only [pyD, h2, pyM_of (fun r h => py_of k r h) rs e1]; exact e
    | atr => simp [pyQ] at e
    | drs => simp [pyQ] at e
    | scr => simp [pyQ] at e
    | rng _ _ _ => simp [pyQ] at e
    | gd _ => simp [pyQ] at e
    | dic _ _ _ _ => simp [pyQ] at e
def eqQ (a b : Q) : Option Bool := match pyQ 60 a, pyQ 60 b with
  | some x, some y => some (PyData.eqv x y)
  | _, _ => none
theorem eqQ_of {c : Cw} {S : Store} {O : Nat → Prop} {a b : Q} {da db : D} {z : Bool} (ra : RQ c S O a da) (rb : RQ c S O b db) (h : eqQ a b = some z) : eqO S da db = some z := by
  unfold eqQ at h
  unfold eqO
  cases e1 : pyQ 60 a with
  | none => rw [e1] at h; cases h
  | some x =>
    cases e2 : pyQ 60 b with
    | none => rw [e1, e2] at h; cases h
    | some y =>
      rw [e1, e2] at h
      rw [py_of 60 ra e1, py_of 60 rb e2]
      exact h
def uEq : Q2 := fun a b => match a, b with
  | .str x, .str y => some (.bl (x == y))
  | a, b => (eqQ a b).map .bl
def uNe : Q2 := fun a b => match a, b with
  | .str x, .str y => some (.bl (!(x == y)))
  | a, b => (eqQ a b).map fun z => .bl (!z)
theorem y_eq : Y2 pEq uEq := fun c S O s a b v da db G ra rb h => by
  have key : ∀ z, eqQ a b = some z → (∀ x y, ¬ (a = .str x ∧ b = .str y)) → v = .bl z → ∃ d, pEq da db S = okR d S ∧ RQ c S O v d := fun z hz hn hv => by
    subst hv
    refine ⟨.bl z, ?_, .bl z⟩
    have := eqQ_of ra rb hz
    cases ra <;> cases rb <;> first | exact absurd ⟨rfl, rfl⟩ (hn _ _) | simp only [pEq, this]
  have oth : (∀ x y, ¬ (a = .str x ∧ b = .str y)) → (eqQ a b).map .bl = some v → ∃ d, pEq da db S = okR d S ∧ RQ c S O v d := fun hn h => by
    cases e : eqQ a b with
    | none => rw [e] at h; cases h
    | some z => rw [e] at h; cases h; exact key z e hn rfl
  cases ra with
  | str x =>
    cases rb with
    | str y => cases h; exact ⟨_, rfl, .bl _⟩
    | _ => exact oth (fun _ _ z => by cases z.2) h
  | _ => exact oth (fun _ _ z => by cases z.1) h
theorem y_ne : Y2 pNe uNe := fun c S O s a b v da db G ra rb h => by
  have key : ∀ z, eqQ a b = some z → (∀ x y, ¬ (a = .str x ∧ b = .str y)) → v = .bl (!z) → ∃ d, pNe da db S = okR d S ∧ RQ c S O v d := fun z hz hn hv => by
    subst hv
    refine ⟨.bl (!z), ?_, .bl _⟩
    have := eqQ_of ra rb hz
    cases ra <;> cases rb <;> first | exact absurd ⟨rfl, rfl⟩ (hn _ _) | simp only [pNe, this]
  have oth : (∀ x y, ¬ (a = .str x ∧ b = .str y)) → (eqQ a b).map (fun z => Q.bl (!z)) = some v → ∃ d, pNe da db S = okR d S ∧ RQ c S O v d := fun hn h => by
    cases e : eqQ a b with
    | none => rw [e] at h; cases h
    | some z => rw [e] at h; cases h; exact key z e hn rfl
  cases ra with
  | str x =>
    cases rb with
    | str y => cases h; exact ⟨_, rfl, .bl _⟩
    | _ => exact oth (fun _ _ z => by cases z.2) h
  | _ => exact oth (fun _ _ z => by cases z.1) h
def isNonQ : Q → Bool
  | .non => true
  | _ => false
def uIsN : Q2 := fun a b => match b with
  | .non => some (.bl (isNonQ a))
  | _ => none
def uNotN : Q2 := fun a b => match b with
  | .non => some (.bl (!isNonQ a))
  | _ => none
def inQ (a b : Q) : Option Bool := match pyQ 60 a, pyQ 60 b with
  | some x, some (.list as) => some (as.any fun z => PyData.eqv z x)
  | _, _ => none
def uInL : Q2 := fun a b => (inQ a b).map .bl
theorem atI_of' {c : Cw} {S : Store} {O : Nat → Prop} {xs : List Q} {us : List D} {i : Int} {v : Q} (h : RQs c S O xs us) (e : atI xs i = some v) : ∃ d, atI us i = some d ∧ RQ c S O v d := by
  unfold atI at e ⊢
  rw [← h.length]
  cases e1 : ixN xs.length i with
  | none => rw [e1] at e; cases e
  | some j => rw [e1] at e; exact h.get e
def uIx : Q2 := fun a b => match b with
  | .int i => match a with
    | .tup xs => atI xs i
    | .lst xs => atI xs i
    | .drs ns => (atI ns i).map .int
    | .str z => if z.length ≤ 16777216 then match atI z.cps.toList i with
        | some c => some (.str ⟨#[c]⟩)
        | none => none
      else none
    | _ => none
  | _ => none
theorem atI_map {α β : Type} (f : α → β) (xs : List α) (i : Int) : atI (xs.map f) i = (atI xs i).map f := by
  unfold atI
  rw [List.length_map]
  cases ixN xs.length i with
  | none => rfl
  | some j => simp
theorem y_ix : Y2 pIx uIx := fun c S O s a b v da db G ra rb h => by
  cases rb with
  | int i =>
    cases ra with
    | tup rs => obtain ⟨d, h1, h2⟩ := atI_of' rs h; exact ⟨d, by simp only [pIx, h1], h2⟩
    | lst n1 n2 rs => obtain ⟨d, h1, h2⟩ := atI_of' rs h; exact ⟨d, by simp only [pIx, n2, h1], h2⟩
    | drs =>
      simp only [uIx] at h
      cases e : atI c.ns i with
      | none => rw [e] at h; cases h
      | some k => rw [e] at h; cases h; exact ⟨.int k, by simp only [pIx, G.hd, atI_map, e]; rfl, .int _⟩
    | str z =>
      simp only [uIx] at h
      split at h
      · rename_i hz
        split at h
        · rename_i x hx; cases h; exact ⟨_, by simp only [pIx, if_pos hz, hx], .str _⟩
        · cases h
      · cases h
    | _ => cases h
  | _ => cases h
def uNeg : Q1
  | .int i => some (.int (-i))
  | _ => none
theorem y_neg : Y1 pNeg uNeg := fun c S O s a v da G ra h => by
  cases ra with
  | int i => cases h; exact ⟨_, rfl, .int _⟩
  | _ => cases h
/-! builtin calls -/
def u1L (p : Q1) : List Q → Option Q := fun as => match as with
  | [a] => p a
  | _ => none
@[simp] theorem u1L_one (p : Q1) (a : Q) : u1L p [a] = p a := rfl
theorem y_1L {p : P1} {q : Q1} (h : Y1 p q) : YL (p1L p) (u1L q) := fun c S O s as v ds G ra e => by
  cases ra with
  | nil => cases e
  | cons r1 r2 =>
    cases r2 with
    | nil => exact h c S O s _ v _ G r1 e
    | cons _ _ => cases e
def uLen : Q1
  | .tup xs => some (.int xs.length)
  | .lst xs => some (.int xs.length)
  | .str z => if z.length ≤ 16777216 then some (.int z.length) else none
  | .drs ns => some (.int ns.length)
  | _ => none
theorem y_len : Y1 pLen uLen := fun c S O s a v da G ra h => by
  cases ra with
  | tup rs => cases h; exact ⟨_, rfl, by rw [rs.length]; exact .int _⟩
  | lst h1 h2 rs => cases h; refine ⟨_, by simp only [pLen, h2]; rfl, ?_⟩; rw [rs.length]; exact .int _
  | str z =>
    simp only [uLen] at h
    split at h
    · rename_i hz; cases h; exact ⟨_, by simp only [pLen, if_pos hz], .int _⟩
    · cases h
  | drs => cases h; exact ⟨.int c.ns.length, by simp [pLen, G.hd], .int _⟩
  | _ => cases h
def uInt : Q1
  | .int i => some (.int i)
  | .bl b => some (.int (if b then 1 else 0))
  | _ => none
theorem y_int : Y1 pInt uInt := fun c S O s a v da G ra h => by
  cases ra with
  | int i => cases h; exact ⟨_, rfl, .int _⟩
  | bl i => cases h; exact ⟨_, rfl, .int _⟩
  | _ => cases h
def uTuple : Q1
  | .tup xs => some (.tup xs)
  | .lst xs => some (.tup xs)
  | _ => none
theorem y_tuple : Y1 pTuple uTuple := fun c S O s a v da G ra h => by
  cases ra with
  | tup rs => cases h; exact ⟨_, rfl, .tup rs⟩
  | lst h1 h2 rs => cases h; exact ⟨_, by simp only [pTuple, h2], .tup rs⟩
  | _ => cases h
def uSeq (q : List Q → Option Q) : Q1 := fun v => (qseq v).bind q
@[simp] theorem uSeq_tup (q : List Q → Option Q) (xs : List Q) : uSeq q (.tup xs) = q xs := rfl
@[simp] theorem uSeq_lst (q : List Q → Option Q) (xs : List Q) : uSeq q (.lst xs) = q xs := rfl
theorem y_seq {p : List D → Store → Rs D} {q : List Q → Option Q} (hp : YL p q) : Y1 (pSeq p) (uSeq q) := fun c S O s a v da G ra h => by
  unfold uSeq at h
  cases e : qseq a with
  | none => rw [e] at h; cases h
  | some xs =>
    rw [e] at h
    obtain ⟨ds, h1, h2⟩ := seq_of ra e
    obtain ⟨d, h3, h4⟩ := hp c S O s xs v ds G h2 h
    exact ⟨d, by simp only [pSeq, h1, h3], h4⟩
def uB : List Q → Option (List Bool)
  | [] => some []
  | .bl b :: r => (uB r).map (b :: ·)
  | _ => none
def uI : List Q → Option (List Int)
  | [] => some []
  | .int b :: r => (uI r).map (b :: ·)
  | _ => none
theorem uB_of {c : Cw} {S : Store} {O : Nat → Prop} : ∀ {xs : List Q} {us : List D} {bs : List Bool}, RQs c S O xs us → uB xs = some bs → allB us = some bs
  | [], _, _, r, e => by cases r; exact e
  | x :: xs, _, bs, r, e => by
    cases r with
    | cons r1 r2 =>
      cases r1 with
      | bl b =>
        simp only [uB] at e
        cases e2 : uB xs with
        | none => rw [e2] at e; cases e
        | some z => rw [e2] at e; simp only [allB, uB_of r2 e2]; exact e
      | _ => simp [uB] at e
theorem uI_of {c : Cw} {S : Store} {O : Nat → Prop} : ∀ {xs : List Q} {us : List D} {bs : List Int}, RQs c S O xs us → uI xs = some bs → allI us = some bs
  | [], _, _, r, e => by cases r; exact e
  | x :: xs, _, bs, r, e => by
    cases r with
    | cons r1 r2 =>
      cases r1 with
      | int b =>
        simp only [uI] at e
        cases e2 : uI xs with
        | none => rw [e2] at e; cases e
        | some z => rw [e2] at e; simp only [allI, uI_of r2 e2]; exact e
      | _ => simp [uI] at e
@[simp] theorem uB_map {α : Type} (f : α → Bool) (xs : List α) : uB (xs.map fun x => Q.bl (f x)) = some (xs.map f) := by
  induction xs with
  | nil => rfl
  | cons x xs ih => simp [uB, ih]
@[simp] theorem uI_map {α : Type} (f : α → Int) (xs : List α) : uI (xs.map fun x => Q.int (f x)) = some (xs.map f) := by
  induction xs with
  | nil => rfl
  | cons x xs ih => simp [uI, ih]
def uAll : List Q → Option Q := fun xs => (uB xs).map fun bs => .bl (bs.all id)
def uSum : List Q → Option Q := fun xs => (uI xs).map fun bs => .int bs.sum
def uMax : List Q → Option Q := fun xs => (uI xs).bind fun bs => (greatest bs).map .int
def uMin : List Q → Option Q := fun xs => (uI xs).bind fun bs => (least bs).map .int
theorem y_all : YL qAll uAll := fun c S O s as v ds G ra h => by
  unfold uAll at h
  cases e : uB as with
  | none => rw [e] at h; cases h
  | some bs => rw [e] at h; cases h; exact ⟨_, by simp only [qAll, uB_of ra e], .bl _⟩
theorem y_sum : YL qSum uSum := fun c S O s as v ds G ra h => by
  unfold uSum at h
  cases e : uI as with
  | none => rw [e] at h; cases h
  | some bs => rw [e] at h; cases h; exact ⟨_, by simp only [qSum, uI_of ra e], .int _⟩
theorem y_max : YL qMax uMax := fun c S O s as v ds G ra h => by
  unfold uMax at h
  cases e : uI as with
  | none => rw [e] at h; cases h
  | some bs =>
    rw [e] at h
    simp only [Option.bind_some] at h
    cases e2 : greatest bs with
    | none => rw [e2] at h; cases h
    | some m => rw [e2] at h; cases h; exact ⟨_, by simp only [qMax, uI_of ra e, e2], .int _⟩
theorem y_min : YL qMin uMin := fun c S O s as v ds G ra h => by
  unfold uMin at h
  cases e : uI as with
  | none => rw [e] at h; cases h
  | some bs =>
    rw [e] at h
    simp only [Option.bind_some] at h
    cases e2 : least bs with
    | none => rw [e2] at h; cases h
    | some m => rw [e2] at h; cases h; exact ⟨_, by simp only [qMin, uI_of ra e, e2], .int _⟩
def uTup : List Q → Option Q := fun xs => some (.tup xs)
def uLn : List Q → Option Q := fun xs => some (.int xs.length)
theorem y_tup : YL qTuple uTup := fun c S O s as v ds G ra h => by cases h; exact ⟨_, rfl, .tup ra⟩
def uKind : Q → Option String
  | .non => some "NoneType"
  | .bl _ => some "bool"
  | .int _ => some "int"
  | .str _ => some "str"
  | .tup _ => some "tuple"
  | .lst _ => some "list"
  | _ => none
theorem kind_of {c : Cw} {S : Store} {O : Nat → Prop} {a : Q} {d : D} {t : String} (r : RQ c S O a d) (h : uKind a = some t) : kindO d S = some t := by
  cases r with
  | lst h1 h2 rs => simp only [kindO, h2]; exact h
  | atr => cases h
  | drs => cases h
  | scr => cases h
  | dic _ _ _ _ => cases h
  | _ => exact h
def uIsi (T : String) : Q1 := fun a => (uKind a).bind fun t => (kitB t T).map .bl
def uTyIs (T : String) : Q1 := fun a => (uKind a).map fun t => .bl (decide (t = T))
theorem y_isi {T : String} : Y1 (pIsi T) (uIsi T) := fun c S O s a v da G ra h => by
  unfold uIsi at h
  cases e : uKind a with
  | none => rw [e] at h; cases h
  | some t =>
    rw [e] at h
    simp only [Option.bind_some] at h
    cases e2 : kitB t T with
    | none => rw [e2] at h; cases h
    | some b => rw [e2] at h; cases h; exact ⟨_, by simp only [pIsi, kind_of ra e, e2], .bl _⟩
theorem y_tyIs {T : String} : Y1 (pTyIs T) (uTyIs T) := fun c S O s a v da G ra h => by
  unfold uTyIs at h
  cases e : uKind a with
  | none => rw [e] at h; cases h
  | some t => rw [e] at h; cases h; exact ⟨_, by simp only [pTyIs, kind_of ra e], .bl _⟩
def uReprO (a : Q) : Option Str := match pyQ 60 a with
  | some x => if x.showable = true ∧ x.hasDict = false ∧ x.shown.length ≤ 16777216 then some x.shown else none
  | none => none
def uRepr : Q1 := fun a => (uReprO a).map .str
theorem y_repr : Y1 pRepr uRepr := fun c S O s a v da G ra h => by
  unfold uRepr uReprO at h
  cases e : pyQ 60 a with
  | none => rw [e] at h; cases h
  | some x =>
    rw [e] at h
    simp only at h
    by_cases hx : x.showable = true ∧ x.hasDict = false ∧ x.shown.length ≤ 16777216
    · rw [if_pos hx] at h
      cases h
      exact ⟨_, by simp only [pRepr, reprO, py_of 60 ra e, if_pos hx], .str _⟩
    · rw [if_neg hx] at h; cases h
/-- xs.index(x) -/
def qIdx (f g : EQ Q) : EQ Q := fun ρ s => bindQ (f ρ s) fun d s1 => match d with
  | .lst xs => bindQ (g ρ s1) fun e s2 => match pyQ 60 (.lst xs), pyQ 60 e with
    | some (.list as), some a => match findEq a as 0 with
      | some j => okQ (.int (j : Nat)) s2
      | none => none
    | _, _ => none
  | _ => none
section
variable {ow : List Nat}
theorem k_idx {f g : EF D} {f' g' : EQ Q} (hf : KE ow f f') (hg : KE ow g g') : KE ow (fIdx f g) (qIdx f' g') := fun c S O0 O s ρq ρ G e =>
  (hf c S O0 O s ρq ρ G e).bind fun T a v s1 st G1 ra => by
    cases ra with
    | lst h1 h2 rs =>
      rename_i xs l ds
      simp only [h2]
      refine (hg c T O0 O s1 ρq ρ G1 (e.stp st)).bind fun U b w s2 st2 G2 rb => ?_
      have ra' : RQ c U O (.lst xs) (.ref l) := (RQ.lst h1 h2 rs).stp st2 e.oc
      cases e1 : pyQ 60 (.lst xs) with
      | none => trivial
      | some x =>
        rw [py_of 60 ra' e1]
        cases x with
        | list as =>
          cases e2 : pyQ 60 w with
          | none => trivial
          | some y =>
            rw [py_of 60 rb e2]
            simp only
            cases e3 : findEq y as 0 with
            | none => trivial
            | some j => exact .ok G2 (.int _)
        | _ => trivial
    | _ => trivial
/-! ### walks -/
abbrev RIq (c : Cw) (O : Nat → Prop) : Store → List Q → List D × Chk → Prop := fun T v p => RQs c T O v p.1 ∧ ∀ q ∈ p.2, ¬ O q.1 ∧ T[q.1]? = some (.lst q.2)
abbrev KI := KG (fun c O => RIq c O)
def charsQ (z : Str) : List Q := z.cps.toList.map fun c => Q.str ⟨#[c]⟩
def uwalk : Q → Option (List Q)
  | .tup xs => some xs
  | .lst xs => some xs
  | .str z => some (charsQ z)
  | _ => none
theorem chars_of {c : Cw} {S : Store} {O : Nat → Prop} (z : Str) : RQs c S O (charsQ z) (chars z) := by
  unfold charsQ chars
  generalize z.cps.toList = l
  induction l with
  | nil => exact .nil
  | cons x l ih => exact .cons (.str _) ih
def jE (f : EQ Q) : EQ (List Q) := fun ρ s => bindQ (f ρ s) fun d s1 => liftQ (uwalk d) s1
theorem k_iE {f : EF D} {f' : EQ Q} (hf : KE ow f f') : KI ow (iE f) (jE f') := fun c S O0 O s ρq ρ G e =>
  (hf c S O0 O s ρq ρ G e).bind fun T a v s1 st G1 ra => by
    cases ra with
    | tup rs => exact .ok G1 ⟨rs, fun q hq => by cases hq⟩
    | lst h1 h2 rs => simp only [walkOf, h2]; exact .ok G1 ⟨rs, fun q hq => by cases List.mem_singleton.mp hq; exact ⟨h1, h2⟩⟩
    | str z => exact .ok G1 ⟨chars_of z, fun q hq => by cases hq⟩
    | _ => trivial
theorem k_iL {f : EF (List D)} {f' : EQ (List Q)} (hf : KA ow f f') : KI ow (iL f) f' := fun c S O0 O s ρq ρ G e => by
  have h := PostQ.bind (k := fun ds S1 => okR (ds, ([] : Chk)) S1) (k' := fun v s1 => okQ v s1) (RB := RIq c O) (hf c S O0 O s ρq ρ G e) fun T a v s1 st G1 ra => .ok G1 ⟨ra, fun q hq => by cases hq⟩
  have e2 : bindQ (f' ρq s) (fun v s1 => okQ v s1) = f' ρq s := by
    cases f' ρq s with
    | none => rfl
    | some p => obtain ⟨x, s'⟩ := p; cases x <;> rfl
  rw [e2] at h
  exact h
def qInts (lo : Int) (n : Nat) : List Q := (List.range n).map fun i => Q.int (lo + (i : Nat))
theorem ints_of {c : Cw} {S : Store} {O : Nat → Prop} (lo : Int) (n : Nat) : RQs c S O (qInts lo n) (dInts lo n) := by
  unfold qInts dInts
  generalize List.range n = l
  induction l with
  | nil => exact .nil
  | cons x l ih => exact .cons (.int _) ih
def jR1 (g : EQ (List Q)) : EQ (List Q) := fun ρ s => bindQ (g ρ s) fun ds s1 => match ds with
  | [.int j] => if j < 2 ^ 62 ∧ -(2 ^ 62) ≤ j then okQ (qInts 0 j.toNat) s1 else none
  | _ => none
theorem k_iR1 {g : EF (List D)} {g' : EQ (List Q)} (hg : KA ow g g') : KI ow (iR1 g) (jR1 g') := fun c S O0 O s ρq ρ G e =>
  (hg c S O0 O s ρq ρ G e).bind fun T a v s1 st G1 ra => by
    cases ra with
    | nil => trivial
    | cons r1 r2 =>
      cases r2 with
      | cons _ _ => cases r1 <;> trivial
      | nil =>
        cases r1 with
        | int j =>
          simp only
          by_cases h : j < 2 ^ 62 ∧ -(2 ^ 62) ≤ j
          · rw [if_pos h, if_pos h]; exact .ok G1 ⟨ints_of _ _, fun q hq => by cases hq⟩
          · rw [if_neg h, if_neg h]; trivial
        | _ => trivial
def jR2 (g : EQ (List Q)) : EQ (List Q) := fun ρ s => bindQ (g ρ s) fun ds s1 => match ds with
  | [.int i, .int j] => if (i < 2 ^ 62 ∧ -(2 ^ 62) ≤ i) ∧ j < 2 ^ 62 ∧ -(2 ^ 62) ≤ j then okQ (qInts i (j - i).toNat) s1 else none
  | _ => none
theorem k_iR2 {g : EF (List D)} {g' : EQ (List Q)} (hg : KA ow g g') : KI ow (iR2 g) (jR2 g') := fun c S O0 O s ρq ρ G e =>
  (hg c S O0 O s ρq ρ G e).bind fun T a v s1 st G1 ra => by
    cases ra with
    | nil => trivial
    | cons r1 r2 =>
      cases r2 with
      | nil => cases r1 <;> trivial
      | cons r2 r3 =>
        cases r3 with
        | cons _ _ => cases r1 <;> cases r2 <;> trivial
        | nil =>
          cases r1 with
          | int i =>
            cases r2 with
            | int j =>
              simp only
              by_cases h : (i < 2 ^ 62 ∧ -(2 ^ 62) ≤ i) ∧ j < 2 ^ 62 ∧ -(2 ^ 62) ≤ j
              · rw [if_pos h, if_pos h]; exact .ok G1 ⟨ints_of _ _, fun q hq => by cases hq⟩
              · rw [if_neg h, if_neg h]; trivial
            | _ => trivial
          | _ => cases r2 <;> trivial
def zipQ (xs ys : List Q) : List Q := List.zipWith (fun x y => Q.tup [x, y]) xs ys
def jZip (g : EQ (List Q)) : EQ (List Q) := fun ρ s => bindQ (g ρ s) fun ds s1 => match ds with
  | [.tup xs, .tup ys] => okQ (zipQ xs ys) s1
  | [.lst xs, .lst ys] => okQ (zipQ xs ys) s1
  | _ => none
def enumQ (xs : List Q) : List Q := (List.range xs.length).zipWith (fun i x => Q.tup [.int (i : Nat), x]) xs
def jEnu (g : EQ (List Q)) : EQ (List Q) := fun ρ s => bindQ (g ρ s) fun ds s1 => match ds with
  | [.lst xs] => okQ (enumQ xs) s1
  | _ => none
/-! ### targets -/
abbrev GQ := Q → RhoQ → Option RhoQ
abbrev GQs := List Q → RhoQ → Option RhoQ
def KT (ow : List Nat) (g : GF) (g' : GQ) : Prop := ∀ (c : Cw) (S : Store) (O0 O : Nat → Prop) (s : Sq) (ρq ρq' : RhoQ) (ρ : Rho) (v : Q) (d : D), Gd c S O s → Env c S O0 O ow ρq ρ → RQ c S O v d → g' v ρq = some ρq' → ∃ ρ', g d ρ S = some (ρ', S) ∧ Env c S O0 O ow ρq' ρ'
def KTs (ow : List Nat) (g : GFs) (g' : GQs) : Prop := ∀ (c : Cw) (S : Store) (O0 O : Nat → Prop) (s : Sq) (ρq ρq' : RhoQ) (ρ : Rho) (v : List Q) (d : List D), Gd c S O s → Env c S O0 O ow ρq ρ → RQs c S O v d → g' v ρq = some ρq' → ∃ ρ', g d ρ S = some (ρ', S) ∧ Env c S O0 O ow ρq' ρ'
theorem Env.set {c : Cw} {S : Store} {O0 O : Nat → Prop} {ow ow' : List Nat} {ρq : RhoQ} {ρ : Rho} {v : Q} {d : D} (e : Env c S O0 O ow ρq ρ) (r : RQ c S O v d) (i : Nat) (hi : i < 1000) (h : ∀ j ∈ ow', j ∈ ow ∧ j ≠ i ∧ j ≠ i + 1000) (h2 : ∀ j ∈ ow, j ∈ ow' ∨ j = i ∨ j = i + 1000) : Env c S O0 O ow' (ρq.set i (some v)) (ρ.set i (some d)) where
  len := by simp [e.len]
  sm := by simpa using e.sm
  val := fun j q hj hq => by
    by_cases hij : i = j
    · subst hij
      by_cases hl : i < ρq.length
      · rw [List.getElem?_set_self hl] at hq
        cases hq
        exact ⟨d, List.getElem?_set_self (by rw [← e.len]; exact hl), r⟩
      · rw [List.getElem?_eq_none (by simpa using hl)] at hq; cases hq
    · rw [List.getElem?_set_ne hij] at hq ⊢
      by_cases hw : j ∈ ow
      · rcases h2 j hw with z | z | z
        · exact absurd z hj
        · exact absurd z.symm hij
        · have := (List.getElem?_eq_some_iff.mp hq).1
          have := e.sm
          omega
      · exact e.val j q hw hq
  own := fun j q h0 hj hn hq => by
    obtain ⟨a, b, b2⟩ := h j hj
    rw [List.getElem?_set_ne (fun z => b z.symm)] at hq ⊢
    exact e.own j q h0 a (fun z => by
      rcases h2 _ z with y | y | y
      · exact hn y
      · omega
      · omega) hq
  dep := fun j q hj hq => by
    obtain ⟨a, b, b2⟩ := h _ hj
    have hji : i ≠ j := by omega
    rw [List.getElem?_set_ne hji] at hq ⊢
    exact e.dep j q a hq
  cl := fun j hj => by
    obtain ⟨a, b, b2⟩ := h _ hj
    obtain ⟨c1, c2, c3⟩ := e.cl j a
    refine ⟨?_, fun k hk => c2 k (h k hk).1, c3⟩
    rcases h2 j c1 with y | y | y
    · exact y
    · subst y; exact absurd rfl b2
    · omega
  dis := fun j k q q' l g1 g2 hj hk h1 h2 h3 h4 => by
    obtain ⟨a, b, _⟩ := h j hj
    obtain ⟨a2, b2, _⟩ := h k hk
    rw [List.getElem?_set_ne (fun z => b z.symm)] at h1 h3
    rw [List.getElem?_set_ne (fun z => b2 z.symm)] at h2 h4
    exact e.dis j k q q' l g1 g2 a a2 h1 h2 h3 h4
  sub := e.sub
  ola := e.ola
def uN (i : Nat) : GQ := fun v ρ => some (ρ.set i (some v))
theorem t_N {i : Nat} (h : i ∉ ow := by decide) (hi : i < 1000 := by decide) : KT ow (gN i) (uN i) := fun c S O0 O s ρq ρq' ρ v d G e r hg => by
  cases hg
  exact ⟨_, rfl, e.set r i hi (fun j hj => ⟨hj, fun z => h (z ▸ hj), fun z => h (e.cl i (z ▸ hj)).1⟩) fun j hj => .inl hj⟩
def uNl : GQs := fun vs ρ => match vs with
  | [] => some ρ
  | _ => none
theorem t_nl : KTs ow gNl uNl := fun c S O0 O s ρq ρq' ρ v d G e r hg => by
  cases r with
  | nil => cases hg; exact ⟨_, rfl, e⟩
  | cons _ _ => cases hg
def uCn (g : GQ) (gs : GQs) : GQs := fun vs ρ => match vs with
  | v :: r => (g v ρ).bind fun ρ' => gs r ρ'
  | [] => none
theorem t_cn {g : GF} {gs : GFs} {g' : GQ} {gs' : GQs} (h : KT ow g g') (hs : KTs ow gs gs') : KTs ow (gCn g gs) (uCn g' gs') := fun c S O0 O s ρq ρq' ρ v d G e r hg => by
  cases r with
  | nil => cases hg
  | cons r1 r2 =>
    rename_i q qs d ds
    simp only [uCn] at hg
    cases e1 : g' q ρq with
    | none => rw [e1] at hg; cases hg
    | some ρq1 =>
      rw [e1] at hg
      obtain ⟨ρ1, h1, e2⟩ := h c S O0 O s ρq ρq1 ρ q d G e r1 e1
      obtain ⟨ρ2, h2, e3⟩ := hs c S O0 O s ρq1 ρq' ρ1 qs ds G e2 r2 hg
      exact ⟨ρ2, by simp only [gCn, h1, h2], e3⟩
def uTp (n : Nat) (gs : GQs) : GQ := fun v ρ => match v with
  | .tup vs => if vs.length = n then gs vs ρ else none
  | _ => none
theorem t_tp {n : Nat} {gs : GFs} {gs' : GQs} (hs : KTs ow gs gs') : KT ow (gTp n gs) (uTp n gs') := fun c S O0 O s ρq ρq' ρ v d G e r hg => by
  cases r with
  | tup rs =>
    simp only [uTp] at hg
    split at hg
    · rename_i hl
      obtain ⟨ρ1, h1, e1⟩ := hs c S O0 O s ρq ρq' ρ _ _ G e rs hg
      exact ⟨ρ1, by simp only [gTp]; rw [if_pos (by rw [← rs.length]; exact hl)]; exact h1, e1⟩
    · cases hg
  | _ => cases hg
/-! ### comprehensions -/
def wipeQ (ρ : RhoQ) : List Nat → RhoQ
  | [] => ρ
  | v :: vs => (wipeQ ρ vs).set v none
theorem Env.unset {c : Cw} {S : Store} {O0 O : Nat → Prop} {ow : List Nat} {ρq : RhoQ} {ρ : Rho} (e : Env c S O0 O ow ρq ρ) (i : Nat) : Env c S O0 O ow (ρq.set i none) (ρ.set i none) := by
  have get : ∀ (j : Nat) (q : Q), (ρq.set i none)[j]? = some (some q) → i ≠ j := fun j q h z => by
    subst z
    by_cases hl : i < ρq.length
    · rw [List.getElem?_set_self hl] at h; cases h
    · rw [List.getElem?_eq_none (by simpa using hl)] at h; cases h
  exact {
    len := by simp [e.len]
    sm := by simpa using e.sm
    val := fun j q hj hq => by
      have hi := get j q hq
      rw [List.getElem?_set_ne hi] at hq ⊢
      exact e.val j q hj hq
    own := fun j q h0 hj hn hq => by
      have hi := get j q hq
      rw [List.getElem?_set_ne hi] at hq ⊢
      exact e.own j q h0 hj hn hq
    dep := fun j q hj hq => by
      have hi := get j q hq
      rw [List.getElem?_set_ne hi] at hq ⊢
      exact e.dep j q hj hq
    cl := e.cl
    dis := fun j k q q' l g1 g2 hj hk h1 h2 h3 h4 => by
      have i1 := get j q h1
      have i2 := get k q' h2
      rw [List.getElem?_set_ne i1] at h1 h3
      rw [List.getElem?_set_ne i2] at h2 h4
      exact e.dis j k q q' l g1 g2 hj hk h1 h2 h3 h4
    sub := e.sub
    ola := e.ola }
theorem Env.wipe {c : Cw} {S : Store} {O0 O : Nat → Prop} {ow : List Nat} {ρq : RhoQ} {ρ : Rho} (e : Env c S O0 O ow ρq ρ) : ∀ vs, Env c S O0 O ow (wipeQ ρq vs) (wipeR ρ vs)
  | [] => e
  | v :: vs => (Env.wipe e vs).unset v
def noQ {α : Type} (r : Rq α) : Rq α := match r with
  | some (.error _, _) => none
  | x => x
@[simp] theorem noQ_ok {α : Type} (a : α) (s : Sq) : noQ (some (.ok a, s) : Rq α) = some (.ok a, s) := rfl
theorem noX_q {α β : Type} {c : Cw} {O : Nat → Prop} {S : Store} {RA : Store → β → α → Prop} {r : Rs α} {q : Rq β} (h : PostQ c O S RA r q) : PostQ c O S RA (noX r) (noQ q) := by
  match q, h with
  | none, _ => trivial
  | some (.ok v, s'), ⟨U, a, e, s1, g, ra⟩ => subst e; exact ⟨U, a, rfl, s1, g, ra⟩
  | some (.error v, s'), _ => trivial
def qCompGo (g : GQ) (t : EQ Bool) (f : EQ Q) (ρ : RhoQ) : List Q → Sq → Rq (List Q)
  | [], s => okQ [] s
  | d :: r, s => match g d ρ with
    | none => none
    | some ρ2 => bindQ (noQ (t ρ2 s)) fun b s1 => if b = true then bindQ (noQ (f ρ2 s1)) fun y s2 => bindQ (qCompGo g t f ρ r s2) fun ys s3 => okQ (y :: ys) s3
        else qCompGo g t f ρ r s1
def qComp (it : EQ (List Q)) (vs : List Nat) (g : GQ) (t : EQ Bool) (f : EQ Q) : EQ (List Q) := fun ρ s => bindQ (it ρ s) fun p s1 => if p.length ≤ 16777216 then qCompGo g t f (wipeQ ρ vs) p s1 else none
theorem chk_of {c : Cw} {S T : Store} {O : Nat → Prop} {p : Chk} (h : ∀ q ∈ p, ¬ O q.1 ∧ S[q.1]? = some (.lst q.2)) (st : Stp c S T) (oc : O c.la) : ∀ q ∈ p, ¬ O q.1 ∧ T[q.1]? = some (.lst q.2) := fun q hq => ⟨(h q hq).1, st.fr _ _ (fun z => (h q hq).1 (z ▸ oc)) (h q hq).2⟩
theorem compGo_q {g : GF} {t : EF Bool} {f : EF D} {g' : GQ} {t' : EQ Bool} {f' : EQ Q} (hg : KT ow g g') (ht : KB ow t t') (hf : KE ow f f') (c : Cw) (O0 O : Nat → Prop) (p : List D × Chk) (ρq : RhoQ) (ρ : Rho) :
    ∀ (qs : List Q) (ds : List D) (aq : List Q) (acc : List D) (S : Store) (s : Sq), Gd c S O s → Env c S O0 O ow ρq ρ → RQs c S O qs ds → RQs c S O aq acc → (∀ q ∈ p.2, ¬ O q.1 ∧ S[q.1]? = some (.lst q.2)) → aq.length + qs.length ≤ 16777216 →
      PostQ c O S (fun T v a => RQs c T O (aq ++ v) a) (compGo g t f ρ p ds acc S) (qCompGo g' t' f' ρq qs s)
  | [], ds, aq, acc, S, s, G, e, r, ra, hc, hl => by
    cases r
    have : compGo g t f ρ p [] acc S = okR acc S := by simp [compGo, chk_all (p := p) fun q hq => (hc q hq).2]
    rw [this]
    exact .ok G (by rw [List.append_nil]; exact ra)
  | q :: qs, ds, aq, acc, S, s, G, e, r, ra, hc, hl => by
    cases r with
    | cons r1 r2 =>
      rename_i d ds
      simp only [List.length_cons] at hl
      simp only [compGo, chk_all (p := p) fun q hq => (hc q hq).2, if_true, qCompGo]
      cases e1 : g' q ρq with
      | none => trivial
      | some ρq2 =>
        obtain ⟨ρ2, h1, e2⟩ := hg c S O0 O s ρq ρq2 ρ q d G e r1 e1
        rw [h1]
        simp only
        refine (noX_q (ht c S O0 O s ρq2 ρ2 G e2)).bind fun T b b' s1 st G1 rb => ?_
        obtain rfl : b' = b := rb
        have ra1 := ra.stp st e.oc
        have r21 := r2.stp st e.oc
        have hc1 := chk_of hc st e.oc
        cases b' with
        | false => exact compGo_q hg ht hf c O0 O p ρq ρ qs ds aq acc T s1 G1 (e.stp st) r21 ra1 hc1 (by omega)
        | true =>
          rw [if_pos rfl, if_pos rfl]
          refine (noX_q (hf c T O0 O s1 ρq2 ρ2 G1 (e2.stp st))).bind fun U y y' s2 st2 G2 ry => ?_
          rw [if_pos (by rw [← ra1.length]; omega)]
          have := compGo_q hg ht hf c O0 O p ρq ρ qs ds (aq ++ [y']) (acc ++ [y]) U s2 G2 ((e.stp st).stp st2) (r21.stp st2 e.oc) ((ra1.stp st2 e.oc).append (.cons ry .nil)) (chk_of hc1 st2 e.oc) (by simp; omega)
          revert this
          cases qCompGo g' t' f' ρq qs s2 with
          | none => exact fun _ => trivial
          | some z =>
            obtain ⟨x, s3⟩ := z
            cases x with
            | error x => exact fun h => h
            | ok ys =>
              rintro ⟨W, a, h3, h4, h5, h6⟩
              exact ⟨W, a, h3, h4, h5, by rw [List.append_assoc] at h6; exact h6⟩
theorem k_comp {it : IF} {it' : EQ (List Q)} {vs : List Nat} {g : GF} {t : EF Bool} {f : EF D} {g' : GQ} {t' : EQ Bool} {f' : EQ Q} (hi : KI ow it it') (hg : KT ow g g') (ht : KB ow t t') (hf : KE ow f f') : KA ow (fComp it vs g t f) (qComp it' vs g' t' f') := fun c S O0 O s ρq ρ G e =>
  (hi c S O0 O s ρq ρ G e).bind fun T p v s1 st G1 ra => by
    by_cases h : v.length ≤ 16777216
    · rw [if_pos h]
      exact compGo_q hg ht hf c O0 O p _ _ v p.1 [] [] T s1 G1 ((e.stp st).wipe vs) ra.1 .nil ra.2 (by simpa using h)
    · rw [if_neg h]; trivial
def qTrue : EQ Bool := fun _ s => okQ true s
theorem k_true : KB ow tTrue qTrue := fun c S O0 O s ρq ρ G e => .ok G rfl
end
end Sh

set_option Elab.async false
set_option linter.all false
set_option maxRecDepth 100000
set_option maxHeartbeats 4000000
set_option autoImplicit false
namespace Sh
open PySem L2
/-! ### statements -/
inductive FlQ where
  | nx (ρ : RhoQ) | ret (q : Q) | bk (ρ : RhoQ) | ct (ρ : RhoQ) | exn (e : Qx) (ρ : RhoQ)
abbrev Rfq := Option (FlQ × Sq)
abbrev SFq := RhoQ → Sq → Rfq
structure StpS (c : Cw) (O0 O O' : Nat → Prop) (S T : Store) : Prop where
  le : S.length ≤ T.length
  fr : ∀ l o, l ≠ c.la → (O l → O0 l) → S[l]? = some o → T[l]? = some o
  new : ∀ l, O' l → O l ∨ S.length ≤ l
  sub : ∀ l, O0 l → O' l
section
variable {c : Cw} {O0 O O1 O2 : Nat → Prop} {S T U : Store} {ow ow' owl : List Nat} {ρq : RhoQ} {ρ : Rho} {s : Sq}
theorem StpS.trans (a : StpS c O0 O O1 S T) (b : StpS c O0 O1 O2 T U) : StpS c O0 O O2 S U where
  le := Nat.le_trans a.le b.le
  fr := fun l o h1 h2 h3 => b.fr l o h1 (fun h => by
    rcases a.new l h with z | z
    · exact h2 z
    · exact absurd (List.getElem?_eq_some_iff.mp h3).1 (by omega)) (a.fr l o h1 h2 h3)
  new := fun l h => by
    rcases b.new l h with z | z
    · exact a.new l z
    · exact .inr (Nat.le_trans a.le z)
  sub := b.sub
theorem Stp.toS (st : Stp c S T) (h : ∀ l, O0 l → O l) : StpS c O0 O O S T := ⟨st.le, fun l o h1 _ h3 => st.fr l o h1 h3, fun l h => .inl h, h⟩
theorem StpS.mv (st : StpS c O0 O O1 S T) (h : O c.la) : ∀ l o, ¬ O l → S[l]? = some o → T[l]? = some o ∧ ¬ O1 l := fun l o h1 h2 =>
  ⟨st.fr l o (fun e => h1 (e ▸ h)) (fun z => absurd z h1) h2, fun z => by
    rcases st.new l z with z | z
    · exact h1 z
    · exact absurd (List.getElem?_eq_some_iff.mp h2).1 (by omega)⟩
/-- marks stay with their slots -/
def okOw (ow ow' : List Nat) : Prop := (∀ i ∈ ow', i ∈ ow) ∧ (∀ i ∈ ow', 1000 ≤ i → i - 1000 ∈ ow') ∧ ∀ i ∈ ow', i + 1000 ∈ ow → i + 1000 ∈ ow'
instance (ow ow' : List Nat) : Decidable (okOw ow ow') := by unfold okOw; infer_instance
theorem okOw_nil (ow : List Nat) : okOw ow [] := ⟨fun _ z => (nomatch z), fun _ z => (nomatch z), fun _ z => (nomatch z)⟩
/-- lists of one's own are let go -/
theorem Env.free (e : Env c S O0 O ow ρq ρ) (G : Gd c S O s) (h : okOw ow ow') : ∃ O', (∀ l, O' l → O l) ∧ Gd c S O' s ∧ Env c S O0 O' ow' ρq ρ := by
  obtain ⟨h, h1, h2⟩ := h
  by_cases hd : ∃ k, k + 1000 ∈ ow'
  · -- the deep slot stays
    obtain ⟨k, hk⟩ := hd
    have hk' : k ∈ ow' := by have := h1 _ hk (by omega); simpa using this
    have mem : ∀ j, j ∈ ow' ↔ j ∈ ow := fun j => ⟨h j, fun hj => by
      rcases (e.cl k (h _ hk)).2.1 j hj with rfl | rfl
      · exact hk'
      · exact hk⟩
    exact ⟨O, fun _ z => z, G, {
      len := e.len
      sm := e.sm
      val := fun i q hi hq => e.val i q (fun z => hi ((mem i).mpr z)) hq
      own := fun i q h0 hi hn hq => e.own i q h0 ((mem i).mp hi) (fun z => hn ((mem _).mpr z)) hq
      dep := fun i q hi hq => e.dep i q ((mem _).mp hi) hq
      cl := fun i hi => let ⟨a, b, b2⟩ := e.cl i ((mem _).mp hi); ⟨(mem _).mpr a, fun j hj => b j ((mem _).mp hj), b2⟩
      dis := fun i j q q' l g1 g2 hi hj => e.dis i j q q' l g1 g2 ((mem _).mp hi) ((mem _).mp hj)
      sub := e.sub
      ola := e.ola }⟩
  · have nodeep : ∀ k, k + 1000 ∉ ow' := fun k hk => hd ⟨k, hk⟩
    have small : ∀ i ∈ ow', i < 1000 ∧ i + 1000 ∉ ow := fun i hi => by
      refine ⟨Classical.byContradiction fun z => ?_, fun z => nodeep i (h2 i hi z)⟩
      have e1 : i - 1000 + 1000 = i := by omega
      exact nodeep (i - 1000) (by rw [e1]; exact hi)
    have sub : ∀ l, (O0 l ∨ ∃ i ∈ ow', ∃ q, ρq[i]? = some (some q) ∧ ρ[i]? = some (some (.ref l))) → O l := fun l hl => by
      rcases hl with hl | ⟨i, hi, q, h1, h2⟩
      · exact e.sub l hl
      · obtain ⟨l', so, xs, ds, h3, h4, h5, h6, h7, h8⟩ := e.own i q (small i hi).1 (h i hi) (small i hi).2 h1
        rw [h2] at h4
        cases h4
        exact h7
    refine ⟨fun l => O0 l ∨ ∃ i ∈ ow', ∃ q, ρq[i]? = some (some q) ∧ ρ[i]? = some (some (.ref l)), sub, ⟨fun l hl => G.lt l (sub l hl), .inl e.ola, fun hl => G.old (sub _ hl), G.ha, G.hd⟩, ?_⟩
    exact {
      len := e.len
      sm := e.sm
      val := fun i q hi hq => by
        have i1000 : i < 1000 := Nat.lt_of_lt_of_le (List.getElem?_eq_some_iff.mp hq).1 e.sm
        by_cases hw : i ∈ ow
        · by_cases hdp : i + 1000 ∈ ow
          · obtain ⟨l, ls, rows, d⟩ := e.dep i q hdp hq
            have none' : ∀ j, j ∉ ow' := fun j hj => by
              rcases (e.cl i hdp).2.1 j (h j hj) with rfl | rfl
              · exact hi hj
              · exact nodeep i hj
            refine ⟨_, d.r, d.rq sub fun k hk z => ?_⟩
            rcases z with z | ⟨j, hj, _⟩
            · exact (d.no0 k hk).2 z
            · exact none' j hj
          · obtain ⟨l', so, xs, ds, h3, h4, h5, h6, h7, h8⟩ := e.own i q i1000 hw hdp hq
            refine ⟨_, h4, h3.rq (fun z => ?_) h5 (h6.wk sub)⟩
            rcases z with z | ⟨j, hj, q', h9, h10⟩
            · exact h8 z
            · have := e.dis i j _ _ l' i1000 (small j hj).1 hw (h j hj) hq h9 h4 h10
              subst this
              exact hi hj
        · obtain ⟨d, h1, h2⟩ := e.val i q hw hq
          exact ⟨d, h1, h2.wk sub⟩
      own := fun i q h0 hi hn hq => by
        obtain ⟨l', so, xs, ds, h3, h4, h5, h6, h7, h8⟩ := e.own i q h0 (h i hi) (small i hi).2 hq
        exact ⟨l', so, xs, ds, h3, h4, h5, h6.wk sub, .inr ⟨i, hi, q, hq, h4⟩, h8⟩
      dep := fun i q hi _ => absurd hi (nodeep i)
      cl := fun i hi => absurd hi (nodeep i)
      dis := fun i j q q' l g1 g2 hi hj => e.dis i j q q' l g1 g2 (h i hi) (h j hj)
      sub := fun l hl => .inl hl
      ola := e.ola }
def PostF (c : Cw) (O0 O : Nat → Prop) (S : Store) (owl ow : List Nat) (r : Rf) (q : Rfq) : Prop := match q with
  | none => True
  | some (.nx ρq, s) => ∃ T ρ O', r = some (.nx ρ, T) ∧ StpS c O0 O O' S T ∧ Gd c T O' s ∧ Env c T O0 O' ow ρq ρ
  | some (.bk ρq, s) => ∃ T ρ O', r = some (.bk ρ, T) ∧ StpS c O0 O O' S T ∧ Gd c T O' s ∧ Env c T O0 O' owl ρq ρ
  | some (.ct ρq, s) => ∃ T ρ O', r = some (.ct ρ, T) ∧ StpS c O0 O O' S T ∧ Gd c T O' s ∧ Env c T O0 O' owl ρq ρ
  | some (.ret v, s) => ∃ T d O', r = some (.ret d, T) ∧ StpS c O0 O O' S T ∧ Gd c T O' s ∧ RQ c T O0 v d
  | some (.exn e ρq, s) => ∃ T x ρ O', r = some (.exn x ρ, T) ∧ StpS c O0 O O' S T ∧ Gd c T O' s ∧ RX c T O' e x ∧ Env c T O0 O' [] ρq ρ
theorem PostF.up {r : Rf} {q : Rfq} (st : StpS c O0 O O1 S T) (h : PostF c O0 O1 T owl ow r q) : PostF c O0 O S owl ow r q := by
  match q, h with
  | none, _ => trivial
  | some (.nx _, s'), ⟨U, a, O', e, s1, g⟩ => exact ⟨U, a, O', e, st.trans s1, g⟩
  | some (.bk _, s'), ⟨U, a, O', e, s1, g⟩ => exact ⟨U, a, O', e, st.trans s1, g⟩
  | some (.ct _, s'), ⟨U, a, O', e, s1, g⟩ => exact ⟨U, a, O', e, st.trans s1, g⟩
  | some (.ret _, s'), ⟨U, a, O', e, s1, g⟩ => exact ⟨U, a, O', e, st.trans s1, g⟩
  | some (.exn _ _, s'), ⟨U, a, ρ', O', e, s1, g⟩ => exact ⟨U, a, ρ', O', e, st.trans s1, g⟩
def toSq {α : Type} (ρ : RhoQ) (r : Rq α) (k : α → Sq → Rfq) : Rfq := match r with
  | none => none
  | some (.ok a, s) => k a s
  | some (.error e, s) => some (.exn e ρ, s)
@[simp] theorem toSq_none {α : Type} (ρ : RhoQ) (k : α → Sq → Rfq) : toSq ρ none k = none := rfl
@[simp] theorem toSq_ok {α : Type} (ρ : RhoQ) (a : α) (s : Sq) (k : α → Sq → Rfq) : toSq ρ (some (.ok a, s)) k = k a s := rfl
@[simp] theorem toSq_error {α : Type} (ρ : RhoQ) (e : Qx) (s : Sq) (k : α → Sq → Rfq) : toSq ρ (some (.error e, s)) k = some (.exn e ρ, s) := rfl
theorem PostQ.toS {α β : Type} {RA : Store → β → α → Prop} {r : Rs α} {q : Rq β} {k : α → Store → Rf} {k' : β → Sq → Rfq} (h : PostQ c O S RA r q) (e : Env c S O0 O ow ρq ρ)
    (hk : ∀ T a v s', Stp c S T → Gd c T O s' → RA T v a → PostF c O0 O T owl ow' (k a T) (k' v s')) : PostF c O0 O S owl ow' (toS ρ r k) (toSq ρq q k') := by
  match q, h with
  | none, _ => trivial
  | some (.ok v, s'), ⟨U, a, e1, s1, g, ra⟩ => subst e1; exact (hk U a v s' s1 g ra).up (s1.toS e.sub)
  | some (.error v, s'), ⟨U, a, e1, s1, g, ra⟩ =>
    subst e1
    obtain ⟨O', h1, h2, h3⟩ := (e.stp s1).free (ow' := []) g (okOw_nil _)
    exact ⟨U, a, ρ, O', rfl, ⟨s1.le, fun l o h1 _ h3 => s1.fr l o h1 h3, fun l h => .inl (h1 l h), h3.sub⟩, h2, ra.mv (fun l o a b => ⟨b, fun z => a (h1 l z)⟩), h3⟩
theorem PostF.nx (G : Gd c S O s) (e : Env c S O0 O ow ρq ρ) : PostF c O0 O S owl ow (some (.nx ρ, S)) (some (.nx ρq, s)) := ⟨S, ρ, O, rfl, Stp.refl.toS e.sub, G, e⟩
end
def KS (owl ow ow' : List Nat) (f : SF) (g : SFq) : Prop := ∀ (c : Cw) (S : Store) (O0 O : Nat → Prop) (s : Sq) (ρq : RhoQ) (ρ : Rho), Gd c S O s → Env c S O0 O ow ρq ρ → PostF c O0 O S owl ow' (f ρ S) (g ρq s)
section
variable {owl ow ow' ow1 ow2 : List Nat}
theorem ks_pre {f : SF} {g : SFq} (h : KS owl ow1 ow' f g) (hs : okOw ow ow1 := by decide) : KS owl ow ow' f g := fun c S O0 O s ρq ρ G e => by
  obtain ⟨O2, h1, h2, h3⟩ := e.free G hs
  exact (h c S O0 O2 s ρq ρ h2 h3).up ⟨Nat.le_refl _, fun _ _ _ _ z => z, fun l z => .inl (h1 l z), h3.sub⟩
def qNilS : SFq := fun ρ s => some (.nx ρ, s)
theorem ks_nil : KS owl ow ow sNil qNilS := fun c S O0 O s ρq ρ G e => .nx G e
def qSeq (f g : SFq) : SFq := fun ρ s => match f ρ s with
  | some (.nx ρ', s') => g ρ' s'
  | r => r
theorem ks_seq {f g : SF} {f' g' : SFq} (hf : KS owl ow ow1 f f') (hg : KS owl ow1 ow2 g g') : KS owl ow ow2 (sSeq f g) (qSeq f' g') := fun c S O0 O s ρq ρ G e => by
  have h := hf c S O0 O s ρq ρ G e
  revert h
  unfold qSeq
  cases hq : f' ρq s with
  | none => exact fun _ => trivial
  | some z =>
    obtain ⟨fl, s'⟩ := z
    cases fl with
    | nx ρ' =>
      rintro ⟨T, ρ1, O', e1, st, G1, en⟩
      simp only [sSeq, e1]
      exact (hg c T O0 O' s' ρ' ρ1 G1 en).up st
    | ret d => rintro ⟨T, d, O', e1, h⟩; exact ⟨T, d, O', by simp only [sSeq, e1], h⟩
    | bk d => rintro ⟨T, d, O', e1, h⟩; exact ⟨T, d, O', by simp only [sSeq, e1], h⟩
    | ct d => rintro ⟨T, d, O', e1, h⟩; exact ⟨T, d, O', by simp only [sSeq, e1], h⟩
    | exn x d => rintro ⟨T, d, r, O', e1, h⟩; exact ⟨T, d, r, O', by simp only [sSeq, e1], h⟩
def qBreak : SFq := fun ρ s => some (.bk ρ, s)
def qCont : SFq := fun ρ s => some (.ct ρ, s)
def qExpr (f : EQ Q) : SFq := fun ρ s => toSq ρ (f ρ s) fun _ s1 => some (.nx ρ, s1)
theorem ks_expr {f : EF D} {f' : EQ Q} (hf : KE ow f f') : KS owl ow ow (sExpr f) (qExpr f') := fun c S O0 O s ρq ρ G e =>
  (hf c S O0 O s ρq ρ G e).toS e fun T a v s' st G1 ra => .nx G1 (e.stp st)
def qRet (f : EQ Q) : SFq := fun ρ s => toSq ρ (f ρ s) fun v s1 => some (.ret v, s1)
theorem ks_ret {f : EF D} {f' : EQ Q} (hf : KE ow f f') : KS owl ow ow' (sRet f) (qRet f') := fun c S O0 O s ρq ρ G e =>
  (hf c S O0 O s ρq ρ G e).toS e fun T a v s' st G1 ra => ⟨T, a, O, rfl, Stp.refl.toS e.sub, G1, ra.wk e.sub⟩
def qRetN : SFq := fun ρ s => some (.ret .non, s)
def qIfS (t : EQ Bool) (f g : SFq) : SFq := fun ρ s => toSq ρ (t ρ s) fun b s1 => if b = true then f ρ s1 else g ρ s1
theorem ks_if {t : EF Bool} {t' : EQ Bool} {f g : SF} {f' g' : SFq} (ht : KB ow t t') (hf : KS owl ow ow' f f') (hg : KS owl ow ow' g g') : KS owl ow ow' (sIf t f g) (qIfS t' f' g') := fun c S O0 O s ρq ρ G e =>
  (ht c S O0 O s ρq ρ G e).toS e fun T a v s' st G1 ra => by
    obtain rfl : v = a := ra
    cases v with
    | true => exact hf c T O0 O s' ρq ρ G1 (e.stp st)
    | false => exact hg c T O0 O s' ρq ρ G1 (e.stp st)
def qAsg (f : EQ Q) (g : GQ) : SFq := fun ρ s => toSq ρ (f ρ s) fun v s1 => match g v ρ with
  | none => none
  | some ρ' => some (.nx ρ', s1)
theorem ks_asg {f : EF D} {f' : EQ Q} {g : GF} {g' : GQ} (hf : KE ow f f') (hg : KT ow g g') : KS owl ow ow (sAsg f g) (qAsg f' g') := fun c S O0 O s ρq ρ G e =>
  (hf c S O0 O s ρq ρ G e).toS e fun T a v s' st G1 ra => by
    cases h : g' v ρq with
    | none => trivial
    | some ρq' =>
      obtain ⟨ρ', h1, h2⟩ := hg c T O0 O s' ρq ρq' ρ v a G1 (e.stp st) ra h
      rw [h1]
      exact .nx G1 h2
def qSet (f : EQ Q) (i : Nat) : SFq := fun ρ s => toSq ρ (f ρ s) fun v s1 => some (.nx (ρ.set i (some v)), s1)
theorem ks_set {f : EF D} {f' : EQ Q} {i : Nat} (hf : KE ow f f') (h : ∀ j ∈ ow', j ∈ ow ∧ j ≠ i ∧ j ≠ i + 1000 := by decide) (h2 : ∀ j ∈ ow, j ∈ ow' ∨ j = i ∨ j = i + 1000 := by decide) (hi : i < 1000 := by decide) : KS owl ow ow' (sAsg f (gN i)) (qSet f' i) := fun c S O0 O s ρq ρ G e =>
  (hf c S O0 O s ρq ρ G e).toS e fun T a v s' st G1 ra => .nx G1 ((e.stp st).set ra i hi h h2)
/-- a new list becomes one's own -/
theorem Env.take {c : Cw} {S : Store} {O0 O : Nat → Prop} {ρq : RhoQ} {ρ : Rho} {s : Sq} {v : List Q} {a : List D} {qv : Q} {so : SO} (e : Env c S O0 O ow ρq ρ) (G : Gd c S O s) (ra : RQs c S O v a) (ov : OV qv so v a) (i : Nat) (hi : i ∈ ow') (h : ∀ j ∈ ow', j ∈ ow ∨ j = i) (h2 : ∀ j ∈ ow, j ∈ ow') (hs : ∀ j ∈ ow', j < 1000) :
    StpS c O0 O (fun l => O l ∨ l = S.length) S (S ++ [so]) ∧ Gd c (S ++ [so]) (fun l => O l ∨ l = S.length) s ∧ Env c (S ++ [so]) O0 (fun l => O l ∨ l = S.length) ow' (ρq.set i (some qv)) (ρ.set i (some (.ref S.length))) := by
  have Gp := G.put (so)
  have mv : ∀ l o, ¬ O l → S[l]? = some o → (S ++ [so])[l]? = some o ∧ ¬ (O l ∨ l = S.length) := fun l o h1 h2 => by
    have hl := (List.getElem?_eq_some_iff.mp h2).1
    exact ⟨by rw [List.getElem?_append_left hl]; exact h2, fun z => z.elim h1 (fun z => by omega)⟩
  refine ⟨⟨by simp, fun l o h1 _ h3 => (Stp.put (c := c) (S := S) (so)).fr l o h1 h3, fun l z => z.elim .inl (fun z => .inr (by omega)), fun l z => .inl (e.sub l z)⟩, ⟨fun l z => z.elim (Gp.lt l) (fun z => by subst z; simp), .inl G.ola, fun z => z.elim G.old (fun z => ?_), Gp.ha, Gp.hd⟩, ?_⟩
  · have := (List.getElem?_eq_some_iff.mp G.hd).1; omega
  have ne : ∀ l o, S[l]? = some o → l ≠ S.length := fun l o h => by have := (List.getElem?_eq_some_iff.mp h).1; omega
  have look : ∀ (k : Nat) (q : Q), (ρq.set i (some qv))[k]? = some (some q) → (k = i ∧ k < ρ.length) ∨ (k ≠ i ∧ ρq[k]? = some (some q)) := fun k q hq => by
    by_cases hk : k = i
    · left
      subst hk
      refine ⟨rfl, ?_⟩
      by_cases hl : k < ρq.length
      · rw [← e.len]; exact hl
      · rw [List.getElem?_eq_none (by simpa using hl)] at hq; cases hq
    · right
      rw [List.getElem?_set_ne (fun z => hk z.symm)] at hq
      exact ⟨hk, hq⟩
  have nd : ∀ j ∈ ow, j + 1000 ∉ ow := fun j _ z => by have := hs _ (h2 _ z); omega
  exact {
    len := by simp [e.len]
    sm := by simpa using e.sm
    val := fun j q hj hq => by
      have hji : i ≠ j := fun z => hj (z ▸ hi)
      rw [List.getElem?_set_ne hji] at hq ⊢
      obtain ⟨d, h3, h4⟩ := e.val j q (fun z => hj (h2 j z)) hq
      exact ⟨d, h3, h4.mv mv⟩
    own := fun j q h0 hj hn hq => by
      by_cases hji : i = j
      · subst hji
        by_cases hl : i < ρq.length
        · rw [List.getElem?_set_self hl] at hq
          cases hq
          exact ⟨S.length, so, v, a, ov, List.getElem?_set_self (by rw [← e.len]; exact hl), by simp, ra.mv mv, .inr rfl, fun z => Nat.lt_irrefl _ (G.lt _ (e.sub _ z))⟩
        · rw [List.getElem?_eq_none (by simpa using hl)] at hq; cases hq
      · rw [List.getElem?_set_ne hji] at hq ⊢
        obtain ⟨l, so2, xs, ds, h3, h4, h5, h6, h7, h8⟩ := e.own j q h0 ((h j hj).elim id (fun z => absurd z.symm hji)) (fun z => hn (h2 _ z)) hq
        exact ⟨l, so2, xs, ds, h3, h4, (by rw [List.getElem?_append_left (List.getElem?_eq_some_iff.mp h5).1]; exact h5), h6.mv mv, .inl h7, h8⟩
    dep := fun j q hj _ => by have := hs _ hj; omega
    cl := fun j hj => by have := hs _ hj; omega
    dis := fun j k q q' l g1 g2 hj hk h3 h4 h5 h6 => by
      rcases look j q h3 with ⟨rfl, a1⟩ | ⟨a1, a2⟩
      · rw [List.getElem?_set_self a1] at h5
        cases h5
        rcases look k q' h4 with ⟨rfl, b1⟩ | ⟨b1, b2⟩
        · rfl
        · rw [List.getElem?_set_ne (fun z => b1 z.symm)] at h6
          obtain ⟨l', _, xs, ds, _, n4, n5, _⟩ := e.own k q' g2 ((h k hk).elim id (fun z => absurd z b1)) (fun z => by have := hs _ (h2 _ z); omega) b2
          rw [h6] at n4
          cases n4
          exact absurd rfl (ne _ _ n5)
      · rw [List.getElem?_set_ne (fun z => a1 z.symm)] at h5
        have hj' := (h j hj).elim id (fun z => absurd z a1)
        rcases look k q' h4 with ⟨rfl, b1⟩ | ⟨b1, b2⟩
        · rw [List.getElem?_set_self b1] at h6
          cases h6
          obtain ⟨l', _, xs, ds, _, n4, n5, _⟩ := e.own j q g1 hj' (fun z => by have := hs _ (h2 _ z); omega) a2
          rw [h5] at n4
          cases n4
          exact absurd rfl (ne _ _ n5)
        · rw [List.getElem?_set_ne (fun z => b1 z.symm)] at h6
          exact e.dis j k q q' l g1 g2 hj' ((h k hk).elim id (fun z => absurd z b1)) a2 b2 h5 h6
    sub := fun l z => .inl (e.sub l z)
    ola := e.ola }
theorem ks_own {f : EF (List D)} {f' : EQ (List Q)} {i : Nat} (hf : KA ow f f') (hi : i ∈ ow' := by decide) (h : ∀ j ∈ ow', j ∈ ow ∨ j = i := by decide) (h2 : ∀ j ∈ ow, j ∈ ow' := by decide) (hs : ∀ j ∈ ow', j < 1000 := by decide) : KS owl ow ow' (sAsg (fAl f) (gN i)) (qSet (qAl f') i) := fun c S O0 O s ρq ρ G e => by
  have hq := hf c S O0 O s ρq ρ G e
  unfold qSet qAl sAsg fAl
  match hf1 : f' ρq s, hq with
  | none, _ => trivial
  | some (.ok v, s'), ⟨U, a, e1, s1, g, ra⟩ =>
    simp only [e1, bindR_ok, bindQ_ok, toS_ok, toSq_ok, gN]
    obtain ⟨x1, x2, x3⟩ := (e.stp s1).take g ra (.lst _ _) i hi h h2 hs
    exact ⟨_, _, _, rfl, (s1.toS e.sub).trans x1, x2, x3⟩
  | some (.error v, s'), ⟨U, a, e1, s1, g, ra⟩ =>
    simp only [e1, bindR_error, bindQ_error, toS_error, toSq_error]
    obtain ⟨O', h1, h2, h3⟩ := (e.stp s1).free (ow' := []) g (okOw_nil _)
    exact ⟨U, a, ρ, O', rfl, ⟨s1.le, fun l o h1 _ h3 => s1.fr l o h1 h3, fun l h => .inl (h1 l h), h3.sub⟩, h2, ra.mv (fun l o a b => ⟨b, fun z => a (h1 l z)⟩), h3⟩
/-- a list of one's own is changed -/
theorem Env.wr {c : Cw} {S : Store} {O0 O : Nat → Prop} {ρq : RhoQ} {ρ : Rho} {s : Sq} {xs' : List Q} {ds' : List D} {i l : Nat} {q qv : Q} {so : SO} (e : Env c S O0 O ow ρq ρ) (G : Gd c S O s) (hi : i ∈ ow) (hn : i + 1000 ∉ ow) (h0 : i < 1000) (hq : ρq[i]? = some (some q)) (hr : ρ[i]? = some (some (.ref l))) (ra : RQs c S O xs' ds') (ov : OV qv so xs' ds') :
    StpS c O0 O O S (S.set l (so)) ∧ Gd c (S.set l (so)) O s ∧ Env c (S.set l (so)) O0 O ow (ρq.set i (some qv)) ρ := by
  obtain ⟨l', so0, xs, ds, h3, h4, h5, h6, h7, h8⟩ := e.own i q h0 hi hn hq
  rw [hr] at h4
  cases h4
  have nla : l ≠ c.la := fun z => h8 (z ▸ e.ola)
  have nld : l ≠ c.ld := fun z => G.old (z ▸ h7)
  have mv : ∀ k o, ¬ O k → S[k]? = some o → (S.set l (so))[k]? = some o ∧ ¬ O k := fun k o h1 h2 => ⟨by
    have hk : l ≠ k := fun z => h1 (by rw [← z]; exact h7)
    rw [List.getElem?_set_ne hk]; exact h2, h1⟩
  refine ⟨⟨by simp, fun k o h1 h2 h3 => by
    have hk : l ≠ k := fun z => h8 (by subst z; exact h2 h7)
    rw [List.getElem?_set_ne hk]; exact h3, fun k z => .inl z, e.sub⟩, ⟨fun k z => by simpa using G.lt k z, G.ola, G.old, by rw [List.getElem?_set_ne nla]; exact G.ha, by rw [List.getElem?_set_ne nld]; exact G.hd⟩, ?_⟩
  have look : ∀ (k : Nat) (q' : Q), (ρq.set i (some qv))[k]? = some (some q') → ∃ q2, ρq[k]? = some (some q2) := fun k q' hk => by
    by_cases hki : i = k
    · subst hki; exact ⟨q, hq⟩
    · rw [List.getElem?_set_ne hki] at hk; exact ⟨q', hk⟩
  have nd : ∀ k, k + 1000 ∉ ow := fun k z => by
    obtain ⟨a, b, _⟩ := e.cl k z
    rcases b i hi with y | y
    · subst y; exact hn z
    · omega
  exact {
    len := by simp [e.len]
    sm := by simpa using e.sm
    val := fun j q' hj hq' => by
      have hij : i ≠ j := fun z => hj (by rw [← z]; exact hi)
      rw [List.getElem?_set_ne hij] at hq'
      obtain ⟨d, a1, a2⟩ := e.val j q' hj hq'
      exact ⟨d, a1, a2.mv mv⟩
    own := fun j q' g0 hj gn hq' => by
      by_cases hji : i = j
      · subst hji
        rw [List.getElem?_set_self (List.getElem?_eq_some_iff.mp hq).1] at hq'
        cases hq'
        exact ⟨l, so, xs', ds', ov, hr, List.getElem?_set_self (List.getElem?_eq_some_iff.mp h5).1, ra.mv mv, h7, h8⟩
      · rw [List.getElem?_set_ne hji] at hq'
        obtain ⟨l2, so2, xs2, ds2, b3, b4, b5, b6, b7, b8⟩ := e.own j q' g0 hj gn hq'
        have : l ≠ l2 := fun z => hji (e.dis i j q q' l h0 g0 hi hj hq hq' hr (z ▸ b4))
        exact ⟨l2, so2, xs2, ds2, b3, b4, by rw [List.getElem?_set_ne this]; exact b5, b6.mv mv, b7, b8⟩
    dep := fun j q' hj _ => absurd hj (nd j)
    cl := fun j hj => absurd hj (nd j)
    dis := fun j k q1 q2 l2 g1 g2 hj hk a1 a2 a3 a4 => by
      obtain ⟨_, a1⟩ := look j q1 a1
      obtain ⟨_, a2⟩ := look k q2 a2
      exact e.dis j k _ _ l2 g1 g2 hj hk a1 a2 a3 a4
    sub := e.sub
    ola := e.ola }
/-- xs.append(x) -/
def qApd (i : Nat) (f : EQ Q) : SFq := fun ρ s => match ρ[i]? with
  | some (some (.lst xs)) => toSq ρ (f ρ s) fun v s1 => if xs.length < 16777216 then some (.nx (ρ.set i (some (.lst (xs ++ [v])))), s1) else none
  | _ => none
theorem ks_apd {i : Nat} {f : EF D} {f' : EQ Q} (hf : KE ow f f') (hi : i ∈ ow := by decide) (hn : i + 1000 ∉ ow := by decide) (h0 : i < 1000 := by decide) : KS owl ow ow (sExpr (fApd (fVar i) f)) (qApd i f') := fun c S O0 O s ρq ρ G e => by
  unfold qApd
  match h1 : ρq[i]? with
  | none => trivial
  | some none => trivial
  | some (some q) =>
    rcases e.ownC i q h0 hi hn h1 with ⟨l, ks, xs, rfl, h3⟩ | ⟨l, xs, ds, rfl, h3, h4, h5, h6, h7⟩
    · trivial
    have hq := hf c S O0 O s ρq ρ G e
    simp only [sExpr, fApd, fVar, h3, h4]
    match hf1 : f' ρq s, hq with
    | none, _ => trivial
    | some (.ok v, s'), ⟨U, a, e1, s1, g, ra⟩ =>
      have h4' := s1.fr l _ (fun z => h7 (z ▸ e.ola)) h4
      simp only [e1, bindR_ok, toSq_ok, h4']
      by_cases hl : xs.length < 16777216
      · rw [if_pos hl, if_pos (by rw [← h5.length]; exact hl)]
        obtain ⟨x1, x2, x3⟩ := (e.stp s1).wr g hi hn h0 h1 h3 ((h5.stp s1 e.oc).append (.cons ra .nil)) (.lst _ _)
        exact ⟨_, ρ, O, rfl, (s1.toS e.sub).trans x1, x2, x3⟩
      · rw [if_neg hl]; trivial
    | some (.error v, s'), ⟨U, a, e1, s1, g, ra⟩ =>
      simp only [e1, bindR_error, toSq_error, toS_error]
      obtain ⟨O', h1, h2, h3⟩ := (e.stp s1).free (ow' := []) g (okOw_nil _)
      exact ⟨U, a, ρ, O', rfl, ⟨s1.le, fun l o h1 _ h3 => s1.fr l o h1 h3, fun l h => .inl (h1 l h), h3.sub⟩, h2, ra.mv (fun l o a b => ⟨b, fun z => a (h1 l z)⟩), h3⟩
/-- xs[k] = x -/
def qSetIx (i : Nat) (f g : EQ Q) : SFq := fun ρ s => toSq ρ (f ρ s) fun v s1 => match ρ[i]? with
  | some (some (.lst xs)) => match g ρ s1 with
    | some (.ok (.int k), s2) => match ixN xs.length k with
      | some j => some (.nx (ρ.set i (some (.lst (xs.set j v)))), s2)
      | none => none
    | _ => none
  | _ => none
theorem ks_setIx {i : Nat} {f g : EF D} {f' g' : EQ Q} (hf : KE ow f f') (hg : KE ow g g') (hi : i ∈ ow := by decide) (hn : i + 1000 ∉ ow := by decide) (h0 : i < 1000 := by decide) : KS owl ow ow (sAsg f (gIx (fVar i) g)) (qSetIx i f' g') := fun c S O0 O s ρq ρ G e =>
  (hf c S O0 O s ρq ρ G e).toS e fun T a v s' st G1 ra => by
    have e' := e.stp st
    match h1 : ρq[i]? with
    | none => trivial
    | some none => trivial
    | some (some q) =>
      rcases e'.ownC i q h0 hi hn h1 with ⟨l, ks, xs, rfl, h3⟩ | ⟨l, xs, ds, rfl, h3, h4, h5, h6, h7⟩
      · trivial
      have hq := hg c T O0 O s' ρq ρ G1 e'
      simp only [gIx, fVar, h3]
      match hf1 : g' ρq s', hq with
      | none, _ => trivial
      | some (.ok v2, s2), ⟨U, a2, e1, s1, g2, ra2⟩ =>
        cases ra2 with
        | int k =>
          have h4' := s1.fr l _ (fun z => h7 (z ▸ e.ola)) h4
          simp only [e1, h4', ← h5.length]
          cases hk : ixN xs.length k with
          | none => trivial
          | some j =>
            obtain ⟨x1, x2, x3⟩ := (e'.stp s1).wr g2 hi hn h0 h1 h3 ((h5.stp s1 e.oc).set (ra.stp s1 e.oc) j) (.lst _ _)
            exact ⟨_, ρ, O, rfl, (s1.toS e.sub).trans x1, x2, x3⟩
        | _ => trivial
      | some (.error v, s'), _ => trivial
/-! loops -/
def qForGo (g : GQ) (b : SFq) : List Q → RhoQ → Sq → Rfq
  | [], ρ, s => some (.nx ρ, s)
  | d :: r, ρ, s => match g d ρ with
    | none => none
    | some ρ2 => match b ρ2 s with
      | some (.nx ρ3, s3) => qForGo g b r ρ3 s3
      | some (.ct ρ3, s3) => qForGo g b r ρ3 s3
      | some (.bk ρ3, s3) => some (.nx ρ3, s3)
      | x => x
def qFor (it : EQ (List Q)) (g : GQ) (b : SFq) : SFq := fun ρ s => toSq ρ (it ρ s) fun p s1 => qForGo g b p ρ s1
theorem forGo_q {g : GF} {b : SF} {g' : GQ} {b' : SFq} (hg : KT ow g g') (hb : KS ow ow ow b b') (c : Cw) (O0 : Nat → Prop) (p : List D × Chk) :
    ∀ (qs : List Q) (ds : List D) (S : Store) (O : Nat → Prop) (s : Sq) (ρq : RhoQ) (ρ : Rho), Gd c S O s → Env c S O0 O ow ρq ρ → RQs c S O qs ds → (∀ q ∈ p.2, ¬ O q.1 ∧ S[q.1]? = some (.lst q.2)) →
      PostF c O0 O S owl ow (forGo g b p ds ρ S) (qForGo g' b' qs ρq s)
  | [], ds, S, O, s, ρq, ρ, G, e, r, hc => by
    cases r
    have : forGo g b p [] ρ S = some (.nx ρ, S) := by simp [forGo, chk_all (p := p) fun q hq => (hc q hq).2]
    rw [this]
    exact .nx G e
  | q :: qs, ds, S, O, s, ρq, ρ, G, e, r, hc => by
    cases r with
    | cons r1 r2 =>
      rename_i d ds
      simp only [forGo, chk_all (p := p) fun q hq => (hc q hq).2, if_true, qForGo]
      cases e1 : g' q ρq with
      | none => trivial
      | some ρq2 =>
        obtain ⟨ρ2, h1, e2⟩ := hg c S O0 O s ρq ρq2 ρ q d G e r1 e1
        rw [h1]
        simp only
        have h := hb c S O0 O s ρq2 ρ2 G e2
        have go : ∀ (T : Store) (O1 : Nat → Prop) (s1 : Sq) (ρq3 : RhoQ) (ρ3 : Rho), StpS c O0 O O1 S T → Gd c T O1 s1 → Env c T O0 O1 ow ρq3 ρ3 → PostF c O0 O S owl ow (forGo g b p ds ρ3 T) (qForGo g' b' qs ρq3 s1) := fun T O1 s1 ρq3 ρ3 st G1 en =>
          (forGo_q hg hb c O0 p qs ds T O1 s1 ρq3 ρ3 G1 en (r2.mv (st.mv e.oc)) (fun x hx => let ⟨a, b⟩ := st.mv e.oc x.1 _ (hc x hx).1 (hc x hx).2; ⟨b, a⟩)).up st
        revert h
        cases hq : b' ρq2 s with
        | none => exact fun _ => trivial
        | some z =>
          obtain ⟨fl, s'⟩ := z
          cases fl with
          | nx ρ' => rintro ⟨T, ρ3, O1, e3, st, G1, en⟩; simp only [e3]; exact go T O1 s' ρ' ρ3 st G1 en
          | ct ρ' => rintro ⟨T, ρ3, O1, e3, st, G1, en⟩; simp only [e3]; exact go T O1 s' ρ' ρ3 st G1 en
          | bk ρ' => rintro ⟨T, ρ3, O1, e3, st, G1, en⟩; simp only [e3]; exact ⟨T, ρ3, O1, rfl, st, G1, en⟩
          | ret d => rintro ⟨T, d, O', e1, h⟩; exact ⟨T, d, O', by simp only [e1], h⟩
          | exn x d => rintro ⟨T, d, r, O', e1, h⟩; exact ⟨T, d, r, O', by simp only [e1], h⟩
theorem ks_for {it : IF} {it' : EQ (List Q)} {g : GF} {b : SF} {g' : GQ} {b' : SFq} (hi : KI ow it it') (hg : KT ow g g') (hb : KS ow ow ow b b') : KS owl ow ow (sFor it g b) (qFor it' g' b') := fun c S O0 O s ρq ρ G e =>
  (hi c S O0 O s ρq ρ G e).toS e fun T p v s1 st G1 ra => forGo_q hg hb c O0 p v p.1 T O s1 ρq ρ G1 (e.stp st) ra.1 ra.2
def qWhileN (t : EQ Bool) (b : SFq) : Nat → RhoQ → Sq → Rfq
  | 0, _, _ => none
  | n + 1, ρ, s => toSq ρ (t ρ s) fun x s1 => if x = true then
      match b ρ s1 with
      | some (.nx ρ2, s2) => qWhileN t b n ρ2 s2
      | some (.ct ρ2, s2) => qWhileN t b n ρ2 s2
      | some (.bk ρ2, s2) => some (.nx ρ2, s2)
      | x => x
    else some (.nx ρ, s1)
theorem qWhileN_succ {t : EQ Bool} {b : SFq} : ∀ {n : Nat} {ρ : RhoQ} {s : Sq} {r : FlQ × Sq}, qWhileN t b n ρ s = some r → qWhileN t b (n + 1) ρ s = some r
  | 0, _, _, _, h => by simp [qWhileN] at h
  | n + 1, ρ, S, r, h => by
    unfold qWhileN at h ⊢
    cases e : t ρ S with
    | none => rw [e] at h; simp at h
    | some p =>
      obtain ⟨x, S1⟩ := p
      rw [e] at h
      cases x with
      | error er => exact h
      | ok x =>
        simp only [toSq_ok] at h ⊢
        cases x with
        | false => exact h
        | true =>
          rw [if_pos rfl] at h ⊢
          cases e2 : b ρ S1 with
          | none => rw [e2] at h; exact h
          | some q =>
            obtain ⟨fl, S2⟩ := q
            rw [e2] at h
            cases fl with
            | nx ρ2 => exact qWhileN_succ h
            | ct ρ2 => exact qWhileN_succ h
            | bk ρ2 => exact h
            | ret d => exact h
            | exn e ρ2 => exact h
theorem qWhileN_le {t : EQ Bool} {b : SFq} {n m : Nat} {ρ : RhoQ} {s : Sq} {r : FlQ × Sq} (h : qWhileN t b n ρ s = some r) (hm : n ≤ m) : qWhileN t b m ρ s = some r := by
  induction hm with
  | refl => exact h
  | step _ ih => exact qWhileN_succ ih
open Classical in
noncomputable def qWhile (t : EQ Bool) (b : SFq) : SFq := fun ρ s => if h : ∃ n, (qWhileN t b n ρ s).isSome = true then qWhileN t b (Classical.choose h) ρ s else none
theorem qWhile_of {t : EQ Bool} {b : SFq} {n : Nat} {ρ : RhoQ} {s : Sq} {r : FlQ × Sq} (h : qWhileN t b n ρ s = some r) : qWhile t b ρ s = some r := by
  have hx : ∃ n, (qWhileN t b n ρ s).isSome = true := ⟨n, by rw [h]; rfl⟩
  unfold qWhile
  rw [dif_pos hx]
  have hc := Classical.choose_spec hx
  cases e : qWhileN t b (Classical.choose hx) ρ s with
  | none => rw [e] at hc; simp at hc
  | some q =>
    rcases Nat.le_total n (Classical.choose hx) with z | z
    · rw [← qWhileN_le h z, e]
    · rw [← h, qWhileN_le e z]
theorem whileN_q {t : EF Bool} {t' : EQ Bool} {b : SF} {b' : SFq} (ht : KB ow t t') (hb : KS ow ow ow b b') (c : Cw) (O0 : Nat → Prop) :
    ∀ (n : Nat) (S : Store) (O : Nat → Prop) (s : Sq) (ρq : RhoQ) (ρ : Rho), Gd c S O s → Env c S O0 O ow ρq ρ → PostF c O0 O S owl ow (whileN t b n ρ S) (qWhileN t' b' n ρq s)
  | 0, S, O, s, ρq, ρ, G, e => trivial
  | n + 1, S, O, s, ρq, ρ, G, e => (ht c S O0 O s ρq ρ G e).toS e fun T a v s1 st G1 ra => by
    obtain rfl : v = a := ra
    cases v with
    | false => exact .nx G1 (e.stp st)
    | true =>
      simp only [if_true]
      have h := hb c T O0 O s1 ρq ρ G1 (e.stp st)
      have go : ∀ (U : Store) (O1 : Nat → Prop) (s2 : Sq) (ρq3 : RhoQ) (ρ3 : Rho), StpS c O0 O O1 T U → Gd c U O1 s2 → Env c U O0 O1 ow ρq3 ρ3 → PostF c O0 O T owl ow (whileN t b n ρ3 U) (qWhileN t' b' n ρq3 s2) := fun U O1 s2 ρq3 ρ3 st2 G2 en =>
        (whileN_q ht hb c O0 n U O1 s2 ρq3 ρ3 G2 en).up st2
      revert h
      cases hq : b' ρq s1 with
      | none => exact fun _ => trivial
      | some z =>
        obtain ⟨fl, s'⟩ := z
        cases fl with
        | nx ρ' => rintro ⟨T, ρ3, O1, e3, st, G1, en⟩; simp only [e3]; exact go T O1 s' ρ' ρ3 st G1 en
        | ct ρ' => rintro ⟨T, ρ3, O1, e3, st, G1, en⟩; simp only [e3]; exact go T O1 s' ρ' ρ3 st G1 en
        | bk ρ' => rintro ⟨T, ρ3, O1, e3, st, G1, en⟩; simp only [e3]; exact ⟨T, ρ3, O1, rfl, st, G1, en⟩
        | ret d => rintro ⟨T, d, O', e1, h⟩; exact ⟨T, d, O', by simp only [e1], h⟩
        | exn x d => rintro ⟨T, d, r, O', e1, h⟩; exact ⟨T, d, r, O', by simp only [e1], h⟩
theorem PostF.some {c : Cw} {O0 O : Nat → Prop} {S : Store} {r : Rf} {q : Rfq} {z : FlQ × Sq} (h : PostF c O0 O S owl ow r q) (e : q = some z) : ∃ x, r = some x := by
  subst e
  obtain ⟨fl, s⟩ := z
  cases fl with
  | nx _ => obtain ⟨_, _, _, e, _⟩ := h; exact ⟨_, e⟩
  | ct _ => obtain ⟨_, _, _, e, _⟩ := h; exact ⟨_, e⟩
  | bk _ => obtain ⟨_, _, _, e, _⟩ := h; exact ⟨_, e⟩
  | ret _ => obtain ⟨_, _, _, e, _⟩ := h; exact ⟨_, e⟩
  | exn _ _ => obtain ⟨_, _, _, _, e, _⟩ := h; exact ⟨_, e⟩
theorem ks_while {t : EF Bool} {t' : EQ Bool} {b : SF} {b' : SFq} (ht : KB ow t t') (hb : KS ow ow ow b b') : KS owl ow ow (sWhile t b) (qWhile t' b') := fun c S O0 O s ρq ρ G e => by
  unfold qWhile
  split
  · rename_i hx
    have h := whileN_q (owl := owl) ht hb c O0 (Classical.choose hx) S O s ρq ρ G e
    have hc := Classical.choose_spec hx
    obtain ⟨z, hz⟩ := Option.isSome_iff_exists.mp hc
    obtain ⟨x, hx2⟩ := h.some hz
    rw [sWhile_of hx2, ← hx2]
    exact h
  · trivial
/-! errors -/
def qRaise (x f : Str) (g : EQ Q) : SFq := fun ρ s => toSq ρ (g ρ s) fun v s1 => some (.exn (x, [(f, v)]) ρ, s1)
theorem ks_raise {x f : Str} {g : EF D} {g' : EQ Q} (hg : KE ow g g') : KS owl ow ow' (sRaise x f g) (qRaise x f g') := fun c S O0 O s ρq ρ G e =>
  (hg c S O0 O s ρq ρ G e).toS e fun T a v s' st G1 ra => by
    obtain ⟨O', h1, h2, h3⟩ := (e.stp st).free (ow' := []) G1 (okOw_nil _)
    exact ⟨T, _, ρ, O', rfl, ⟨Nat.le_refl _, fun _ _ _ _ z => z, fun l h => .inl (h1 l h), h3.sub⟩, h2, ⟨rfl, rfl, .cons (ra.wk h1) .nil⟩, h3⟩
def KX (f : Ex → EF D) (g : Qx → EQ Q) : Prop := ∀ (c : Cw) (S : Store) (O0 O : Nat → Prop) (s : Sq) (ρq : RhoQ) (ρ : Rho) (e : Qx) (x : Ex), Gd c S O s → Env c S O0 O [] ρq ρ → RX c S O e x → PostQ c O S (RV c O) (f x ρ S) (g e ρq s)
def KXA (f : Ex → EF (List D)) (g : Qx → EQ (List Q)) : Prop := ∀ (c : Cw) (S : Store) (O0 O : Nat → Prop) (s : Sq) (ρq : RhoQ) (ρ : Rho) (e : Qx) (x : Ex), Gd c S O s → Env c S O0 O [] ρq ρ → RX c S O e x → PostQ c O S (RVs c O) (f x ρ S) (g e ρq s)
theorem kx_of {f : EF D} {g : EQ Q} (h : KE [] f g) : KX (fun _ => f) (fun _ => g) := fun c S O0 O s ρq ρ e x G en r => h c S O0 O s ρq ρ G en
def qFld (names : List Str) (f : Str) : Qx → EQ Q := fun x _ s => if x.1 ∈ names then liftQ (x.2.lookup f) s else none
theorem look_of {c : Cw} {S : Store} {O : Nat → Prop} {f : Str} : ∀ {e : List (Str × Q)} {x : List (Str × D)}, e.map (·.1) = x.map (·.1) → RQs c S O (e.map (·.2)) (x.map (·.2)) → ∀ {v : Q}, e.lookup f = some v → ∃ d, x.lookup f = some d ∧ RQ c S O v d
  | [], _, _, _, _, h => by simp at h
  | (k, v) :: e, [], h, _, _, _ => by simp at h
  | (k, v) :: e, (k', d) :: x, h, r, w, hl => by
    simp only [List.map_cons, List.cons.injEq] at h
    obtain ⟨rfl, h⟩ := h
    cases r with
    | cons r1 r2 =>
      simp only [List.lookup] at hl ⊢
      cases hb : f == k with
      | true => rw [hb] at hl; cases hl; exact ⟨d, rfl, r1⟩
      | false => rw [hb] at hl; exact look_of h r2 hl
theorem kx_fld {names : List Str} {f : Str} : KX (fFld names f) (qFld names f) := fun c S O0 O s ρq ρ e x G en r => by
  unfold qFld fFld
  rw [r.1]
  by_cases h : x.1 ∈ names
  · rw [if_pos h, if_pos h]
    cases hl : e.2.lookup f with
    | none => trivial
    | some v =>
      obtain ⟨d, h1, h2⟩ := look_of r.2.1 r.2.2 hl
      rw [h1]
      exact .ok G h2
  · rw [if_neg h, if_neg h]; trivial
theorem kx_nil : KXA (fun _ => fNil) (fun _ => qNil) := fun c S O0 O s ρq ρ e x G en r => .ok G .nil
theorem kx_cons {f : Ex → EF D} {f' : Qx → EQ Q} {g : Ex → EF (List D)} {g' : Qx → EQ (List Q)} (hf : KX f f') (hg : KXA g g') : KXA (fun x => fCons (f x) (g x)) (fun x => qCons (f' x) (g' x)) := fun c S O0 O s ρq ρ e x G en r =>
  (hf c S O0 O s ρq ρ e x G en r).bind fun T a v s1 st G1 ra => (hg c T O0 O s1 ρq ρ e x G1 (en.stp st) (r.mv (st.mv en.oc))).bind fun U b w s2 st2 G2 rb => .ok G2 (.cons (ra.stp st2 en.oc) rb)
theorem kx_tup {g : Ex → EF (List D)} {g' : Qx → EQ (List Q)} (hg : KXA g g') : KX (fun x => fTup (g x)) (fun x => qTup (g' x)) := fun c S O0 O s ρq ρ e x G en r =>
  (hg c S O0 O s ρq ρ e x G en r).bind fun T a v s1 st G1 ra => by
    by_cases h : v.length ≤ 16777216
    · rw [if_pos h, if_pos (by rw [← ra.length]; exact h)]
      exact .ok G1 (.tup ra)
    · rw [if_neg h]; trivial
def qTry (b : SFq) (mt : List (Str × Bool)) (i : Nat) (f : Qx → EQ Q) : SFq := fun ρ s => match b ρ s with
  | some (.exn e ρ', s') => match mt.lookup e.1 with
    | some true => if i < ρ'.length then match f e (ρ'.set i none) s' with
      | some (.ok d, s2) => some (.ret d, s2)
      | _ => none
      else none
    | some false => some (.exn e ρ', s')
    | none => none
  | r => r
/-! reads of lists of one's own -/
theorem k_ownLen {i : Nat} (hi : i ∈ ow := by decide) (hn : i + 1000 ∉ ow := by decide) (h0 : i < 1000 := by decide) : KE ow (fCall (p1L pLen) (fCons (fVar i) fNil)) (qCall (u1L uLen) (qCons (qVar i) qNil)) := fun c S O0 O s ρq ρ G e => by
  unfold qCall qCons qVar fCall fCons fVar
  match h1 : ρq[i]? with
  | none => trivial
  | some none => trivial
  | some (some q) =>
    rcases e.ownC i q h0 hi hn h1 with ⟨l, ks, xs, rfl, h3⟩ | ⟨l, xs, ds, rfl, h3, h4, h5, h6, h7⟩
    · trivial
    simp only [h3, bindR_ok, bindQ_ok, fNil, qNil, p1L, u1L, pLen, uLen, h4, liftQ_some, h5.length]
    exact .ok G (.int _)
theorem k_ownTup {i : Nat} (hi : i ∈ ow := by decide) (hn : i + 1000 ∉ ow := by decide) (h0 : i < 1000 := by decide) : KE ow (fCall (p1L pTuple) (fCons (fVar i) fNil)) (qCall (u1L uTuple) (qCons (qVar i) qNil)) := fun c S O0 O s ρq ρ G e => by
  unfold qCall qCons qVar fCall fCons fVar
  match h1 : ρq[i]? with
  | none => trivial
  | some none => trivial
  | some (some q) =>
    rcases e.ownC i q h0 hi hn h1 with ⟨l, ks, xs, rfl, h3⟩ | ⟨l, xs, ds, rfl, h3, h4, h5, h6, h7⟩
    · trivial
    simp only [h3, bindR_ok, bindQ_ok, fNil, qNil, p1L, u1L, pTuple, uTuple, h4, liftQ_some]
    exact .ok G (.tup h5)
theorem k_ownIx {i : Nat} {f : EF D} {f' : EQ Q} (hf : KE ow f f') (hi : i ∈ ow := by decide) (hn : i + 1000 ∉ ow := by decide) (h0 : i < 1000 := by decide) : KE ow (fBin pIx (fVar i) f) (qBin uIx (qVar i) f') := fun c S O0 O s ρq ρ G e => by
  unfold qBin qVar fBin fVar
  match h1 : ρq[i]? with
  | none => trivial
  | some none => trivial
  | some (some q) =>
    rcases e.ownC i q h0 hi hn h1 with ⟨l, ks, xs, rfl, h3⟩ | ⟨l, xs, ds, rfl, h3, h4, h5, h6, h7⟩
    · simp only [h3, bindR_ok, bindQ_ok]
      exact (hf c S O0 O s ρq ρ G e).bind fun T a v s1 st G1 ra => by cases v <;> trivial
    simp only [h3, bindR_ok, bindQ_ok]
    refine (hf c S O0 O s ρq ρ G e).bind fun T a v s1 st G1 ra => ?_
    have h4' := st.fr l _ (fun z => h7 (z ▸ e.ola)) h4
    cases ra with
    | int k =>
      simp only [pIx, uIx, h4']
      cases hk : atI xs k with
      | none => trivial
      | some x =>
        obtain ⟨d, h8, h9⟩ := atI_of' (h5.stp st e.oc) hk
        rw [h8]
        exact .ok G1 h9
    | _ => trivial
/-! ### defs -/
def outQ (r : Rfq) : Rq Q := match r with
  | some (.ret d, s) => okQ d s
  | some (.nx _, s) => okQ .non s
  | some (.exn e _, s) => some (.error e, s)
  | _ => none
@[simp] theorem outQ_ret (d : Q) (s : Sq) : outQ (some (.ret d, s)) = okQ d s := rfl
@[simp] theorem outQ_nx (ρ : RhoQ) (s : Sq) : outQ (some (.nx ρ, s)) = okQ .non s := rfl
@[simp] theorem outQ_exn (e : Qx) (ρ : RhoQ) (s : Sq) : outQ (some (.exn e ρ, s)) = some (.error e, s) := rfl
def startQ (n : Nat) (qs : List Q) : RhoQ := qs.map some ++ List.replicate (n - qs.length) none
def qmOf (n np : Nat) (b : SFq) : QM := fun qs s => if qs.length = np then outQ (b (startQ n qs) s) else none
theorem start_env {c : Cw} {S : Store} {O : Nat → Prop} {s : Sq} {n : Nat} {qs : List Q} {ds : List D} (G : Gd c S O s) (r : RQs c S O qs ds) (hn : n ≤ 1000 ∧ qs.length ≤ 1000) : Env c S O O [] (startQ n qs) (startR n ds) where
  len := by simp [startQ, startR, r.length]
  sm := by simp [startQ]; omega
  val := fun i q _ h => by
    unfold startQ at h
    unfold startR
    by_cases hi : i < qs.length
    · rw [List.getElem?_append_left (by simpa using hi), List.getElem?_map] at h
      cases e : qs[i]? with
      | none => rw [e] at h; cases h
      | some q' =>
        rw [e] at h
        cases h
        obtain ⟨d, h1, h2⟩ := r.get e
        exact ⟨d, by rw [List.getElem?_append_left (by simpa [← r.length] using hi), List.getElem?_map, h1]; rfl, h2⟩
    · rw [List.getElem?_append_right (by simpa using Nat.le_of_not_lt hi), List.getElem?_replicate] at h
      split at h <;> cases h
  own := fun i q _ h => by cases h
  dep := fun i q h => by cases h
  cl := fun i h => by cases h
  dis := fun i j q q' l _ _ h => by cases h
  sub := fun _ h => h
  ola := G.ola
theorem lk_of {N : List Str} {np : Nat} {b : SF} {b' : SFq} (h : KS [] [] ow b b') (hn : N.length ≤ 1000 ∧ np ≤ 1000 := by decide) : LkM (mOf N np b) (qmOf N.length np b') := fun c S O s qs ds G r => by
  unfold qmOf mOf
  by_cases hl : qs.length = np
  · rw [if_pos hl, if_pos (by rw [← r.length]; exact hl)]
    have h1 := h c S O O s _ _ G (start_env (n := N.length) G r ⟨hn.1, by omega⟩)
    have st1 : ∀ {T : Store} {O' : Nat → Prop} {s' : Sq}, StpS c O O O' S T → Gd c T O' s' → Stp c S T ∧ Gd c T O s' := fun st g => ⟨⟨st.le, fun l o h1 h3 => st.fr l o h1 (fun z => z) h3⟩, ⟨fun l z => Nat.lt_of_lt_of_le (G.lt l z) st.le, G.ola, G.old, g.ha, g.hd⟩⟩
    revert h1
    cases hq : b' (startQ N.length qs) s with
    | none => exact fun _ => trivial
    | some z =>
      obtain ⟨fl, s'⟩ := z
      cases fl with
      | nx ρ' => rintro ⟨T, d, O', e1, st, g, en⟩; rw [e1]; obtain ⟨a, b⟩ := st1 st g; exact ⟨T, _, rfl, a, b, .non⟩
      | ret d => rintro ⟨T, d, O', e1, st, g, en⟩; rw [e1]; obtain ⟨a, b⟩ := st1 st g; exact ⟨T, _, rfl, a, b, en⟩
      | bk d => exact fun _ => trivial
      | ct d => exact fun _ => trivial
      | exn x ρ' => rintro ⟨T, y, r, O', e1, st, g, rx, en⟩; rw [e1]; obtain ⟨a, b⟩ := st1 st g; exact ⟨T, _, rfl, a, b, rx.mv fun l o h1 h2 => ⟨h2, fun z => h1 (st.sub l z)⟩⟩
  · rw [if_neg hl]; trivial
end
end Sh

set_option Elab.async false
set_option linter.all false
set_option maxRecDepth 100000
set_option maxHeartbeats 4000000
set_option autoImplicit false
namespace Sh
open PySem L2
section
variable {ow owl : List Nat}
def qStep (f : EQ Q) (lo hi st : EQ (Option Int)) : EQ Q := fun ρ s => bindQ (f ρ s) fun d s1 => bindQ (lo ρ s1) fun a s2 => bindQ (hi ρ s2) fun b s3 => bindQ (st ρ s3) fun k s4 => match k with
  | some k => if k ≠ 0 then match d with
      | .tup xs => okQ (.tup (stepS xs a b k)) s4
      | .lst xs => okQ (.lst (stepS xs a b k)) s4
      | _ => none
    else none
  | none => none
/-! ### [.. for .. for ..] -/
def qComp2Go (g : GQ) (t : EQ Bool) (it1 : EQ (List Q)) (vs1 : List Nat) (g1 : GQ) (t1 : EQ Bool) (f : EQ Q) (ρ : RhoQ) : List Q → Sq → Rq (List Q)
  | [], s => okQ [] s
  | d :: r, s => match g d ρ with
    | none => none
    | some ρ2 => bindQ (noQ (t ρ2 s)) fun b s1 => if b = true then bindQ (noQ (it1 ρ2 s1)) fun p1 s2 => bindQ (noQ (qCompGo g1 t1 f (wipeQ ρ2 vs1) p1 s2)) fun ys s3 => bindQ (noQ (qComp2Go g t it1 vs1 g1 t1 f ρ r s3)) fun zs s4 => okQ (ys ++ zs) s4
        else qComp2Go g t it1 vs1 g1 t1 f ρ r s1
def qComp2 (it : EQ (List Q)) (vs : List Nat) (g : GQ) (t : EQ Bool) (it1 : EQ (List Q)) (vs1 : List Nat) (g1 : GQ) (t1 : EQ Bool) (f : EQ Q) : EQ Q := fun ρ s => bindQ (it ρ s) fun p s1 => bindQ (noQ (qComp2Go g t it1 vs1 g1 t1 f (wipeQ ρ vs) p s1)) fun ys s2 => if ys.length ≤ 16777216 then okQ (.lst ys) s2 else none
/-- the list under way at L -/
structure Way (c : Cw) (O : Nat → Prop) (L : Nat) (S : Store) (xs : List Q) : Prop where
  at_ : ∃ us, S[L]? = some (.lst us) ∧ RQs c S O xs us
  own : O L
  nla : L ≠ c.la
/-- the store but for L -/
structure StpL (c : Cw) (L : Nat) (S T : Store) : Prop where
  le : S.length ≤ T.length
  fr : ∀ l o, l ≠ c.la → l ≠ L → S[l]? = some o → T[l]? = some o
theorem StpL.trans {c : Cw} {L : Nat} {S T U : Store} (a : StpL c L S T) (b : StpL c L T U) : StpL c L S U := ⟨Nat.le_trans a.le b.le, fun l o h h2 e => b.fr l o h h2 (a.fr l o h h2 e)⟩
theorem Stp.toL {c : Cw} {L : Nat} {S T : Store} (a : Stp c S T) : StpL c L S T := ⟨a.le, fun l o h _ e => a.fr l o h e⟩
theorem StpL.mv {c : Cw} {L : Nat} {S T : Store} {O : Nat → Prop} (st : StpL c L S T) (h : O c.la) (h2 : O L) : ∀ l o, ¬ O l → S[l]? = some o → T[l]? = some o ∧ ¬ O l := fun l o h1 h3 => ⟨st.fr l o (fun e => h1 (e ▸ h)) (fun e => h1 (e ▸ h2)) h3, h1⟩
theorem Env.stpL {c : Cw} {S T : Store} {O0 O : Nat → Prop} {L : Nat} {ρq : RhoQ} {ρ : Rho} (e : Env c S O0 O ow ρq ρ) (st : StpL c L S T) (h2 : O L) (hL : O0 L) : Env c T O0 O ow ρq ρ where
  len := e.len
  sm := e.sm
  val := fun i q h1 h2' => let ⟨d, h3, h4⟩ := e.val i q h1 h2'; ⟨d, h3, h4.mv (st.mv e.oc h2)⟩
  own := fun i q h0 h1 hn h2' => by
    obtain ⟨l, so, xs, ds, h3, h4, h5, h6, h7, h8⟩ := e.own i q h0 h1 hn h2'
    exact ⟨l, so, xs, ds, h3, h4, st.fr l _ (fun z => h8 (z ▸ e.ola)) (fun z => h8 (by rw [z]; exact hL)) h5, h6.mv (st.mv e.oc h2), h7, h8⟩
  dep := fun i q h1 h2' => let ⟨l, ls, rows, d⟩ := e.dep i q h1 h2'; ⟨l, ls, rows, d.mv (fun k o hk h => st.fr k o (fun z => (d.no0 k hk).2 (z ▸ e.ola)) (fun z => (d.no0 k hk).2 (by rw [z]; exact hL)) h) (fun _ _ r => r.mv (st.mv e.oc h2)) fun _ _ h => h⟩
  cl := e.cl
  dis := e.dis
  sub := e.sub
  ola := e.ola
theorem inGo_q {g : GF} {t : EF Bool} {f : EF D} {g' : GQ} {t' : EQ Bool} {f' : EQ Q} (hg : KT ow g g') (ht : KB ow t t') (hf : KE ow f f') (c : Cw) (O0 O : Nat → Prop) (L : Nat) (p : List D × Chk) (ρq : RhoQ) (ρ : Rho) (oL : O L) (nL : L ≠ c.la) (hw : O0 L) :
    ∀ (qs : List Q) (ds : List D) (aq : List Q) (S : Store) (s : Sq), Gd c S O s → Env c S O0 O ow ρq ρ → RQs c S O qs ds → Way c O L S aq → (∀ q ∈ p.2, ¬ O q.1 ∧ S[q.1]? = some (.lst q.2)) →
      ∀ ys s', qCompGo g' t' f' ρq qs s = some (.ok ys, s') → aq.length + ys.length ≤ 16777216 → ∃ T, inGo L g t f ρ p ds S = some (.ok (), T) ∧ StpL c L S T ∧ Gd c T O s' ∧ Way c O L T (aq ++ ys)
  | [], ds, aq, S, s, G, e, r, w, hc, ys, s', h, hl => by
    cases r
    simp only [qCompGo] at h
    cases h
    exact ⟨S, by simp [inGo, chk_all (p := p) fun q hq => (hc q hq).2], ⟨Nat.le_refl _, fun _ _ _ _ z => z⟩, G, by rw [List.append_nil]; exact w⟩
  | q :: qs, ds, aq, S, s, G, e, r, w, hc, ys, s', h, hl => by
    cases r with
    | cons r1 r2 =>
      rename_i d ds
      simp only [qCompGo] at h
      simp only [inGo, chk_all (p := p) fun q hq => (hc q hq).2, if_true]
      cases e1 : g' q ρq with
      | none => rw [e1] at h; cases h
      | some ρq2 =>
        rw [e1] at h
        obtain ⟨ρ2, h1, e2⟩ := hg c S O0 O s ρq ρq2 ρ q d G e r1 e1
        rw [h1]
        simp only at h ⊢
        have h3 := noX_q (ht c S O0 O s ρq2 ρ2 G e2)
        match hb : noQ (t' ρq2 s), h3 with
        | none, _ => rw [hb] at h; cases h
        | some (.error _, _), _ => rw [hb] at h; cases h
        | some (.ok b, s1), ⟨T, b', e3, st, G1, rb⟩ =>
          obtain rfl : b = b' := rb
          rw [hb] at h
          simp only [bindQ_ok] at h
          simp only [e3, bindR_ok]
          have w1 : Way c O L T aq := let ⟨us, a1, a2⟩ := w.at_; ⟨⟨us, st.fr _ _ nL a1, a2.stp st e.oc⟩, oL, nL⟩
          cases b with
          | false =>
            obtain ⟨U, b1, b2, b3⟩ := inGo_q hg ht hf c O0 O L p ρq ρ oL nL hw qs ds aq T s1 G1 (e.stp st) (r2.stp st e.oc) w1 (chk_of hc st e.oc) ys s' h hl
            exact ⟨U, b1, st.toL.trans b2, b3⟩
          | true =>
            rw [if_pos rfl] at h ⊢
            have h4 := noX_q (hf c T O0 O s1 ρq2 ρ2 G1 (e2.stp st))
            match hy : noQ (f' ρq2 s1), h4 with
            | none, _ => rw [hy] at h; cases h
            | some (.error _, _), _ => rw [hy] at h; cases h
            | some (.ok y, s2), ⟨U, y', e4, st2, G2, ry⟩ =>
              rw [hy] at h
              simp only [bindQ_ok] at h
              simp only [e4, bindR_ok]
              match hz : qCompGo g' t' f' ρq qs s2 with
              | none => rw [hz] at h; cases h
              | some (.error _, _) => rw [hz] at h; cases h
              | some (.ok zs, s3) =>
                rw [hz] at h
                simp only [bindQ_ok] at h
                cases h
                obtain ⟨us, a1, a2⟩ := w1.at_
                have a1' := st2.fr _ _ nL a1
                simp only [a1']
                simp only [List.length_cons] at hl
                rw [if_pos (by rw [← a2.length]; omega)]
                have lL : L < U.length := (List.getElem?_eq_some_iff.mp a1').1
                have sp : StpL c L U (U.set L (.lst (us ++ [y']))) := ⟨by simp, fun l o _ h2 h3 => by rw [List.getElem?_set_ne (fun z => h2 z.symm)]; exact h3⟩
                have G3 : Gd c (U.set L (.lst (us ++ [y']))) O s2 := ⟨fun l hl => by simpa using G2.lt l hl, G2.ola, G2.old, by rw [List.getElem?_set_ne nL]; exact G2.ha, by rw [List.getElem?_set_ne (fun z => G2.old (by rw [← z]; exact oL))]; exact G2.hd⟩
                have mv := sp.mv e.oc oL
                have w3 : Way c O L (U.set L (.lst (us ++ [y']))) (aq ++ [y]) := ⟨⟨_, List.getElem?_set_self lL, (((a2.stp st2 e.oc).append (.cons ry .nil)).mv mv)⟩, oL, nL⟩
                obtain ⟨Z, b1, b2, b3, b4⟩ := inGo_q hg ht hf c O0 O L p ρq ρ oL nL hw qs ds (aq ++ [y]) _ s2 G3 (((e.stp st).stp st2).stpL sp oL hw) (((r2.stp st e.oc).stp st2 e.oc).mv mv) w3 (fun q hq => let ⟨x1, x2⟩ := chk_of (chk_of hc st e.oc) st2 e.oc q hq; ⟨x1, (mv _ _ x1 x2).1⟩) zs _ hz (by simp; omega)
                exact ⟨Z, b1, ((st.trans st2).toL.trans sp).trans b2, b3, by rw [List.append_assoc] at b4; exact b4⟩
theorem comp2Go_q {g g1 : GF} {t t1 : EF Bool} {f : EF D} {it1 : IF} {vs1 : List Nat} {g' g1' : GQ} {t' t1' : EQ Bool} {f' : EQ Q} {it1' : EQ (List Q)} (hg : KT ow g g') (ht : KB ow t t') (hi1 : KI ow it1 it1') (hg1 : KT ow g1 g1') (ht1 : KB ow t1 t1') (hf : KE ow f f') (c : Cw) (O0 O : Nat → Prop) (L : Nat) (p : List D × Chk) (ρq : RhoQ) (ρ : Rho) (oL : O L) (nL : L ≠ c.la) (hw : O0 L) :
    ∀ (qs : List Q) (ds : List D) (aq : List Q) (S : Store) (s : Sq), Gd c S O s → Env c S O0 O ow ρq ρ → RQs c S O qs ds → Way c O L S aq → (∀ q ∈ p.2, ¬ O q.1 ∧ S[q.1]? = some (.lst q.2)) →
      ∀ ys s', qComp2Go g' t' it1' vs1 g1' t1' f' ρq qs s = some (.ok ys, s') → aq.length + ys.length ≤ 16777216 → ∃ T, comp2Go L g t it1 vs1 g1 t1 f ρ p ds S = some (.ok (.ref L), T) ∧ StpL c L S T ∧ Gd c T O s' ∧ Way c O L T (aq ++ ys)
  | [], ds, aq, S, s, G, e, r, w, hc, ys, s', h, hl => by
    cases r
    simp only [qComp2Go] at h
    cases h
    exact ⟨S, by simp [comp2Go, chk_all (p := p) fun q hq => (hc q hq).2], ⟨Nat.le_refl _, fun _ _ _ _ z => z⟩, G, by rw [List.append_nil]; exact w⟩
  | q :: qs, ds, aq, S, s, G, e, r, w, hc, ys, s', h, hl => by
    cases r with
    | cons r1 r2 =>
      rename_i d ds
      simp only [qComp2Go] at h
      simp only [comp2Go, chk_all (p := p) fun q hq => (hc q hq).2, if_true]
      cases e1 : g' q ρq with
      | none => rw [e1] at h; cases h
      | some ρq2 =>
        rw [e1] at h
        obtain ⟨ρ2, h1, e2⟩ := hg c S O0 O s ρq ρq2 ρ q d G e r1 e1
        rw [h1]
        simp only at h ⊢
        have h3 := noX_q (ht c S O0 O s ρq2 ρ2 G e2)
        match hb : noQ (t' ρq2 s), h3 with
        | none, _ => rw [hb] at h; cases h
        | some (.error _, _), _ => rw [hb] at h; cases h
        | some (.ok b, s1), ⟨T, b', e3, st, G1, rb⟩ =>
          obtain rfl : b = b' := rb
          rw [hb] at h
          simp only [bindQ_ok] at h
          simp only [e3, bindR_ok]
          have w1 : Way c O L T aq := let ⟨us, a1, a2⟩ := w.at_; ⟨⟨us, st.fr _ _ nL a1, a2.stp st e.oc⟩, oL, nL⟩
          cases b with
          | false =>
            obtain ⟨U, b1, b2, b3⟩ := comp2Go_q hg ht hi1 hg1 ht1 hf c O0 O L p ρq ρ oL nL hw qs ds aq T s1 G1 (e.stp st) (r2.stp st e.oc) w1 (chk_of hc st e.oc) ys s' h hl
            exact ⟨U, b1, st.toL.trans b2, b3⟩
          | true =>
            rw [if_pos rfl] at h ⊢
            have h4 := noX_q (hi1 c T O0 O s1 ρq2 ρ2 G1 (e2.stp st))
            match hy : noQ (it1' ρq2 s1), h4 with
            | none, _ => rw [hy] at h; cases h
            | some (.error _, _), _ => rw [hy] at h; cases h
            | some (.ok p1, s2), ⟨U, p1', e4, st2, G2, ri⟩ =>
              rw [hy] at h
              simp only [bindQ_ok] at h
              simp only [e4, bindR_ok]
              have w2 : Way c O L U aq := let ⟨us, a1, a2⟩ := w1.at_; ⟨⟨us, st2.fr _ _ nL a1, a2.stp st2 e.oc⟩, oL, nL⟩
              match hz : qCompGo g1' t1' f' (wipeQ ρq2 vs1) p1 s2 with
              | none => rw [hz] at h; cases h
              | some (.error _, _) => rw [hz] at h; cases h
              | some (.ok zs, s3) =>
                rw [hz] at h
                simp only [noQ_ok, bindQ_ok] at h
                match hq : noQ (qComp2Go g' t' it1' vs1 g1' t1' f' ρq qs s3) with
                | none => rw [hq] at h; cases h
                | some (.error _, _) => rw [hq] at h; cases h
                | some (.ok xs, s4) =>
                  rw [hq] at h
                  simp only [bindQ_ok] at h
                  cases h
                  rw [List.length_append] at hl
                  obtain ⟨Z, b1, b2, b3, b4⟩ := inGo_q hg1 ht1 hf c O0 O L p1' _ _ oL nL hw p1 p1'.1 aq U s2 G2 (((e2.stp st).stp st2).wipe vs1) ri.1 w2 ri.2 zs s3 hz (by omega)
                  simp only [b1, noX_ok, bindR_ok]
                  have hq' : qComp2Go g' t' it1' vs1 g1' t1' f' ρq qs s3 = some (.ok xs, s') := by
                    unfold noQ at hq
                    split at hq
                    · cases hq
                    · exact hq
                  have sp := (st.trans st2).toL.trans b2
                  have mv := sp.mv e.oc oL
                  obtain ⟨Y, c1, c2, c3, c4⟩ := comp2Go_q hg ht hi1 hg1 ht1 hf c O0 O L p ρq ρ oL nL hw qs ds (aq ++ zs) Z s3 b3 (e.stpL sp oL hw) (r2.mv mv) b4 (fun q hq => let ⟨x1, x2⟩ := hc q hq; ⟨x1, (mv _ _ x1 x2).1⟩) xs _ hq' (by simp; omega)
                  exact ⟨Y, c1, sp.trans c2, c3, by rw [List.append_assoc] at c4; exact c4⟩
theorem k_comp2 {it : IF} {it' : EQ (List Q)} {vs : List Nat} {g g1 : GF} {t t1 : EF Bool} {f : EF D} {it1 : IF} {vs1 : List Nat} {g' g1' : GQ} {t' t1' : EQ Bool} {f' : EQ Q} {it1' : EQ (List Q)} (hi : KI ow it it') (hg : KT ow g g') (ht : KB ow t t') (hi1 : KI ow it1 it1') (hg1 : KT ow g1 g1') (ht1 : KB ow t1 t1') (hf : KE ow f f') :
    KE ow (fComp2 it vs g t it1 vs1 g1 t1 f) (qComp2 it' vs g' t' it1' vs1 g1' t1' f') := fun c S O0 O s ρq ρ G e =>
  (hi c S O0 O s ρq ρ G e).bind fun T p v s1 st G1 ra => by
    match hq : noQ (qComp2Go g' t' it1' vs1 g1' t1' f' (wipeQ ρq vs) v s1) with
    | none => trivial
    | some (.error e, _) =>
      unfold noQ at hq
      split at hq
      · cases hq
      · rename_i hn; exact (hn _ _ hq).elim
    | some (.ok ys, s2) =>
      simp only [bindQ_ok]
      by_cases hl : ys.length ≤ 16777216
      · rw [if_pos hl]
        have hq' : qComp2Go g' t' it1' vs1 g1' t1' f' (wipeQ ρq vs) v s1 = some (.ok ys, s2) := by
          unfold noQ at hq
          split at hq
          · cases hq
          · exact hq
        have nla : T.length ≠ c.la := fun z => Nat.lt_irrefl _ (z ▸ G1.lt _ G1.ola)
        have nld : T.length ≠ c.ld := fun z => by have := (List.getElem?_eq_some_iff.mp G1.hd).1; omega
        have mv : ∀ l o, ¬ O l → T[l]? = some o → (T ++ [SO.lst []])[l]? = some o ∧ ¬ (O l ∨ l = T.length) := fun l o h1 h2 => by
          have hl := (List.getElem?_eq_some_iff.mp h2).1
          exact ⟨by rw [List.getElem?_append_left hl]; exact h2, fun z => z.elim h1 (fun z => by omega)⟩
        have Gp := G1.put (.lst [])
        have G2 : Gd c (T ++ [.lst []]) (fun l => O l ∨ l = T.length) s1 := ⟨fun l z => z.elim (Gp.lt l) (fun z => by subst z; simp), .inl G1.ola, fun z => z.elim G1.old (fun z => nld z.symm), Gp.ha, Gp.hd⟩
        have e1 := e.stp st
        have e2 : Env c (T ++ [.lst []]) (fun l => O0 l ∨ l = T.length) (fun l => O l ∨ l = T.length) ow ρq ρ := {
          len := e1.len
          sm := e1.sm
          val := fun i q h1 h2 => let ⟨d, h3, h4⟩ := e1.val i q h1 h2; ⟨d, h3, h4.mv mv⟩
          own := fun i q h0 h1 hn h2 => by
            obtain ⟨l, so, xs, ds, h3, h4, h5, h6, h7, h8⟩ := e1.own i q h0 h1 hn h2
            have hl := (List.getElem?_eq_some_iff.mp h5).1
            exact ⟨l, so, xs, ds, h3, h4, by rw [List.getElem?_append_left hl]; exact h5, h6.mv mv, .inl h7, fun z => z.elim h8 (fun z => by omega)⟩
          dep := fun i q h1 h2 => let ⟨l, ls, rows, d⟩ := e1.dep i q h1 h2; ⟨l, ls, rows, d.mv (fun k o hk h => by rw [List.getElem?_append_left (List.getElem?_eq_some_iff.mp h).1]; exact h) (fun _ _ r => r.mv mv) fun k hk h => ⟨.inl h.1, fun z => z.elim h.2 (fun z => by have := G1.lt k h.1; omega)⟩⟩
          cl := e1.cl
          dis := e1.dis
          sub := fun l z => z.elim (fun z => .inl (e1.sub l z)) .inr
          ola := .inl e1.ola }
        obtain ⟨U, b1, b2, b3, ⟨us, b4, b5⟩, _, _⟩ := comp2Go_q hg ht hi1 hg1 ht1 hf c _ _ T.length p _ _ (.inr rfl) nla (.inr rfl) v p.1 [] _ s1 G2 (e2.wipe vs) (ra.1.mv mv) ⟨⟨[], by simp, .nil⟩, .inr rfl, nla⟩ (fun q hq => let ⟨x1, x2⟩ := ra.2 q hq; ⟨(mv _ _ x1 x2).2, (mv _ _ x1 x2).1⟩) ys s2 hq' (by simpa using hl)
        refine ⟨U, _, b1, ⟨Nat.le_trans (by simp) b2.le, fun l o h1 h2 => b2.fr l o h1 (fun z => ?_) (by rw [List.getElem?_append_left (List.getElem?_eq_some_iff.mp h2).1]; exact h2)⟩, ⟨fun l z => b3.lt l (.inl z), G1.ola, G1.old, b3.ha, b3.hd⟩, .lst (fun z => Nat.lt_irrefl _ (G1.lt _ z)) b4 (b5.wk fun l z => .inl z)⟩
        have := (List.getElem?_eq_some_iff.mp h2).1
        omega
      · rw [if_neg hl]; trivial
def qPar (is : List Nat) (g : EQ (List Q)) : SFq := fun ρ s => toSq ρ (g ρ s) fun ds s1 => match is, ds with
  | [i, j], [d, e] => some (.nx ((ρ.set i (some d)).set j (some e)), s1)
  | [i, j, l], [d, e, f] => some (.nx (((ρ.set i (some d)).set j (some e)).set l (some f)), s1)
  | _, _ => none
end
end Sh

set_option Elab.async false
set_option linter.all false
set_option maxRecDepth 100000
set_option maxHeartbeats 4000000
set_option autoImplicit false
namespace Sh
open PySem L2
/-! ### suites -/
def qIsX (mt : List (Str × Bool)) : Qx → EQ Q := fun x _ s => match mt.lookup x.1 with
  | some b => okQ (.bl b) s
  | none => none
def qIfX (t a b : Qx → EQ Q) : Qx → EQ Q := fun x ρ s => bindQ (t x ρ s) fun d s1 => match d with
  | .bl true => a x ρ s1
  | .bl false => b x ρ s1
  | _ => none
/-! ### enumerate, in a tuple -/
section
variable {ow : List Nat}
def jEnuA (g : EQ (List Q)) : EQ (List Q) := fun ρ s => bindQ (g ρ s) fun ds s1 => match ds with
  | [.tup xs] => okQ (enumQ xs) s1
  | [.lst xs] => okQ (enumQ xs) s1
  | _ => none
end
def flatQ : Q → Bool
  | .non => true
  | .bl _ => true
  | .int _ => true
  | .str _ => true
  | _ => false
def toVq : Q → V
  | .bl b => .bl b
  | .int i => .int i
  | .str x => .str x
  | _ => .non
def inTq (a b : Q) : Option Bool := match b with
  | .tup es => if flatQ a = true ∧ es.all flatQ = true then some (inV (toVq a) (es.map toVq)) else none
  | _ => none
def uNotInT : Q2 := fun a b => (inTq a b).map fun z => .bl (!z)
def uMulA : Q2 := fun a b => match a, b with
  | .int i, .int j => (gMul i j).bind uz
  | .tup xs, .int k => if xs ≠ [] ∧ 1 ≤ k ∧ k ≤ 1000 ∧ xs.length ≤ 1000 then some (.tup (List.replicate k.toNat xs).flatten) else none
  | .str z, .int k => if 2 ≤ k ∧ k ≤ 1000 ∧ 1 ≤ z.length ∧ z.length ≤ 1000 then some (.str (strRep z k.toNat)) else none
  | _, _ => none
theorem y_mulA : Y2 pMulA uMulA := fun c S O s a b v da db G ra rb h => by
  cases ra with
  | int i =>
    cases rb with
    | int j =>
      simp only [uMulA] at h
      cases e : gMul i j with
      | none => rw [e] at h; cases h
      | some z => rw [e] at h; exact ⟨z, by simp only [pMulA, e], uz_ok h⟩
    | _ => cases h
  | tup rs =>
    cases rb with
    | int k =>
      simp only [uMulA] at h
      split at h
      · rename_i hc
        cases h
        refine ⟨_, ?_, .tup (rep_ok rs k.toNat)⟩
        simp only [pMulA]
        rw [if_pos ⟨fun z => hc.1 (List.eq_nil_of_length_eq_zero (by rw [rs.length, z]; rfl)), hc.2.1, hc.2.2.1, by rw [← rs.length]; exact hc.2.2.2⟩]
      · cases h
    | _ => cases h
  | str z =>
    cases rb with
    | int k =>
      simp only [uMulA] at h
      split at h
      · rename_i hc; cases h; exact ⟨_, by simp only [pMulA, if_pos hc], .str _⟩
      · cases h
    | _ => cases h
  | _ => cases h
end Sh

set_option Elab.async false
set_option linter.all false
set_option maxRecDepth 100000
set_option maxHeartbeats 4000000
set_option autoImplicit false
namespace Sh
open PySem L2
/-! ### a list of lists of one's own -/
section
variable {ow ow' owl : List Nat}
/-- lists that were made one by one -/
structure Made (c : Cw) (O0 O : Nat → Prop) (S : Store) (ls : List Nat) (rows : List (List Q)) : Prop where
  len : ls.length = rows.length
  row : ∀ (j lj : Nat) (rj : List Q), ls[j]? = some lj → rows[j]? = some rj → ∃ ds, S[lj]? = some (.lst ds) ∧ RQs c S O rj ds
  inn : ∀ lj ∈ ls, O lj ∧ ¬ O0 lj
  nd : ls.Nodup
theorem Gd.own {c : Cw} {S : Store} {O : Nat → Prop} {s : Sq} (G : Gd c S O s) (o : SO) : Gd c (S ++ [o]) (fun l => O l ∨ l = S.length) s := by
  have Gp := G.put o
  refine ⟨fun l z => z.elim (Gp.lt l) (fun z => by subst z; simp), .inl G.ola, fun z => z.elim G.old (fun z => ?_), Gp.ha, Gp.hd⟩
  have := (List.getElem?_eq_some_iff.mp G.hd).1
  omega
theorem mv_own {S : Store} {O : Nat → Prop} (o : SO) : ∀ (l : Nat) (x : SO), ¬ O l → S[l]? = some x → (S ++ [o])[l]? = some x ∧ ¬ (O l ∨ l = S.length) := fun l x h1 h2 => by
  have hl := (List.getElem?_eq_some_iff.mp h2).1
  exact ⟨by rw [List.getElem?_append_left hl]; exact h2, fun z => z.elim h1 (fun z => by omega)⟩
/-- more is one's own (of no slot): the frame is as it was -/
theorem Env.more {c : Cw} {S : Store} {O0 O : Nat → Prop} {ρq : RhoQ} {ρ : Rho} {s : Sq} (e : Env c S O0 O [] ρq ρ) (G : Gd c S O s) (o : SO) : Env c (S ++ [o]) O0 (fun l => O l ∨ l = S.length) [] ρq ρ where
  len := e.len
  sm := e.sm
  val := fun i q h1 h2 => let ⟨d, h3, h4⟩ := e.val i q h1 h2; ⟨d, h3, h4.mv (mv_own o)⟩
  own := fun i q _ h => by cases h
  dep := fun i q h => by cases h
  cl := fun i h => by cases h
  dis := fun i j q q' l _ _ h => by cases h
  sub := fun l h => .inl (e.sub l h)
  ola := e.ola
/-! reads -/
end
end Sh

set_option Elab.async false
set_option linter.all false
set_option maxRecDepth 100000
set_option maxHeartbeats 4000000
set_option autoImplicit false
namespace Sh
open PySem L2
end Sh

set_option Elab.async false
set_option linter.all false
set_option maxRecDepth 100000
set_option maxHeartbeats 4000000
set_option autoImplicit false
namespace Sh
open PySem L2
/-! ### ranges as values, range with a step -/
def qStepI (lo st : Int) (n : Nat) : List Q := (List.range n).map fun i => Q.int (lo + (i : Nat) * st)
theorem stepI_of {c : Cw} {S : Store} {O : Nat → Prop} (lo st : Int) (n : Nat) : RQs c S O (qStepI lo st n) (dStep lo st n) := by
  have : ∀ l : List Nat, RQs c S O (l.map fun i => Q.int (lo + (i : Nat) * st)) (l.map fun i => D.int (lo + (i : Nat) * st)) := by
    intro l
    induction l with
    | nil => exact .nil
    | cons a r ih => exact .cons (.int _) ih
  exact this _
variable {ow ow' owl : List Nat}
def r3q (ds : List Q) (s1 : Sq) : Rq (List Q) := match ds with
  | [.int i, .int j, .int k] => if rgOk i j k = true then okQ (qStepI i k (rgN i j k)) s1 else none
  | _ => none
def jR3 (g : EQ (List Q)) : EQ (List Q) := fun ρ s => bindQ (g ρ s) fun ds s1 => r3q ds s1
theorem k_iR3 {g : EF (List D)} {g' : EQ (List Q)} (hg : KA ow g g') : KI ow (iR3 g) (jR3 g') := fun c S O0 O s ρq ρ G e =>
  (hg c S O0 O s ρq ρ G e).bind fun T a v s1 st G1 ra => by
    by_cases hv : ∃ i j k, v = [.int i, .int j, .int k]
    · obtain ⟨i, j, k, rfl⟩ := hv
      cases ra with
      | cons r1 ra =>
        cases r1
        cases ra with
        | cons r2 ra =>
          cases r2
          cases ra with
          | cons r3 ra =>
            cases r3
            cases ra
            simp only [r3q]
            by_cases h : rgOk i j k = true
            · rw [if_pos h, if_pos h]; exact .ok G1 ⟨stepI_of _ _ _, fun q hq => by cases hq⟩
            · rw [if_neg h, if_neg h]; trivial
    · have : r3q v s1 = none := by
        unfold r3q
        split
        · exact absurd ⟨_, _, _, rfl⟩ hv
        · rfl
      rw [this]
      trivial
def uRng : List Q → Option Q := fun ds => match ds with
  | [.int j] => some (.rng 0 j 1)
  | [.int i, .int j] => some (.rng i j 1)
  | [.int i, .int j, .int k] => if k ≠ 0 ∧ k.natAbs < 1073741824 then some (.rng i j k) else none
  | _ => none
/-! ### functions of two numbers -/
def u2N (g : Int → Int → Int) : List Q → Option Q := fun ds => match ds with
  | [.int i, .int j] => some (.int (g i j))
  | _ => none
/-! ### min and max of data -/
/-! ### try with several clauses -/
abbrev Clq := List (Str × Bool) × Nat × (Qx → EQ Q)
abbrev jhNil : List Clq := []
abbrev jhCons (mt : List (Str × Bool)) (i : Nat) (f : Qx → EQ Q) (r : List Clq) : List Clq := (mt, i, f) :: r
def hdlQ : List Clq → Qx → RhoQ → Sq → Rfq
  | [], e, ρ', s' => some (.exn e ρ', s')
  | q :: r, e, ρ', s' => match q.1.lookup e.1 with
    | some true => if q.2.1 < ρ'.length then match q.2.2 e (ρ'.set q.2.1 none) s' with
      | some (.ok d, s2) => some (.ret d, s2)
      | _ => none
      else none
    | some false => hdlQ r e ρ' s'
    | none => none
def qTryM (b : SFq) (l : List Clq) : SFq := fun ρ s => match b ρ s with
  | some (.exn e ρ', s') => hdlQ l e ρ' s'
  | r => r
inductive KHs : List Cls1 → List Clq → Prop
  | nil : KHs [] []
  | cons {mt : List (Str × Bool)} {i : Nat} {f : Ex → EF D} {f' : Qx → EQ Q} {l : List Cls1} {m : List Clq} : KX f f' → KHs l m → KHs ((mt, i, f) :: l) ((mt, i, f') :: m)
theorem ks_tryM {b : SF} {b' : SFq} {l : List Cls1} {m : List Clq} (hb : KS owl ow ow' b b') (hh : KHs l m) : KS owl ow ow' (sTryM b l) (qTryM b' m) := fun c S O0 O s ρq ρ G e => by
  have h := hb c S O0 O s ρq ρ G e
  revert h
  unfold qTryM
  cases hq : b' ρq s with
  | none => exact fun _ => trivial
  | some z =>
    obtain ⟨fl, s'⟩ := z
    cases fl with
    | nx ρ' => rintro ⟨T, d, O', e1, h⟩; exact ⟨T, d, O', by simp only [sTryM, e1], h⟩
    | ret d => rintro ⟨T, d, O', e1, h⟩; exact ⟨T, d, O', by simp only [sTryM, e1], h⟩
    | bk d => rintro ⟨T, d, O', e1, h⟩; exact ⟨T, d, O', by simp only [sTryM, e1], h⟩
    | ct d => rintro ⟨T, d, O', e1, h⟩; exact ⟨T, d, O', by simp only [sTryM, e1], h⟩
    | exn x ρ' =>
      rintro ⟨T, y, r, O', e1, st, G1, rx, en⟩
      simp only [sTryM, e1]
      induction hh with
      | nil => exact ⟨T, y, r, O', rfl, st, G1, rx, en⟩
      | @cons mt i f f' l m hf hh ih =>
        simp only [hdl, hdlQ, ← rx.1]
        cases hm : mt.lookup x.1 with
        | none => trivial
        | some w =>
          cases w with
          | false => exact ih
          | true =>
            simp only [← en.len]
            by_cases hi : i < ρ'.length
            · rw [if_pos hi, if_pos hi]
              have h2 := hf c T O0 O' s' _ _ x y G1 (en.unset i) rx
              match hf1 : f' x (ρ'.set i none) s', h2 with
              | none, _ => trivial
              | some (.error _, _), _ => trivial
              | some (.ok v, s2), ⟨U, a, e2, st2, g2, ra⟩ =>
                simp only [e2]
                exact ⟨U, a, O', rfl, st.trans (st2.toS en.sub), g2, ra.wk en.sub⟩
            · rw [if_neg hi, if_neg hi]; trivial
end Sh

set_option Elab.async false
set_option linter.all false
set_option maxRecDepth 100000
set_option maxHeartbeats 4000000
set_option autoImplicit false
namespace Sh
open PySem PySem.Spec PyProof.Rows L2
/-! ### list({k: True for .. for ..}) -/
mutual
def nkQ : Q → Option NestedKey
  | .non => some .none
  | .int i => some (.num i)
  | .str x => some (.text x)
  | .tup ds => (nkQs ds).map .tup
  | _ => none
def nkQs : List Q → Option (List NestedKey)
  | [] => some []
  | d :: ds => match nkQ d, nkQs ds with
    | some k, some ks => some (k :: ks)
    | _, _ => none
end
mutual
theorem nk_of {c : Cw} {S : Store} {O : Nat → Prop} : ∀ (q : Q) (d : D), RQ c S O q d → nkD d = nkQ q
  | .non, _, h => by cases h; rfl
  | .bl _, _, h => by cases h; rfl
  | .int _, _, h => by cases h; rfl
  | .str _, _, h => by cases h; rfl
  | .tup qs, _, h => by
    cases h with
    | tup h => simp only [nkD, nkQ, nks_of qs _ h]
  | .lst _, _, h => by cases h; rfl
  | .scr, _, h => by cases h; rfl
  | .atr, _, h => by cases h; rfl
  | .drs _, _, h => by cases h; rfl
  | .rng _ _ _, _, h => by cases h; rfl
  | .gd _, _, h => by cases h; rfl
  | .dic _ _, _, h => by cases h; rfl
theorem nks_of {c : Cw} {S : Store} {O : Nat → Prop} : ∀ (qs : List Q) (ds : List D), RQs c S O qs ds → nkDs ds = nkQs qs
  | [], _, h => by cases h; rfl
  | q :: qs, _, h => by
    cases h with
    | cons h1 h2 => simp only [nkDs, nkQs, nk_of q _ h1, nks_of qs _ h2] <;> rfl
end
section
variable {ow : List Nat}
/-! ### an own list, asked -/
end
end Sh

set_option Elab.async false
set_option linter.all false
set_option maxRecDepth 100000
set_option maxHeartbeats 4000000
set_option autoImplicit false
namespace Sh
open PySem PySem.Spec PyProof.Rows L2
/-! ### tuple(zip(*e)) -/
def tupsQ : List Q → Option (List (List Q))
  | [] => some []
  | .tup xs :: r => (tupsQ r).map fun rs => xs :: rs
  | _ => none
def colQ (rows : List (List Q)) (j : Nat) : Q := .tup (rows.map fun x => x.getD j .non)
def okTZq (rows : List (List Q)) : Bool := match rows with
  | [] => false
  | r :: _ => decide (r.length ≠ 0) && decide (r.length ≤ 16777216) && decide (rows.length ≤ 16777216) && rows.all fun x => decide (x.length = r.length)
def qTZ (f : EQ Q) : EQ Q := fun ρ s => bindQ (f ρ s) fun d s1 => match (qseq d).bind tupsQ with
  | some rows => if okTZq rows = true then okQ (.tup ((List.range (rows.headD []).length).map (colQ rows))) s1 else none
  | none => none
inductive RRs (c : Cw) (S : Store) (O : Nat → Prop) : List (List Q) → List (List D) → Prop
  | nil : RRs c S O [] []
  | cons {q : List Q} {qs : List (List Q)} {d : List D} {ds : List (List D)} : RQs c S O q d → RRs c S O qs ds → RRs c S O (q :: qs) (d :: ds)
section
variable {c : Cw} {S : Store} {O : Nat → Prop}
theorem RRs.length : ∀ {qs : List (List Q)} {ds : List (List D)}, RRs c S O qs ds → ds.length = qs.length
  | _, _, .nil => rfl
  | _, _, .cons _ h => by simp [RRs.length h]
theorem RRs.all {n : Nat} : ∀ {qs : List (List Q)} {ds : List (List D)}, RRs c S O qs ds → (ds.all fun x => decide (x.length = n)) = qs.all fun x => decide (x.length = n)
  | _, _, .nil => rfl
  | _, _, .cons h1 h2 => by simp only [List.all_cons, RRs.all h2, h1.length]
theorem RRs.headD {qs : List (List Q)} {ds : List (List D)} (h : RRs c S O qs ds) : (ds.headD []).length = (qs.headD []).length := by
  cases h with
  | nil => rfl
  | cons h1 _ => simp [h1.length]
end
section
variable {ow : List Nat}
end
/-! ### a test that reads lists of one's own as values -/
def qFrz (g : EQ Bool) : EQ Bool := fun ρ s => noQ (g ρ s)
end Sh

set_option Elab.async false
set_option linter.all false
set_option maxRecDepth 100000
set_option maxHeartbeats 4000000
set_option autoImplicit false
namespace Sh
open PySem PySem.Spec PyProof.Rows L2
def qListR (f : EQ Q) : EQ (List Q) := fun ρ s => bindQ (f ρ s) fun d s1 => match d with
  | .rng lo hi st => if rgOk lo hi st = true ∧ rgN lo hi st ≤ 16777216 then okQ (qStepI lo st (rgN lo hi st)) s1 else none
  | _ => none
def qNotT (f : EQ Q) : EQ Q := fun ρ s => bindQ (f ρ s) fun d s1 => liftQ ((qtru d).map fun b => .bl (!b)) s1
end Sh

set_option Elab.async false
set_option linter.all false
set_option maxRecDepth 100000
set_option maxHeartbeats 4000000
set_option autoImplicit false
namespace Dn
open PySem L2 Sh
noncomputable def r__law_more : SFq :=
  (qSeq (qSet (qBin (uI2 gMod) (qCall (u1L uInt) (qCons (qBin uAdd (qBin uAdd (qBin uMulA (qVar 1) (qC (.int 48271))) (qCall (u1L uLen) (qCons (qVar 0) qNil))) (qC (.int 11))) qNil)) (qC (.int 2147483629))) 2)
    (qSeq (qFor (jR1 (qCons (qC (.int 3)) qNil)) (uN 3) (qSeq (qIfS (qTru (qVar 0)) (qSet (qBin uAdd (qVar 2) (qBin uIx (qVar 0) (qBin (uI2 gMod) (qCall (u1L uInt) (qCons (qBin uAdd (qBin uMulA (qVar 1) (qBin uAdd (qVar 3) (qC (.int 5)))) (qVar 3)) qNil)) (qCall (u1L uLen) (qCons (qVar 0) qNil))))) 2) qNilS)
    (qSet (qBin (uI2 gMod) (qCall (u1L uInt) (qCons (qBin uAdd (qBin uAdd (qBin uMulA (qVar 2) (qC (.int 16807))) (qBin uMulA (qC (.int 69621)) (qVar 3))) (qC (.int 5))) qNil)) (qC (.int 2147483629))) 2)))
    (qRet (qBin (uI2 gDiv) (qVar 2) (qC (.int 1009))))))
noncomputable def p__law_more : QM := qmOf 4 2 r__law_more
theorem lk__law_more : LkM m__law_more p__law_more := lk_of (N := N__law_more) (b := d__law_more) (b' := r__law_more) (ow := []) (by
  unfold d__law_more r__law_more
  exact (ks_seq (ow1 := []) (ks_set (ow' := []) (k_bin y_I2 (k_call (y_1L y_int) (k_cons (k_bin y_add (k_bin y_add (k_bin y_mulA k_var (k_int 48271)) (k_call (y_1L y_len) (k_cons k_var k_nil))) (k_int 11)) k_nil)) (k_int 2147483629)))
    (ks_seq (ow1 := []) (ks_for (k_iR1 (k_cons (k_int 3) k_nil)) t_N (ks_seq (ow1 := []) (ks_if (ow' := []) (k_tru k_var) (ks_set (ow' := []) (k_bin y_add k_var (k_bin y_ix k_var (k_bin y_I2 (k_call (y_1L y_int) (k_cons (k_bin y_add (k_bin y_mulA k_var (k_bin y_add k_var (k_int 5))) k_var) k_nil)) (k_call (y_1L y_len) (k_cons k_var k_nil)))))) ks_nil)
    (ks_set (ow' := []) (k_bin y_I2 (k_call (y_1L y_int) (k_cons (k_bin y_add (k_bin y_add (k_bin y_mulA k_var (k_int 16807)) (k_bin y_mulA (k_int 69621) k_var)) (k_int 5)) k_nil)) (k_int 2147483629)))))
    (ks_ret (k_bin y_I2 k_var (k_int 1009))))))
end Dn

set_option Elab.async false
set_option linter.all false
set_option maxRecDepth 100000
set_option maxHeartbeats 4000000
set_option autoImplicit false
namespace Dn
open PySem L2 Sh
/-- a draw below many -/
noncomputable def p__law_take : QM := fun qs s => match qs with
  | [.drs ns, .atr, .int many] => if 0 < many then
      bindQ (if (s : Int) < ns.length then liftQ ((atI ns (s : Int)).map Q.int) (s + 1) else p__law_more [.drs ns, .int s] (s + 1)) fun v s1 => match v with
        | .int i => okQ (.int (i.fmod many)) s1
        | _ => none
    else none
  | _ => none
def takeV (m : M) : EF D := fIf (fT (fBin (pI2 gLt) (fVar 3) (fCall (p1L pLen) (fCons (fVar 0) fNil)))) (fBin pIx (fVar 0) (fVar 3)) (fApp 2 m (fCons (fVar 0) (fCons (fVar 3) fNil)))
theorem take_body {m : M} {ld la : Nat} {many : Int} {s : Nat} {S : Store} (ha : S[la]? = some (.lst [.int s])) :
    outOf ((sSeq (sAsg (fBin pIx (fVar 1) (fC (.int 0))) (gN 3)) (sSeq (sAsg (fBin pAdd (fVar 3) (fC (.int 1))) (gIx (fVar 1) (fC (.int 0)))) (sRet (fBin (pI2 gMod) (fCall (p1L pInt) (fCons (takeV m) fNil)) (fVar 2))))) [some (.ref ld), some (.ref la), some (.int many), none] S)
      = outOf ((sRet (fBin (pI2 gMod) (fCall (p1L pInt) (fCons (takeV m) fNil)) (fVar 2))) [some (.ref ld), some (.ref la), some (.int many), some (.int (s : Int))] (S.set la (.lst [.int ((s : Int) + 1)]))) := by
  have e0 : atI [D.int (s : Int)] 0 = some (.int s) := rfl
  simp [sSeq, sAsg, fBin, fVar, fC, pIx, ha, e0, gN, gIx, pAdd, ixN, toS]
theorem take_ret {F : EF D} {ρ : Rho} {T : Store} {many : Int} (h2 : ρ[2]? = some (some (.int many))) :
    outOf (sRet (fBin (pI2 gMod) (fCall (p1L pInt) (fCons F fNil)) (fVar 2)) ρ T) = bindR (F ρ T) fun d S1 => outOf (toS ρ (bindR (p1L pInt [d] S1) fun d S1 => pI2 gMod d (.int many) S1) fun d S1 => some (.ret d, S1)) := by
  unfold sRet fBin fCall fCons fNil fVar
  generalize F ρ T = R
  match R with
  | none => rfl
  | some (.error x, U) => rfl
  | some (.ok d, U) =>
    simp only [bindR_ok, h2]
theorem take_mod {c : Cw} {O : Nat → Prop} {T : Store} {r : Rs D} {q : Rq Q} {ρ : Rho} {many : Int} (hm : 0 < many) (h : PostQ c O T (RV c O) r q) :
    PostQ c O T (RV c O) (bindR r fun d S1 => outOf (toS ρ (bindR (p1L pInt [d] S1) fun d S1 => pI2 gMod d (.int many) S1) fun d S1 => some (.ret d, S1))) (bindQ q fun v s1 => match v with | .int i => okQ (.int (i.fmod many)) s1 | _ => none) :=
  h.bind fun U d v s1 st2 G2 rv => by
    cases rv with
    | int i =>
      simp only [bindR_ok, p1L, pInt, pI2, gMod]
      rw [if_pos (by omega)]
      exact .ok G2 (.int _)
    | _ => trivial
theorem take_val {m : M} {p : QM} (hm : LkM m p) {c : Cw} {O : Nat → Prop} {T : Store} {s1 : Sq} {many s : Int} (G : Gd c T O s1) {da : D} :
    PostQ c O T (RV c O) (takeV m [some (.ref c.ld), some da, some (.int many), some (.int s)] T) (if s < c.ns.length then liftQ ((atI c.ns s).map Q.int) s1 else p [.drs c.ns, .int s] s1) := by
  have hlen : pLen (.ref c.ld) T = okR (.int (c.ns.length : Nat)) T := by simp [pLen, G.hd]
  unfold takeV fIf
  have ec : fT (fBin (pI2 gLt) (fVar 3) (fCall (p1L pLen) (fCons (fVar 0) fNil))) [some (.ref c.ld), some da, some (.int many), some (.int s)] T = okR (decide (s < c.ns.length)) T := by
    simp [fT, fBin, fVar, fCall, fCons, fNil, p1L, hlen, pI2, gLt, asB]
  rw [ec]
  simp only [bindR_ok]
  by_cases hs : s < c.ns.length
  · rw [if_pos hs, if_pos (by simpa using hs)]
    cases e : atI c.ns s with
    | none => trivial
    | some k =>
      have : fBin pIx (fVar 0) (fVar 3) [some (.ref c.ld), some da, some (.int many), some (.int s)] T = okR (.int k) T := by
        simp [fBin, fVar, pIx, G.hd, atI_map, e]
      rw [this]
      exact .ok G (.int k)
  · rw [if_neg hs, if_neg (by simpa using hs)]
    have : fApp 2 m (fCons (fVar 0) (fCons (fVar 3) fNil)) [some (.ref c.ld), some da, some (.int many), some (.int s)] T = m [.ref c.ld, .int s] T := by
      simp [fApp, fCons, fVar, fNil]
    rw [this]
    exact hm c T O s1 _ _ G (.cons .drs (.cons (.int _) .nil))
theorem take_unf {ds : List D} {S : Store} (h : ds.length = 3) : m__law_take ds S = outOf ((sSeq (sAsg (fBin pIx (fVar 1) (fC (.int 0))) (gN 3)) (sSeq (sAsg (fBin pAdd (fVar 3) (fC (.int 1))) (gIx (fVar 1) (fC (.int 0)))) (sRet (fBin (pI2 gMod) (fCall (p1L pInt) (fCons (takeV m__law_more) fNil)) (fVar 2))))) (ds.map some ++ [none]) S) := by
  unfold m__law_take mOf
  rw [if_pos h]
  unfold startR d__law_take takeV
  rw [h]
  rfl
theorem lk__law_take : LkM m__law_take p__law_take := fun c S O s qs ds G r => by
  unfold p__law_take
  split
  · rename_i ns many
    by_cases hm : 0 < many
    · rw [if_pos hm]
      cases r with
      | cons r1 r =>
      cases r with
      | cons r2 r =>
      cases r with
      | cons r3 r =>
      cases r
      cases r1
      cases r2
      cases r3
      have nla : c.la ≠ c.ld := fun z => G.old (z ▸ G.ola)
      have lla := (List.getElem?_eq_some_iff.mp G.ha).1
      have G1 : Gd c (S.set c.la (.lst [.int ((s : Int) + 1)])) O (s + 1) := ⟨fun l h => by simpa using G.lt l h, G.ola, G.old, by rw [List.getElem?_set_self lla]; simp, by rw [List.getElem?_set_ne nla]; exact G.hd⟩
      have st1 : Stp c S (S.set c.la (.lst [.int ((s : Int) + 1)])) := ⟨by simp, fun l o h1 h2 => by rw [List.getElem?_set_ne (fun z => h1 z.symm)]; exact h2⟩
      rw [take_unf rfl]
      refine PostQ.up st1 ?_
      have e1 := take_body (m := m__law_more) (ld := c.ld) (many := many) G.ha
      rw [take_ret (many := many) rfl] at e1
      have k := take_mod (ρ := [some (.ref c.ld), some (.ref c.la), some (.int many), some (.int (s : Int))]) hm (take_val lk__law_more (many := many) (s := (s : Int)) G1 (da := .ref c.la))
      rw [← e1] at k
      exact k
    · rw [if_neg hm]; trivial
  · trivial
end Dn

set_option Elab.async false
set_option linter.all false
set_option maxRecDepth 100000
set_option maxHeartbeats 4000000
set_option autoImplicit false
namespace Sh
open PySem L2
/-! ### working out what the second layer says -/
section
variable {ρ : RhoQ} {s s' : Sq} {i j k n : Nat} {f g h t a b it lo hi st : EQ Q}
@[simp] theorem z_Var : qVar i ρ s = (match ρ[i]? with | some (some d) => okQ d s | _ => none) := rfl
@[simp] theorem z_C {q : Q} : qC q ρ s = okQ q s := rfl
@[simp] theorem z_Nil : qNil ρ s = okQ [] s := rfl
@[simp] theorem z_Cons {g : EQ (List Q)} : qCons f g ρ s = bindQ (f ρ s) fun d s1 => bindQ (g ρ s1) fun ds s2 => okQ (d :: ds) s2 := rfl
@[simp] theorem z_Star {g : EQ (List Q)} : qStar f g ρ s = bindQ (f ρ s) fun d s1 => match qseq d with
  | some xs => bindQ (g ρ s1) fun ds s2 => okQ (xs ++ ds) s2
  | none => none := rfl
@[simp] theorem qseq_tup {xs : List Q} : qseq (.tup xs) = some xs := rfl
@[simp] theorem qseq_lst {xs : List Q} : qseq (.lst xs) = some xs := rfl
@[simp] theorem z_Un {p : Q1} : qUn p f ρ s = bindQ (f ρ s) fun v s1 => liftQ (p v) s1 := rfl
@[simp] theorem z_Bin {p : Q2} : qBin p f g ρ s = bindQ (f ρ s) fun v s1 => bindQ (g ρ s1) fun w s2 => liftQ (p v w) s2 := rfl
@[simp] theorem z_Call {p : List Q → Option Q} {g : EQ (List Q)} : qCall p g ρ s = bindQ (g ρ s) fun v s1 => liftQ (p v) s1 := rfl
@[simp] theorem z_Tup {g : EQ (List Q)} : qTup g ρ s = bindQ (g ρ s) fun ds s1 => if ds.length ≤ 16777216 then okQ (.tup ds) s1 else none := rfl
@[simp] theorem z_Lst {g : EQ (List Q)} : qLst g ρ s = bindQ (g ρ s) fun ds s1 => if ds.length ≤ 16777216 then okQ ds s1 else none := rfl
@[simp] theorem z_Al {g : EQ (List Q)} : qAl g ρ s = bindQ (g ρ s) fun ds s1 => okQ (.lst ds) s1 := rfl
@[simp] theorem z_Cat {f g : EQ (List Q)} : qCat f g ρ s = bindQ (f ρ s) fun xs s1 => bindQ (g ρ s1) fun ys s2 => if xs.length + ys.length ≤ 16777216 then okQ (xs ++ ys) s2 else none := rfl
@[simp] theorem z_CatE : qCatE f g ρ s = bindQ (f ρ s) fun d s1 => bindQ (g ρ s1) fun e s2 => match d, e with
  | .lst xs, .lst ys => if xs.length + ys.length ≤ 16777216 then okQ (xs ++ ys) s2 else none
  | _, _ => none := rfl
@[simp] theorem z_List : qList f ρ s = bindQ (f ρ s) fun d s1 => liftQ (qseq d) s1 := rfl
@[simp] theorem z_Rep {f : EQ (List Q)} : qRep f g ρ s = bindQ (f ρ s) fun xs s1 => bindQ (g ρ s1) fun d s2 => match d with
  | .int k => if (-(2 ^ 63) ≤ k ∧ k < 2 ^ 63) ∧ xs.length * k.toNat ≤ 16777216 then okQ (List.replicate k.toNat xs).flatten s2 else none
  | _ => none := rfl
@[simp] theorem z_T : qT f ρ s = asBQ (f ρ s) := rfl
@[simp] theorem z_asB_none : asBQ none = none := rfl
@[simp] theorem z_asB_err {e : Qx} : asBQ (some (.error e, s)) = some (.error e, s) := rfl
@[simp] theorem z_Tru : qTru f ρ s = bindQ (f ρ s) fun d s1 => liftQ (qtru d) s1 := rfl
@[simp] theorem z_AndF {f g : EQ Bool} : qAndF f g ρ s = bindQ (f ρ s) fun b s1 => if b = true then g ρ s1 else okQ false s1 := rfl
@[simp] theorem z_OrF {f g : EQ Bool} : qOrF f g ρ s = bindQ (f ρ s) fun b s1 => if b = true then okQ true s1 else g ρ s1 := rfl
@[simp] theorem z_NotF {f : EQ Bool} : qNotF f ρ s = bindQ (f ρ s) fun b s1 => okQ (!b) s1 := rfl
@[simp] theorem z_If {t : EQ Bool} : qIf t f g ρ s = bindQ (t ρ s) fun b s1 => if b = true then f ρ s1 else g ρ s1 := rfl
@[simp] theorem z_And : qAnd f g ρ s = bindQ (asBQ (f ρ s)) fun b s1 => if b = true then g ρ s1 else okQ (.bl false) s1 := rfl
@[simp] theorem z_Or : qOr f g ρ s = bindQ (asBQ (f ρ s)) fun b s1 => if b = true then okQ (.bl true) s1 else g ρ s1 := rfl
@[simp] theorem z_Not : qNot f ρ s = bindQ (asBQ (f ρ s)) fun b s1 => okQ (.bl (!b)) s1 := rfl
@[simp] theorem z_Chain {p q : Q2} : qChain p q f g h ρ s = bindQ (f ρ s) fun d s1 => bindQ (g ρ s1) fun e s2 => bindQ (liftQ (p d e) s2) fun z s3 => match z with
  | .bl true => bindQ (h ρ s3) fun k s4 => liftQ (q e k) s4
  | .bl false => okQ (.bl false) s3
  | _ => none := rfl
@[simp] theorem z_oN : qoN ρ s = okQ none s := rfl
@[simp] theorem z_oS : qoS f ρ s = bindQ (f ρ s) fun d s1 => match d with
  | .int i => okQ (some i) s1
  | _ => none := rfl
@[simp] theorem z_Sl {lo hi : EQ (Option Int)} : qSl f lo hi ρ s = bindQ (f ρ s) fun d s1 => bindQ (lo ρ s1) fun a s2 => bindQ (hi ρ s2) fun b s3 => match d with
  | .tup xs => okQ (.tup (cutD xs a b)) s3
  | .lst xs => okQ (.lst (cutD xs a b)) s3
  | _ => none := rfl
@[simp] theorem z_Rev : qRev f ρ s = bindQ (f ρ s) fun d s1 => match d with
  | .tup xs => okQ (.tup xs.reverse) s1
  | .lst xs => okQ (.lst xs.reverse) s1
  | _ => none := rfl
@[simp] theorem z_Step {lo hi st : EQ (Option Int)} : qStep f lo hi st ρ s = bindQ (f ρ s) fun d s1 => bindQ (lo ρ s1) fun a s2 => bindQ (hi ρ s2) fun b s3 => bindQ (st ρ s3) fun k s4 => match k with
  | some k => if k ≠ 0 then match d with
      | .tup xs => okQ (.tup (stepS xs a b k)) s4
      | .lst xs => okQ (.lst (stepS xs a b k)) s4
      | _ => none
    else none
  | none => none := rfl
@[simp] theorem z_App {p : QM} {g : EQ (List Q)} : qApp n p g ρ s = bindQ (g ρ s) fun ds s1 => if ds.length = n then p ds s1 else none := rfl
@[simp] theorem z_iE : jE f ρ s = bindQ (f ρ s) fun d s1 => liftQ (uwalk d) s1 := rfl
@[simp] theorem uwalk_tup {xs : List Q} : uwalk (.tup xs) = some xs := rfl
@[simp] theorem uwalk_lst {xs : List Q} : uwalk (.lst xs) = some xs := rfl
@[simp] theorem z_iR1 {g : EQ (List Q)} : jR1 g ρ s = bindQ (g ρ s) fun ds s1 => match ds with
  | [.int j] => if j < 2 ^ 62 ∧ -(2 ^ 62) ≤ j then okQ (qInts 0 j.toNat) s1 else none
  | _ => none := rfl
@[simp] theorem z_iR2 {g : EQ (List Q)} : jR2 g ρ s = bindQ (g ρ s) fun ds s1 => match ds with
  | [.int i, .int j] => if (i < 2 ^ 62 ∧ -(2 ^ 62) ≤ i) ∧ j < 2 ^ 62 ∧ -(2 ^ 62) ≤ j then okQ (qInts i (j - i).toNat) s1 else none
  | _ => none := rfl
@[simp] theorem z_zip {g : EQ (List Q)} : jZip g ρ s = bindQ (g ρ s) fun ds s1 => match ds with
  | [.tup xs, .tup ys] => okQ (zipQ xs ys) s1
  | [.lst xs, .lst ys] => okQ (zipQ xs ys) s1
  | _ => none := rfl
@[simp] theorem z_enu {g : EQ (List Q)} : jEnu g ρ s = bindQ (g ρ s) fun ds s1 => match ds with
  | [.lst xs] => okQ (enumQ xs) s1
  | _ => none := rfl
@[simp] theorem z_enuA {g : EQ (List Q)} : jEnuA g ρ s = bindQ (g ρ s) fun ds s1 => match ds with
  | [.tup xs] => okQ (enumQ xs) s1
  | [.lst xs] => okQ (enumQ xs) s1
  | _ => none := rfl
@[simp] theorem z_N {v : Q} : uN i v ρ = some (ρ.set i (some v)) := rfl
@[simp] theorem z_Nl : uNl [] ρ = some ρ := rfl
@[simp] theorem z_Cn {g : GQ} {gs : GQs} {v : Q} {vs : List Q} : uCn g gs (v :: vs) ρ = (g v ρ).bind fun ρ' => gs vs ρ' := rfl
@[simp] theorem z_Tp {gs : GQs} {vs : List Q} : uTp n gs (.tup vs) ρ = if vs.length = n then gs vs ρ else none := rfl
@[simp] theorem z_True : qTrue ρ s = okQ true s := rfl
@[simp] theorem z_wipe0 : wipeQ ρ [] = ρ := rfl
@[simp] theorem z_wipe {v : Nat} {vs : List Nat} : wipeQ ρ (v :: vs) = (wipeQ ρ vs).set v none := rfl
@[simp] theorem z_Comp {it : EQ (List Q)} {vs : List Nat} {g : GQ} {t : EQ Bool} : qComp it vs g t f ρ s = bindQ (it ρ s) fun p s1 => if p.length ≤ 16777216 then qCompGo g t f (wipeQ ρ vs) p s1 else none := rfl
@[simp] theorem z_CompGo0 {g : GQ} {t : EQ Bool} : qCompGo g t f ρ [] s = okQ [] s := rfl
@[simp] theorem z_NilS : qNilS ρ s = some (.nx ρ, s) := rfl
@[simp] theorem z_Break : qBreak ρ s = some (.bk ρ, s) := rfl
@[simp] theorem z_Cont : qCont ρ s = some (.ct ρ, s) := rfl
theorem z_Seq {f g : SFq} : qSeq f g ρ s = (match f ρ s with | some (.nx ρ', s') => g ρ' s' | r => r) := rfl
@[simp] theorem z_Expr : qExpr f ρ s = toSq ρ (f ρ s) fun _ s1 => some (.nx ρ, s1) := rfl
@[simp] theorem z_Ret : qRet f ρ s = toSq ρ (f ρ s) fun v s1 => some (.ret v, s1) := rfl
@[simp] theorem z_RetN : qRetN ρ s = some (.ret .non, s) := rfl
@[simp] theorem z_IfS {t : EQ Bool} {f g : SFq} : qIfS t f g ρ s = toSq ρ (t ρ s) fun b s1 => if b = true then f ρ s1 else g ρ s1 := rfl
@[simp] theorem z_Asg {g : GQ} : qAsg f g ρ s = toSq ρ (f ρ s) fun v s1 => match g v ρ with
  | none => none
  | some ρ' => some (.nx ρ', s1) := rfl
@[simp] theorem z_Set : qSet f i ρ s = toSq ρ (f ρ s) fun v s1 => some (.nx (ρ.set i (some v)), s1) := rfl
@[simp] theorem z_Apd : qApd i f ρ s = (match ρ[i]? with
  | some (some (.lst xs)) => toSq ρ (f ρ s) fun v s1 => if xs.length < 16777216 then some (.nx (ρ.set i (some (.lst (xs ++ [v])))), s1) else none
  | _ => none) := rfl
@[simp] theorem z_SetIx : qSetIx i f g ρ s = toSq ρ (f ρ s) fun v s1 => match ρ[i]? with
  | some (some (.lst xs)) => match g ρ s1 with
    | some (.ok (.int k), s2) => match ixN xs.length k with
      | some j => some (.nx (ρ.set i (some (.lst (xs.set j v)))), s2)
      | none => none
    | _ => none
  | _ => none := rfl
@[simp] theorem z_For {it : EQ (List Q)} {g : GQ} {b : SFq} : qFor it g b ρ s = toSq ρ (it ρ s) fun p s1 => qForGo g b p ρ s1 := rfl
@[simp] theorem z_ForGo0 {g : GQ} {b : SFq} : qForGo g b [] ρ s = some (.nx ρ, s) := rfl
theorem z_ForGo {g : GQ} {b : SFq} {d : Q} {r : List Q} : qForGo g b (d :: r) ρ s = (match g d ρ with
    | none => none
    | some ρ2 => match b ρ2 s with
      | some (.nx ρ3, s3) => qForGo g b r ρ3 s3
      | some (.ct ρ3, s3) => qForGo g b r ρ3 s3
      | some (.bk ρ3, s3) => some (.nx ρ3, s3)
      | x => x) := rfl
@[simp] theorem z_Raise {x y : Str} : qRaise x y f ρ s = toSq ρ (f ρ s) fun v s1 => some (.exn (x, [(y, v)]) ρ, s1) := rfl
theorem z_Try {b : SFq} {mt : List (Str × Bool)} {f : Qx → EQ Q} : qTry b mt i f ρ s = (match b ρ s with
  | some (.exn e ρ', s') => match mt.lookup e.1 with
    | some true => if i < ρ'.length then match f e (ρ'.set i none) s' with
      | some (.ok d, s2) => some (.ret d, s2)
      | _ => none
      else none
    | some false => some (.exn e ρ', s')
    | none => none
  | r => r) := rfl
@[simp] theorem z_Fld {names : List Str} {f : Str} {x : Qx} : qFld names f x ρ s = if x.1 ∈ names then liftQ (x.2.lookup f) s else none := rfl
@[simp] theorem z_IsX {mt : List (Str × Bool)} {x : Qx} : qIsX mt x ρ s = (match mt.lookup x.1 with | some b => okQ (.bl b) s | none => none) := rfl
@[simp] theorem z_IfX {t a b : Qx → EQ Q} {x : Qx} : qIfX t a b x ρ s = bindQ (t x ρ s) fun d s1 => match d with
  | .bl true => a x ρ s1
  | .bl false => b x ρ s1
  | _ => none := rfl
@[simp] theorem z_Par {is : List Nat} {g : EQ (List Q)} : qPar is g ρ s = toSq ρ (g ρ s) fun ds s1 => match is, ds with
  | [i, j], [d, e] => some (.nx ((ρ.set i (some d)).set j (some e)), s1)
  | [i, j, l], [d, e, f] => some (.nx (((ρ.set i (some d)).set j (some e)).set l (some f)), s1)
  | _, _ => none := rfl
@[simp] theorem z_start {n : Nat} {qs : List Q} : startQ n qs = qs.map some ++ List.replicate (n - qs.length) none := rfl
theorem z_mOf {np : Nat} {b : SFq} {qs : List Q} : qmOf n np b qs s = if qs.length = np then outQ (b (startQ n qs) s) else none := rfl
@[simp] theorem u_Int {i : Int} : uInt (.int i) = some (.int i) := rfl
@[simp] theorem u_Neg {i : Int} : uNeg (.int i) = some (.int (-i)) := rfl
@[simp] theorem u_LenT {xs : List Q} : uLen (.tup xs) = some (.int xs.length) := rfl
@[simp] theorem u_LenL {xs : List Q} : uLen (.lst xs) = some (.int xs.length) := rfl
@[simp] theorem u_LenD {ns : List Int} : uLen (.drs ns) = some (.int ns.length) := rfl
@[simp] theorem u_TupT {xs : List Q} : uTuple (.tup xs) = some (.tup xs) := rfl
@[simp] theorem u_TupL {xs : List Q} : uTuple (.lst xs) = some (.tup xs) := rfl
@[simp] theorem u_IxT {xs : List Q} {i : Int} : uIx (.tup xs) (.int i) = atI xs i := rfl
@[simp] theorem u_IxL {xs : List Q} {i : Int} : uIx (.lst xs) (.int i) = atI xs i := rfl
@[simp] theorem u_IxD {ns : List Int} {i : Int} : uIx (.drs ns) (.int i) = (atI ns i).map .int := rfl
@[simp] theorem u_truB {b : Bool} : qtru (.bl b) = some b := rfl
@[simp] theorem u_truI {i : Int} : qtru (.int i) = some (i != 0) := rfl
@[simp] theorem u_truT {xs : List Q} : qtru (.tup xs) = some !xs.isEmpty := rfl
@[simp] theorem u_truL {xs : List Q} : qtru (.lst xs) = some !xs.isEmpty := rfl
@[simp] theorem u_truD {ns : List Int} : qtru (.drs ns) = some !ns.isEmpty := rfl
@[simp] theorem u_truN : qtru .non = some false := rfl
@[simp] theorem u_tup {xs : List Q} : uTup xs = some (.tup xs) := rfl
@[simp] theorem u_ln {xs : List Q} : uLn xs = some (.int xs.length) := rfl
@[simp] theorem u_isN {a : Q} : uIsN a .non = some (.bl (isNonQ a)) := rfl
@[simp] theorem u_notN {a : Q} : uNotN a .non = some (.bl (!isNonQ a)) := rfl
@[simp] theorem isNon_non : isNonQ .non = true := rfl
@[simp] theorem isNon_int {i : Int} : isNonQ (.int i) = false := rfl
@[simp] theorem isNon_str {i : Str} : isNonQ (.str i) = false := rfl
@[simp] theorem isNon_tup {i : List Q} : isNonQ (.tup i) = false := rfl
@[simp] theorem u_strEq {x y : Str} : uEq (.str x) (.str y) = some (.bl (x == y)) := rfl
@[simp] theorem u_strNe {x y : Str} : uNe (.str x) (.str y) = some (.bl (!(x == y))) := rfl
@[simp] theorem u_intEq {a b : Int} : uEq (.int a) (.int b) = some (.bl (a == b)) := by simp [uEq, eqQ, pyQ, eqv_int]
@[simp] theorem u_intNe {a b : Int} : uNe (.int a) (.int b) = some (.bl (!(a == b))) := by simp [uNe, eqQ, pyQ, eqv_int]
@[simp] theorem u_mulR {i j : Int} (h : -18446744073709551616 < j ∧ j < 18446744073709551616) : uI2 gMul (.int i) (.int j) = some (.int (i * j)) := uMul_int (.inr h)
@[simp] theorem u_mulL {i j : Int} (h : -18446744073709551616 < i ∧ i < 18446744073709551616) : uI2 gMul (.int i) (.int j) = some (.int (i * j)) := uMul_int (.inl h)
@[simp] theorem u_mulAR {i j : Int} (h : -18446744073709551616 < j ∧ j < 18446744073709551616) : uMulA (.int i) (.int j) = some (.int (i * j)) := by simp only [uMulA, gMul, if_pos (.inr h : (-(2 ^ 64) < i ∧ i < 2 ^ 64) ∨ (-(2 ^ 64) < j ∧ j < 2 ^ 64))]; rfl
@[simp] theorem u_mulAL {i j : Int} (h : -18446744073709551616 < i ∧ i < 18446744073709551616) : uMulA (.int i) (.int j) = some (.int (i * j)) := by simp only [uMulA, gMul, if_pos (.inl h : (-(2 ^ 64) < i ∧ i < 2 ^ 64) ∨ (-(2 ^ 64) < j ∧ j < 2 ^ 64))]; rfl
@[simp] theorem u_mod {i j : Int} (h : j ≠ 0) : uI2 gMod (.int i) (.int j) = some (.int (i.fmod j)) := uMod_int h
@[simp] theorem u_div {i j : Int} (h : j ≠ 0 ∧ j.natAbs < 1073741824) : uI2 gDiv (.int i) (.int j) = some (.int (i.fdiv j)) := uDiv_int h
@[simp] theorem u_isiT {xs : List Q} : uIsi "tuple" (.tup xs) = some (.bl true) := rfl
@[simp] theorem qInts_len {lo : Int} {n : Nat} : (qInts lo n).length = n := by simp [qInts]
theorem mem_qInts {lo : Int} {n : Nat} {d : Q} (h : d ∈ qInts lo n) : ∃ k : Nat, k < n ∧ d = .int (lo + (k : Nat)) := by
  unfold qInts at h
  obtain ⟨k, hk, rfl⟩ := List.mem_map.mp h
  exact ⟨k, List.mem_range.mp hk, rfl⟩
/-- the same over a list that is mapped -/
theorem comp_all' {α : Type} {g : GQ} {f : EQ Q} {ρ : RhoQ} (e : α → Q) (z : α → Q) {xs : List α} (h : ∀ d ∈ xs, ∃ ρ2, g (e d) ρ = some ρ2 ∧ ∀ s, f ρ2 s = okQ (z d) s) (s : Sq) : qCompGo g qTrue f ρ (xs.map e) s = okQ (xs.map z) s := by
  induction xs with
  | nil => rfl
  | cons d r ih =>
    obtain ⟨ρ2, h1, h2⟩ := h d (List.mem_cons_self ..)
    simp only [List.map_cons, qCompGo, h1, z_True, noQ_ok, bindQ_ok, if_true, h2, ih fun d hd => h d (List.mem_cons_of_mem _ hd)]
theorem comp_map' {α : Type} {g : GQ} {t : EQ Bool} {f : EQ Q} {ρ : RhoQ} (e : α → Q) (b : α → Bool) (z : α → Q) {xs : List α} (h : ∀ d ∈ xs, ∃ ρ2, g (e d) ρ = some ρ2 ∧ ∀ s, t ρ2 s = okQ (b d) s ∧ (b d = true → f ρ2 s = okQ (z d) s)) (s : Sq) :
    qCompGo g t f ρ (xs.map e) s = okQ ((xs.filter b).map z) s := by
  induction xs with
  | nil => rfl
  | cons d r ih =>
    obtain ⟨ρ2, h1, h2⟩ := h d (List.mem_cons_self ..)
    obtain ⟨h3, h4⟩ := h2 s
    have ih' := ih fun d hd => h d (List.mem_cons_of_mem _ hd)
    simp only [List.map_cons, qCompGo, h1, h3, noQ_ok, bindQ_ok]
    cases hb : b d with
    | false => simp only [Bool.false_eq_true, if_false, ih', List.filter_cons, hb]
    | true => simp only [if_true, h4 hb, noQ_ok, bindQ_ok, ih', List.filter_cons, hb, List.map_cons]
/-- a comprehension of drawn values: each has V -/
theorem comp_draw {g : GQ} {f : EQ Q} {ρ : RhoQ} (V : Q → Prop) {xs : List Q} (h : ∀ d ∈ xs, ∃ ρ2, g d ρ = some ρ2 ∧ ∀ s, ∃ v s', f ρ2 s = okQ v s' ∧ V v) : ∀ s : Sq, ∃ vs s', qCompGo g qTrue f ρ xs s = okQ vs s' ∧ vs.length = xs.length ∧ ∀ v ∈ vs, V v := by
  induction xs with
  | nil => exact fun s => ⟨[], s, rfl, rfl, fun v hv => by cases hv⟩
  | cons d r ih =>
    intro s
    obtain ⟨ρ2, h1, h2⟩ := h d (List.mem_cons_self ..)
    obtain ⟨v, s1, h3, h4⟩ := h2 s
    obtain ⟨vs, s2, h5, h6, h7⟩ := ih (fun d hd => h d (List.mem_cons_of_mem _ hd)) s1
    refine ⟨v :: vs, s2, ?_, by simp [h6], fun w hw => ?_⟩
    · simp only [qCompGo, h1, z_True, noQ_ok, bindQ_ok, if_true, h3, h5]
    · rcases List.mem_cons.mp hw with rfl | hw
      · exact h4
      · exact h7 w hw
/-! goals: what stands behind a piece -/
def WF (r : Rfq) (P : FlQ → Sq → Prop) : Prop := ∃ fl s', r = some (fl, s') ∧ P fl s'
def WX {α : Type} (r : Rq α) (P : Except Qx α → Sq → Prop) : Prop := ∃ x s', r = some (x, s') ∧ P x s'
@[simp] theorem wf_some {fl : FlQ} {P : FlQ → Sq → Prop} : WF (some (fl, s)) P ↔ P fl s := ⟨fun ⟨_, _, e, h⟩ => by cases e; exact h, fun h => ⟨_, _, rfl, h⟩⟩
@[simp] theorem wx_some {α : Type} {x : Except Qx α} {P : Except Qx α → Sq → Prop} : WX (some (x, s)) P ↔ P x s := ⟨fun ⟨_, _, e, h⟩ => by cases e; exact h, fun h => ⟨_, _, rfl, h⟩⟩
/-- behind a statement -/
def thenF (b : SFq) (P : FlQ → Sq → Prop) : FlQ → Sq → Prop := fun fl s1 => match fl with
  | .nx ρ' => WF (b ρ' s1) P
  | x => P x s1
@[simp] theorem thenF_nx {b : SFq} {P : FlQ → Sq → Prop} : thenF b P (.nx ρ) s ↔ WF (b ρ s) P := Iff.rfl
@[simp] theorem thenF_ret {b : SFq} {P : FlQ → Sq → Prop} {v : Q} : thenF b P (.ret v) s ↔ P (.ret v) s := Iff.rfl
@[simp] theorem thenF_bk {b : SFq} {P : FlQ → Sq → Prop} : thenF b P (.bk ρ) s ↔ P (.bk ρ) s := Iff.rfl
@[simp] theorem thenF_ct {b : SFq} {P : FlQ → Sq → Prop} : thenF b P (.ct ρ) s ↔ P (.ct ρ) s := Iff.rfl
@[simp] theorem thenF_exn {b : SFq} {P : FlQ → Sq → Prop} {e : Qx} : thenF b P (.exn e ρ) s ↔ P (.exn e ρ) s := Iff.rfl
@[simp] theorem wf_seq {f g : SFq} {P : FlQ → Sq → Prop} : WF (qSeq f g ρ s) P ↔ WF (f ρ s) (thenF g P) := by
  unfold WF
  rw [z_Seq]
  constructor
  · rintro ⟨fl, s', e, h⟩
    cases hf : f ρ s with
    | none => rw [hf] at e; cases e
    | some z =>
      obtain ⟨fl1, s1⟩ := z
      rw [hf] at e
      cases fl1 with
      | nx ρ' => exact ⟨_, _, rfl, fl, s', e, h⟩
      | _ => cases e; exact ⟨_, _, rfl, h⟩
  · rintro ⟨fl, s', e, h⟩
    rw [e]
    cases fl with
    | nx ρ' => obtain ⟨fl, s2, e2, h2⟩ := h; exact ⟨fl, s2, e2, h2⟩
    | _ => exact ⟨_, _, rfl, h⟩
def outF (P : Except Qx Q → Sq → Prop) : FlQ → Sq → Prop := fun fl s => match fl with
  | .ret v => P (.ok v) s
  | .nx _ => P (.ok .non) s
  | .exn e _ => P (.error e) s
  | _ => False
@[simp] theorem outF_ret {P : Except Qx Q → Sq → Prop} {v : Q} : outF P (.ret v) s ↔ P (.ok v) s := Iff.rfl
@[simp] theorem outF_nx {P : Except Qx Q → Sq → Prop} : outF P (.nx ρ) s ↔ P (.ok .non) s := Iff.rfl
@[simp] theorem outF_exn {P : Except Qx Q → Sq → Prop} {e : Qx} : outF P (.exn e ρ) s ↔ P (.error e) s := Iff.rfl
@[simp] theorem wx_mOf {np : Nat} {b : SFq} {qs : List Q} {P : Except Qx Q → Sq → Prop} : WX (qmOf n np b qs s) P ↔ qs.length = np ∧ WF (b (startQ n qs) s) (outF P) := by
  unfold WX WF
  rw [z_mOf]
  constructor
  · rintro ⟨x, s', e, h⟩
    by_cases hl : qs.length = np
    · rw [if_pos hl] at e
      refine ⟨hl, ?_⟩
      cases hb : b (startQ n qs) s with
      | none => rw [hb] at e; cases e
      | some z =>
        obtain ⟨fl, s1⟩ := z
        rw [hb] at e
        cases fl with
        | bk _ => cases e
        | ct _ => cases e
        | _ => cases e; exact ⟨_, _, rfl, h⟩
    · rw [if_neg hl] at e; cases e
  · rintro ⟨hl, fl, s', e, h⟩
    rw [if_pos hl, e]
    cases fl with
    | bk _ => exact h.elim
    | ct _ => exact h.elim
    | _ => exact ⟨_, _, rfl, h⟩
theorem WX.eq {α : Type} {r : Rq α} {x : Except Qx α} (h : WX r fun x' s' => x' = x ∧ s' = s) : r = some (x, s) := by
  obtain ⟨_, _, e, rfl, rfl⟩ := h
  exact e
theorem WF.mono {r : Rfq} {P P' : FlQ → Sq → Prop} (h : WF r P) (k : ∀ fl s, P fl s → P' fl s) : WF r P' := let ⟨fl, s, e, p⟩ := h; ⟨fl, s, e, k fl s p⟩
/-- a loop, by an invariant of the items done -/
theorem wf_forI {g : GQ} {b : SFq} {P : FlQ → Sq → Prop} {xs : List Q} (I : List Q → RhoQ → Sq → Prop)
    (h : ∀ done d rest ρ s, done ++ d :: rest = xs → I done ρ s → ∃ ρ2, g d ρ = some ρ2 ∧ WF (b ρ2 s) fun fl s' => match fl with | .nx ρ' => I (done ++ [d]) ρ' s' | .ct ρ' => I (done ++ [d]) ρ' s' | .bk ρ' => P (.nx ρ') s' | x => P x s')
    (h0 : I [] ρ s) (hE : ∀ ρ s, I xs ρ s → P (.nx ρ) s) : WF (qForGo g b xs ρ s) P := by
  have key : ∀ (rest done : List Q) (ρ : RhoQ) (s : Sq), done ++ rest = xs → I done ρ s → WF (qForGo g b rest ρ s) P := by
    intro rest
    induction rest with
    | nil => intro done ρ s e hI; rw [List.append_nil] at e; subst e; exact ⟨_, _, rfl, hE _ _ hI⟩
    | cons d rest ih =>
      intro done ρ s e hI
      obtain ⟨ρ2, h1, fl, s', h2, h3⟩ := h done d rest ρ s e hI
      have e' : done ++ [d] ++ rest = xs := by rw [List.append_assoc]; exact e
      unfold WF
      rw [z_ForGo, h1]
      cases fl with
      | nx ρ' => simp only [h2]; exact ih _ _ _ e' h3
      | ct ρ' => simp only [h2]; exact ih _ _ _ e' h3
      | bk ρ' => simp only [h2]; exact ⟨_, _, rfl, h3⟩
      | ret v => simp only [h2]; exact ⟨_, _, rfl, h3⟩
      | exn e ρ' => simp only [h2]; exact ⟨_, _, rfl, h3⟩
  exact key xs [] ρ s rfl h0
/-- the same, when what was done doesn't matter -/
theorem wf_for {g : GQ} {b : SFq} {P : FlQ → Sq → Prop} {xs : List Q} (I : RhoQ → Sq → Prop)
    (h : ∀ d ρ s, d ∈ xs → I ρ s → ∃ ρ2, g d ρ = some ρ2 ∧ WF (b ρ2 s) fun fl s' => match fl with | .nx ρ' => I ρ' s' | .ct ρ' => I ρ' s' | .bk ρ' => P (.nx ρ') s' | x => P x s')
    (h0 : I ρ s) (hE : ∀ ρ s, I ρ s → P (.nx ρ) s) : WF (qForGo g b xs ρ s) P :=
  wf_forI (fun _ => I) (fun done d rest ρ s e hI => h d ρ s (by rw [← e]; simp) hI) h0 hE
/-- try -/
def tryF (mt : List (Str × Bool)) (i : Nat) (f : Qx → EQ Q) (P : FlQ → Sq → Prop) : FlQ → Sq → Prop := fun fl s => match fl with
  | .exn e ρ' => match mt.lookup e.1 with
    | some true => i < ρ'.length ∧ WX (f e (ρ'.set i none) s) fun x s2 => match x with | .ok d => P (.ret d) s2 | .error _ => False
    | some false => P (.exn e ρ') s
    | none => False
  | x => P x s
@[simp] theorem tryF_nx {mt : List (Str × Bool)} {f : Qx → EQ Q} {P : FlQ → Sq → Prop} : tryF mt i f P (.nx ρ) s ↔ P (.nx ρ) s := Iff.rfl
@[simp] theorem tryF_ret {mt : List (Str × Bool)} {f : Qx → EQ Q} {P : FlQ → Sq → Prop} {v : Q} : tryF mt i f P (.ret v) s ↔ P (.ret v) s := Iff.rfl
@[simp] theorem wf_try {b : SFq} {mt : List (Str × Bool)} {f : Qx → EQ Q} {P : FlQ → Sq → Prop} (h : WF (b ρ s) (tryF mt i f P)) : WF (qTry b mt i f ρ s) P := by
  obtain ⟨fl, s', e, h⟩ := h
  unfold WF
  rw [z_Try, e]
  cases fl with
  | exn e2 ρ2 =>
    simp only [tryF] at h
    simp only
    cases hm : mt.lookup e2.1 with
    | none => rw [hm] at h; exact h.elim
    | some v =>
      rw [hm] at h
      cases v with
      | false => exact ⟨_, _, rfl, h⟩
      | true =>
        obtain ⟨h1, x, s2, h2, h3⟩ := h
        simp only [if_pos h1, h2]
        cases x with
        | ok d => exact ⟨_, _, rfl, h3⟩
        | error _ => exact h3.elim
  | _ => exact ⟨_, _, rfl, h⟩
end
end Sh

set_option Elab.async false
set_option linter.all false
set_option maxRecDepth 100000
set_option maxHeartbeats 4000000
set_option autoImplicit false
namespace Dn
open PySem L2 Sh
theorem atI_some {α : Type} {xs : List α} {i : Int} (h0 : 0 ≤ i) (h1 : i < xs.length) : ∃ x, atI xs i = some x ∧ x ∈ xs ∧ xs[i.toNat]? = some x := atI_in h0 h1
theorem more_ok (ns : List Int) (p : Int) (s : Sq) : WX (p__law_more [.drs ns, .int p] s) fun x s' => ∃ k : Int, x = .ok (.int k) ∧ s' = s := by
  unfold p__law_more r__law_more
  simp
  generalize (p * 48271 + (ns.length : Int) + 11).fmod 2147483629 = x
  refine wf_for (fun ρ s' => (∃ (y : Int) (k : Option Q), ρ = [some (.drs ns), some (.int p), some (.int y), k]) ∧ s' = s) ?_ ⟨⟨x, none, rfl⟩, rfl⟩ ?_
  · rintro d ρ s' hd ⟨⟨y, k, rfl⟩, rfl⟩
    obtain ⟨k, hk, rfl⟩ := mem_qInts hd
    refine ⟨_, rfl, ?_⟩
    by_cases hn : ns = []
    · subst hn
      simp
    · have hp : 0 < ns.length := List.length_pos_iff.mpr hn
      have hz : (ns.length : Int) ≠ 0 := by omega
      have hk5 : -18446744073709551616 < (k : Int) + 5 ∧ (k : Int) + 5 < 18446744073709551616 := by omega
      obtain ⟨z, e1, _⟩ := atI_some (xs := ns) (i := (p * ((k : Int) + 5) + k).fmod ns.length) (Int.fmod_nonneg_of_pos _ (by omega)) (Int.fmod_lt_of_pos _ (by omega))
      simp [hn, hz, hk5, e1]
  · rintro ρ s' ⟨⟨y, k, rfl⟩, rfl⟩
    simp
theorem take_ok (ns : List Int) (many : Int) (hm : 0 < many) (s : Sq) : ∃ (k : Int) (s' : Sq), p__law_take [.drs ns, .atr, .int many] s = okQ (.int k) s' ∧ 0 ≤ k ∧ k < many := by
  unfold p__law_take
  simp only [if_pos hm]
  by_cases hs : (s : Int) < ns.length
  · obtain ⟨z, e1, _⟩ := atI_some (xs := ns) (i := (s : Int)) (by omega) hs
    rw [if_pos hs, e1]
    exact ⟨_, _, rfl, Int.fmod_nonneg_of_pos _ hm, Int.fmod_lt_of_pos _ hm⟩
  · obtain ⟨x, s', e, k, rfl, rfl⟩ := more_ok ns s (s + 1)
    rw [if_neg hs, e]
    exact ⟨_, _, rfl, Int.fmod_nonneg_of_pos _ hm, Int.fmod_lt_of_pos _ hm⟩
end Dn

set_option Elab.async false
set_option linter.all false
set_option maxRecDepth 100000
set_option maxHeartbeats 4000000
set_option autoImplicit false
namespace Dn
open PySem L2 Sh
/-! ### values as the library's data -/
mutual
def pyT : Q → PyData
  | .non => .none
  | .bl b => .bool b
  | .int i => .int i
  | .str x => .str x
  | .tup xs => .tuple (pyTs xs)
  | .lst xs => .list (pyTs xs)
  | .atr => .none
  | .drs _ => .none
  | .scr => .none
  | .rng _ _ _ => .none
  | .gd _ => .none
  | .dic _ _ => .none
def pyTs : List Q → List PyData
  | [] => []
  | x :: xs => pyT x :: pyTs xs
end
/-- plain data k deep, of weight w, its numbers small -/
structure Nice (k w : Nat) (q : Q) : Prop where
  rd : pyQ k q = some (pyT q)
  sh : (pyT q).showable = true
  lay : (pyT q).canLay0 = true
  sht : (pyT q).leavesShort 20 = true
  wt : (pyT q).weight ≤ w
theorem Nice.mono {k w v : Nat} {d : Q} (h : Nice k w d) (hv : w ≤ v) : Nice k v d := ⟨h.rd, h.sh, h.lay, h.sht, Nat.le_trans h.wt hv⟩
theorem nice_non {k : Nat} : Nice k 13 .non := ⟨by cases k <;> rfl, by simp [pyT, PyData.showable], by simp [pyT, PyData.canLay0], by simp [pyT, PyData.leavesShort], by simp [pyT, PyData.weight]⟩
theorem nice_bl {k : Nat} {b : Bool} : Nice k 13 (.bl b) := ⟨by cases k <;> rfl, by simp [pyT, PyData.showable], by simp [pyT, PyData.canLay0], by cases b <;> simp [pyT, PyData.leavesShort], by cases b <;> simp [pyT, PyData.weight]⟩
theorem short_intsQ : ((List.range 2001).all fun i => decide ((PyData.shown (.int ((i : Int) - 1000))).length ≤ 20) && decide ((PyData.int ((i : Int) - 1000)).weight ≤ 13)) = true := by decide +kernel
theorem nice_int {k : Nat} {i : Int} (h : -1000 ≤ i ∧ i ≤ 1000) : Nice k 13 (.int i) := by
  have h1 := List.all_eq_true.mp short_intsQ (i + 1000).toNat (List.mem_range.mpr (by omega))
  have e : (((i + 1000).toNat : Nat) : Int) - 1000 = i := by omega
  rw [e, Bool.and_eq_true] at h1
  refine ⟨by cases k <;> rfl, ?_, by simp [pyT, PyData.canLay0], ?_, of_decide_eq_true h1.2⟩
  · simp only [pyT, PyData.showable, decide_eq_true_eq]
    have : i.natAbs.log2 ≤ i.natAbs := Nat.log2_le_self _
    omega
  · simp only [pyT, PyData.leavesShort]
    exact h1.1
/-- a short text of plain signs -/
def okStr (x : Str) : Bool := PyData.canLay0 (.str x) && (x.cps.toList.all fun c => decide (c < 16 ^ 8)) && decide (x.cps.size ≤ 13)
theorem nice_str {k : Nat} {x : Str} (h : okStr x = true) : Nice k 13 (.str x) := by
  simp only [okStr, Bool.and_eq_true, decide_eq_true_eq] at h
  obtain ⟨⟨h1, h2⟩, h3⟩ := h
  exact ⟨by cases k <;> simp [pyQ, h1, pyT], by simp [pyT, PyData.showable], by simpa [pyT] using h1, by simp only [pyT, PyData.leavesShort]; exact h2, by simpa [pyT, PyData.weight] using h3⟩
theorem nices {k w : Nat} : ∀ {xs : List Q}, (∀ x ∈ xs, Nice k w x) → xs.mapM (pyQ k) = some (pyTs xs) ∧ PyData.showableAll (pyTs xs) = true ∧ PyData.canLayAll0 (pyTs xs) = true ∧ PyData.leavesShortAll 20 (pyTs xs) = true ∧ PyData.weightAll (pyTs xs) ≤ xs.length * (w + 1)
  | [], _ => ⟨rfl, by simp [pyTs, PyData.showableAll], by simp [pyTs, PyData.canLayAll0], by simp [pyTs, PyData.leavesShortAll], by simp [pyTs, PyData.weightAll]⟩
  | x :: xs, h => by
    have hx := h x (List.mem_cons_self ..)
    obtain ⟨h1, h2, h3, h4, h5⟩ := nices (xs := xs) fun y hy => h y (List.mem_cons_of_mem _ hy)
    refine ⟨?_, by simp [pyTs, PyData.showableAll, hx.sh, h2], by simp [pyTs, PyData.canLayAll0, hx.lay, h3], by simp [pyTs, PyData.leavesShortAll, hx.sht, h4], ?_⟩
    · rw [List.mapM_cons, hx.rd, h1]
      rfl
    · have := hx.wt
      simp only [pyTs, PyData.weightAll, List.length_cons]
      rw [Nat.succ_mul]
      omega
theorem nice_tup {k w n : Nat} {xs : List Q} (h : ∀ x ∈ xs, Nice k w x) (hl : xs.length ≤ n := by simp) : Nice (k + 1) (n * (w + 1)) (.tup xs) := by
  obtain ⟨h1, h2, h3, h4, h5⟩ := nices h
  have : xs.length * (w + 1) ≤ n * (w + 1) := Nat.mul_le_mul_right _ hl
  exact ⟨by simp only [pyQ, h1, pyT]; rfl, by simpa [pyT, PyData.showable] using h2, by simpa [pyT, PyData.canLay0] using h3, by simpa [pyT, PyData.leavesShort] using h4, by simp only [pyT, PyData.weight]; omega⟩
theorem nice_lst {k w n : Nat} {xs : List Q} (h : ∀ x ∈ xs, Nice k w x) (hl : xs.length ≤ n := by simp) : Nice (k + 1) (n * (w + 1)) (.lst xs) := by
  obtain ⟨h1, h2, h3, h4, h5⟩ := nices h
  have : xs.length * (w + 1) ≤ n * (w + 1) := Nat.mul_le_mul_right _ hl
  exact ⟨by simp only [pyQ, h1, pyT]; rfl, by simpa [pyT, PyData.showable] using h2, by simpa [pyT, PyData.canLay0] using h3, by simpa [pyT, PyData.leavesShort] using h4, by simp only [pyT, PyData.weight]; omega⟩
theorem pyQ_up : ∀ {k j : Nat} {q : Q} {a : PyData}, k ≤ j → pyQ k q = some a → pyQ j q = some a
  | k, j, .non, a, h, e => by simpa [pyQ] using e
  | k, j, .bl b, a, h, e => by simpa [pyQ] using e
  | k, j, .int b, a, h, e => by simpa [pyQ] using e
  | k, j, .str b, a, h, e => by simpa [pyQ] using e
  | k, j, .atr, a, h, e => by simp [pyQ] at e
  | k, j, .drs _, a, h, e => by simp [pyQ] at e
  | k, j, .scr, a, h, e => by simp [pyQ] at e
  | k, j, .rng _ _ _, a, h, e => by simp [pyQ] at e
  | k, j, .gd _, a, h, e => by simp [pyQ] at e
  | k, j, .dic _ _, a, h, e => by simp [pyQ] at e
  | 0, j, .tup xs, a, h, e => by simp [pyQ] at e
  | 0, j, .lst xs, a, h, e => by simp [pyQ] at e
  | k + 1, 0, _, a, h, e => by omega
  | k + 1, j + 1, .tup xs, a, h, e => by
    simp only [pyQ] at e ⊢
    have key : ∀ (ys : List Q) (as : List PyData), ys.mapM (pyQ k) = some as → ys.mapM (pyQ j) = some as := by
      intro ys
      induction ys with
      | nil => exact fun as e => e
      | cons y ys ih =>
        intro as e
        rw [List.mapM_cons] at e ⊢
        cases e1 : pyQ k y with
        | none => rw [e1] at e; cases e
        | some b =>
          rw [e1] at e
          rw [pyQ_up (by omega) e1]
          cases e2 : ys.mapM (pyQ k) with
          | none => rw [e2] at e; cases e
          | some bs => rw [e2] at e; rw [ih _ e2]; exact e
    cases e1 : xs.mapM (pyQ k) with
    | none => rw [e1] at e; cases e
    | some as => rw [e1] at e; rw [key xs as e1]; exact e
  | k + 1, j + 1, .lst xs, a, h, e => by
    simp only [pyQ] at e ⊢
    have key : ∀ (ys : List Q) (as : List PyData), ys.mapM (pyQ k) = some as → ys.mapM (pyQ j) = some as := by
      intro ys
      induction ys with
      | nil => exact fun as e => e
      | cons y ys ih =>
        intro as e
        rw [List.mapM_cons] at e ⊢
        cases e1 : pyQ k y with
        | none => rw [e1] at e; cases e
        | some b =>
          rw [e1] at e
          rw [pyQ_up (by omega) e1]
          cases e2 : ys.mapM (pyQ k) with
          | none => rw [e2] at e; cases e
          | some bs => rw [e2] at e; rw [ih _ e2]; exact e
    cases e1 : xs.mapM (pyQ k) with
    | none => rw [e1] at e; cases e
    | some as => rw [e1] at e; rw [key xs as e1]; exact e
theorem Nice.up {k j w : Nat} {q : Q} (h : Nice k w q) (hk : k ≤ j) : Nice j w q := ⟨pyQ_up hk h.rd, h.sh, h.lay, h.sht, h.wt⟩
theorem Nice.to60 {k w : Nat} {q : Q} (h : Nice k w q) (hk : k ≤ 60 := by decide) : pyQ 60 q = some (pyT q) := pyQ_up hk h.rd
theorem eqQ_nice {k j w v : Nat} {a b : Q} (ha : Nice k w a) (hb : Nice j v b) (hk : k ≤ 60 := by decide) (hj : j ≤ 60 := by decide) : eqQ a b = some (PyData.eqv (pyT a) (pyT b)) := by
  unfold eqQ
  rw [ha.to60 hk, hb.to60 hj]
theorem uEq_nice {k j w v : Nat} {a b : Q} (ha : Nice k w a) (hb : Nice j v b) (hk : k ≤ 60 := by decide) (hj : j ≤ 60 := by decide) : uEq a b = some (.bl (PyData.eqv (pyT a) (pyT b))) := by
  have h := eqQ_nice ha hb hk hj
  unfold uEq
  split
  · simp [pyT, PyData.eqv]
  · rw [h]; rfl
theorem uNe_nice {k j w v : Nat} {a b : Q} (ha : Nice k w a) (hb : Nice j v b) (hk : k ≤ 60 := by decide) (hj : j ≤ 60 := by decide) : uNe a b = some (.bl (!PyData.eqv (pyT a) (pyT b))) := by
  have h := eqQ_nice ha hb hk hj
  unfold uNe
  split
  · simp [pyT, PyData.eqv]
  · rw [h]; rfl
theorem uEq_self {k w : Nat} {a : Q} (ha : Nice k w a) (hk : k ≤ 60 := by decide) : uEq a a = some (.bl true) := by
  rw [uEq_nice ha ha hk hk, SeqAt.eqv_refl _ ha.lay]
theorem uNe_self {k w : Nat} {a : Q} (ha : Nice k w a) (hk : k ≤ 60 := by decide) : uNe a a = some (.bl false) := by
  rw [uNe_nice ha ha hk hk, SeqAt.eqv_refl _ ha.lay]; rfl
theorem uRepr_nice {k w : Nat} {a : Q} (ha : Nice k w a) (hw : w ≤ 700000) (hk : k ≤ 60 := by decide) : uRepr a = some (.str (pyT a).shown) := by
  unfold uRepr uReprO
  rw [ha.to60 hk]
  have h1 := PyData.shown_le 20 (by decide) _ ha.sht
  have h2 := ha.wt
  have h3 := PyData.hasDict_of_canLay _ ha.lay
  have h4 : (pyT a).shown.length ≤ 16777216 := by omega
  simp only [ha.sh, h3, h4, and_self, if_true]
  rfl
/-! ### kinds -/
theorem kindQ {k w : Nat} {q : Q} (h : Nice k w q) : ∃ t, uKind q = some t := by
  have := h.rd
  cases q with
  | atr => cases k <;> simp [pyQ] at this
  | drs _ => cases k <;> simp [pyQ] at this
  | scr => cases k <;> simp [pyQ] at this
  | rng _ _ _ => cases k <;> simp [pyQ] at this
  | dic _ _ => cases k <;> simp [pyQ] at this
  | gd _ => cases k <;> simp [pyQ] at this
  | _ => exact ⟨_, rfl⟩
def isI : Q → Bool
  | .int _ => true
  | _ => false
def isTup : Q → Bool
  | .tup _ => true
  | _ => false
theorem tyIs_int {q : Q} {t : String} (h : uKind q = some t) : uTyIs "int" q = some (.bl (isI q)) := by
  cases q with
  | atr => cases h
  | drs _ => cases h
  | scr => cases h
  | rng _ _ _ => cases h
  | dic _ _ => cases h
  | gd _ => cases h
  | _ => cases h; rfl
theorem kb_non : kitB "NoneType" "tuple" = some false := by decide +kernel
theorem kb_bool : kitB "bool" "tuple" = some false := by decide +kernel
theorem kb_int : kitB "int" "tuple" = some false := by decide +kernel
theorem kb_str : kitB "str" "tuple" = some false := by decide +kernel
theorem kb_list : kitB "list" "tuple" = some false := by decide +kernel
theorem kb_tup : kitB "tuple" "tuple" = some true := by decide +kernel
theorem isi_tup {q : Q} {t : String} (h : uKind q = some t) : uIsi "tuple" q = some (.bl (isTup q)) := by
  cases q with
  | atr => cases h
  | drs _ => cases h
  | scr => cases h
  | rng _ _ _ => cases h
  | dic _ _ => cases h
  | gd _ => cases h
  | non => simp only [uIsi, uKind, Option.bind_some, kb_non, isTup]; rfl
  | bl _ => simp only [uIsi, uKind, Option.bind_some, kb_bool, isTup]; rfl
  | int _ => simp only [uIsi, uKind, Option.bind_some, kb_int, isTup]; rfl
  | str _ => simp only [uIsi, uKind, Option.bind_some, kb_str, isTup]; rfl
  | tup _ => simp only [uIsi, uKind, Option.bind_some, kb_tup, isTup]; rfl
  | lst _ => simp only [uIsi, uKind, Option.bind_some, kb_list, isTup]; rfl
end Dn

set_option Elab.async false
set_option linter.all false
set_option maxRecDepth 100000
set_option maxHeartbeats 4000000
set_option autoImplicit false
namespace Dn
open PySem L2 Sh
noncomputable def r__law_one : SFq :=
  (qRet (qBin uIx (qVar 0) (qApp 3 p__law_take (qCons (qVar 1) (qCons (qVar 2) (qCons (qCall (u1L uLen) (qCons (qVar 0) qNil)) qNil))))))
noncomputable def p__law_one : QM := qmOf 3 3 r__law_one
theorem lk__law_one : LkM m__law_one p__law_one := lk_of (N := N__law_one) (b := d__law_one) (b' := r__law_one) (ow := []) (by
  unfold d__law_one r__law_one
  exact (ks_ret (k_bin y_ix k_var (k_app lk__law_take (k_cons k_var (k_cons k_var (k_cons (k_call (y_1L y_len) (k_cons k_var k_nil)) k_nil)))))))
noncomputable def r__law_threads : SFq :=
  (qRet (qAl (qCat (qComp (jR1 (qCons (qCall (u1L uLen) (qCons (qBin uIx (qVar 0) (qC (.int 0))) qNil)) qNil)) [1] (uN 1) qTrue (qTup (qCons (qC (.str "end")) (qCons (qVar 1) qNil)))) (qComp (jR1 (qCons (qCall (u1L uLen) (qCons (qVar 0) qNil)) qNil)) [2] (uN 2) qTrue (qTup (qCons (qC (.str "pick")) (qCons (qVar 2) qNil)))))))
noncomputable def p__law_threads : QM := qmOf 3 1 r__law_threads
noncomputable def r__law_shows : SFq :=
  (qSeq (qIfS (qT (qBin uEq (qBin uIx (qVar 1) (qC (.int 0))) (qC (.str "end")))) (qRet (qAl (qComp (jR1 (qCons (qCall (u1L uLen) (qCons (qVar 0) qNil)) qNil)) [3] (uN 3) (qT (qBin uEq (qBin uIx (qBin uIx (qVar 0) (qVar 3)) (qBin uIx (qVar 1) (qC (.int 1)))) (qC (.int 1)))) (qTup (qCons (qVar 3) (qCons (qBin uIx (qVar 1) (qC (.int 1))) qNil)))))) qNilS)
    (qRet (qAl (qComp (jR1 (qCons (qCall (u1L uLen) (qCons (qBin uIx (qVar 0) (qC (.int 0))) qNil)) qNil)) [2] (uN 2) (qT (qBin uEq (qBin uIx (qBin uIx (qVar 0) (qBin uIx (qVar 1) (qC (.int 1)))) (qVar 2)) (qC (.int 0)))) (qTup (qCons (qBin uIx (qVar 1) (qC (.int 1))) (qCons (qVar 2) qNil)))))))
noncomputable def p__law_shows : QM := qmOf 4 2 r__law_shows
noncomputable def r__law_found : SFq :=
  (qSeq (qSet (qAl (qLst qNil)) 2)
    (qSeq (qFor (jE (qApp 1 p__law_threads (qCons (qVar 0) qNil))) (uN 3) (qSeq (qSet (qApp 2 p__law_shows (qCons (qVar 0) (qCons (qVar 3) qNil))) 4)
    (qSeq (qSet (qAl (qComp (jE (qVar 4)) [8, 9] (uTp 2 (uCn (uN 8) (uCn (uN 9) uNl))) qTrue (qBin uIx (qBin uIx (qVar 1) (qVar 8)) (qVar 9)))) 5)
    (qSeq (qSet (qAl (qComp (jR1 (qCons (qCall (u1L uLen) (qCons (qVar 5) qNil)) qNil)) [7] (uN 7) (qT (qBin uNe (qBin uIx (qVar 5) (qVar 7)) (qBin uIx (qVar 5) (qC (.int 0))))) (qVar 7))) 6)
    (qSeq (qIfS (qTru (qVar 6)) (qRet (qTup (qCons (qC (.str "clash")) (qCons (qBin uIx (qVar 4) (qC (.int 0))) (qCons (qBin uIx (qVar 4) (qBin uIx (qVar 6) (qC (.int 0)))) qNil))))) qNilS)
    (qApd 2 (qIf (qTru (qVar 5)) (qBin uIx (qVar 5) (qC (.int 0))) (qC .non))))))))
    (qRet (qTup (qCons (qC (.str "plan")) (qCons (qTup (qCons (qCall (u1L uTuple) (qCons (qSl (qVar 2) qoN (qoS (qCall (u1L uLen) (qCons (qBin uIx (qVar 0) (qC (.int 0))) qNil)))) qNil)) (qCons (qCall (u1L uTuple) (qCons (qSl (qVar 2) (qoS (qCall (u1L uLen) (qCons (qBin uIx (qVar 0) (qC (.int 0))) qNil))) qoN) qNil)) qNil))) qNil))))))
noncomputable def p__law_found : QM := qmOf 10 2 r__law_found
noncomputable def r__law_same_as : SFq :=
  (qRet (qAnd (qBin uEq (qVar 0) (qVar 1)) (qBin uEq (qCall (u1L uRepr) (qCons (qVar 0) qNil)) (qCall (u1L uRepr) (qCons (qVar 1) qNil)))))
noncomputable def p__law_same_as : QM := qmOf 2 2 r__law_same_as
noncomputable def r__law_is_crossing : SFq :=
  (qSeq (qIfS (qOrF (qNotF (qTru (qUn (uIsi "tuple") (qVar 1)))) (qOrF (qT (qBin uNe (qCall (u1L uLen) (qCons (qVar 1) qNil)) (qC (.int 2)))) (qTru (qAl (qComp (jE (qVar 1)) [2] (uN 2) (qOrF (qNotF (qTru (qUn (uIsi "int") (qVar 2)))) (qTru (qUn (uIsi "bool") (qVar 2)))) (qVar 2)))))) (qRet (qC (.bl false))) qNilS)
    (qRet (qAnd (qChain (uI2 gLe) (uI2 gLt) (qC (.int 0)) (qBin uIx (qVar 1) (qC (.int 0))) (qCall (u1L uLen) (qCons (qVar 0) qNil))) (qChain (uI2 gLe) (uI2 gLt) (qC (.int 0)) (qBin uIx (qVar 1) (qC (.int 1))) (qCall (u1L uLen) (qCons (qBin uIx (qVar 0) (qC (.int 0))) qNil))))))
noncomputable def p__law_is_crossing : QM := qmOf 3 2 r__law_is_crossing
noncomputable def r__law_reason : SFq :=
  (qSeq (qIfS (qOrF (qNotF (qTru (qUn (uIsi "tuple") (qVar 2)))) (qOrF (qNotF (qTru (qVar 2))) (qOrF (qT (qBin uNotInT (qBin uIx (qVar 2) (qC (.int 0))) (qTup (qCons (qC (.str "plan")) (qCons (qC (.str "clash")) qNil))))) (qT (qBin uNe (qCall (u1L uLen) (qCons (qVar 2) qNil)) (qIf (qT (qBin uEq (qBin uIx (qVar 2) (qC (.int 0))) (qC (.str "plan")))) (qC (.int 2)) (qC (.int 3)))))))) (qRet (qC (.str "form"))) qNilS)
    (qSeq (qIfS (qT (qBin uEq (qBin uIx (qVar 2) (qC (.int 0))) (qC (.str "plan")))) (qRet (qIf (qTru (qApp 2 p__law_same_as (qCons (qVar 2) (qCons (qApp 2 p__law_found (qCons (qVar 0) (qCons (qVar 1) qNil))) qNil)))) (qC .non) (qC (.str "plan")))) qNilS)
    (qSeq (qIfS (qOrF (qNotF (qTru (qApp 2 p__law_is_crossing (qCons (qVar 0) (qCons (qBin uIx (qVar 2) (qC (.int 1))) qNil))))) (qNotF (qTru (qApp 2 p__law_is_crossing (qCons (qVar 0) (qCons (qBin uIx (qVar 2) (qC (.int 2))) qNil)))))) (qRet (qC (.str "clash"))) qNilS)
    (qSeq (qSet (qAl (qComp (jE (qApp 1 p__law_threads (qCons (qVar 0) qNil))) [5] (uN 5) (qAndF (qT (qBin uInL (qBin uIx (qVar 2) (qC (.int 1))) (qApp 2 p__law_shows (qCons (qVar 0) (qCons (qVar 5) qNil))))) (qT (qBin uInL (qBin uIx (qVar 2) (qC (.int 2))) (qApp 2 p__law_shows (qCons (qVar 0) (qCons (qVar 5) qNil)))))) (qVar 5))) 3)
    (qSeq (qSet (qBin uNe (qBin uIx (qBin uIx (qVar 1) (qBin uIx (qBin uIx (qVar 2) (qC (.int 1))) (qC (.int 0)))) (qBin uIx (qBin uIx (qVar 2) (qC (.int 1))) (qC (.int 1)))) (qBin uIx (qBin uIx (qVar 1) (qBin uIx (qBin uIx (qVar 2) (qC (.int 2))) (qC (.int 0)))) (qBin uIx (qBin uIx (qVar 2) (qC (.int 2))) (qC (.int 1))))) 4)
    (qRet (qIf (qAndF (qTru (qVar 3)) (qTru (qVar 4))) (qC .non) (qC (.str "clash")))))))))
noncomputable def p__law_reason : QM := qmOf 6 3 r__law_reason
noncomputable def r_is_integer : SFq :=
  (qRet (qUn (uTyIs "int") (qVar 0)))
noncomputable def p_is_integer : QM := qmOf 1 1 r_is_integer
theorem lk_is_integer : LkM m_is_integer p_is_integer := lk_of (N := N_is_integer) (b := d_is_integer) (b' := r_is_integer) (ow := []) (by
  unfold d_is_integer r_is_integer
  exact (ks_ret (k_un y_tyIs k_var)))
noncomputable def r_is_number : SFq :=
  (qRet (qAnd (qApp 1 p_is_integer (qCons (qVar 0) qNil)) (qChain (uI2 gLe) (uI2 gLe) (qVar 1) (qVar 0) (qVar 2))))
noncomputable def p_is_number : QM := qmOf 3 3 r_is_number
theorem lk_is_number : LkM m_is_number p_is_number := lk_of (N := N_is_number) (b := d_is_number) (b' := r_is_number) (ow := []) (by
  unfold d_is_number r_is_number
  exact (ks_ret (k_and (k_app lk_is_integer (k_cons k_var k_nil)) (k_chain y_I2 y_I2 k_var k_var k_var))))
noncomputable def r__fault_of_cloth : SFq :=
  (qSeq (qIfS (qOrF (qNotF (qTru (qUn (uIsi "tuple") (qVar 0)))) (qNotF (qTru (qCall uAll (qComp (jE (qVar 0)) [2] (uN 2) qTrue (qUn (uIsi "tuple") (qVar 2))))))) (qRet (qC (.str "form"))) qNilS)
    (qSeq (qIfS (qNotF (qT (qChain (uI2 gLe) (uI2 gLe) (qC (.int 1)) (qCall (u1L uLen) (qCons (qVar 0) qNil)) (qC (.int 24))))) (qRet (qC (.str "picks"))) qNilS)
    (qSeq (qSet (qCall (u1L uLen) (qCons (qBin uIx (qVar 0) (qC (.int 0))) qNil)) 1)
    (qSeq (qIfS (qOrF (qNotF (qT (qChain (uI2 gLe) (uI2 gLe) (qC (.int 1)) (qVar 1) (qC (.int 24))))) (qNotF (qTru (qCall uAll (qComp (jE (qVar 0)) [2] (uN 2) qTrue (qBin uEq (qCall (u1L uLen) (qCons (qVar 2) qNil)) (qVar 1))))))) (qRet (qC (.str "ends"))) qNilS)
    (qSeq (qFor (jE (qVar 0)) (uN 2) (qIfS (qNotF (qTru (qCall uAll (qComp (jE (qVar 2)) [3] (uN 3) qTrue (qApp 3 p_is_number (qCons (qVar 3) (qCons (qC (.int 0)) (qCons (qC (.int 1)) qNil)))))))) (qRet (qC (.str "crossing"))) qNilS))
    (qRet (qC .non)))))))
noncomputable def p__fault_of_cloth : QM := qmOf 4 1 r__fault_of_cloth
noncomputable def r_check_cloth : SFq :=
  (qSeq (qSet (qApp 1 p__fault_of_cloth (qCons (qVar 0) qNil)) 1)
    (qIfS (qT (qBin uNotN (qVar 1) (qC .non))) (qRaise "ClothError" "reason" (qVar 1)) qNilS))
noncomputable def p_check_cloth : QM := qmOf 2 1 r_check_cloth
noncomputable def r_is_row : SFq :=
  (qRet (qAnd (qUn (uIsi "tuple") (qVar 0)) (qBin uEq (qCall (u1L uLen) (qCons (qVar 0) qNil)) (qVar 1))))
noncomputable def p_is_row : QM := qmOf 2 2 r_is_row
theorem lk_is_row : LkM m_is_row p_is_row := lk_of (N := N_is_row) (b := d_is_row) (b' := r_is_row) (ow := []) (by
  unfold d_is_row r_is_row
  exact (ks_ret (k_and (k_un y_isi k_var) (k_bin y_eq (k_call (y_1L y_len) (k_cons k_var k_nil)) k_var))))
noncomputable def r_is_colour : SFq :=
  (qRet (qAnd (qUn (uIsi "str") (qVar 0)) (qChain (uI2 gLe) (uI2 gLe) (qC (.int 1)) (qCall (u1L uLen) (qCons (qVar 0) qNil)) (qC (.int 12)))))
noncomputable def p_is_colour : QM := qmOf 1 1 r_is_colour
noncomputable def r_are_colours : SFq :=
  (qRet (qAnd (qApp 2 p_is_row (qCons (qVar 0) (qCons (qVar 1) qNil))) (qCall uAll (qComp (jE (qVar 0)) [2] (uN 2) qTrue (qApp 1 p_is_colour (qCons (qVar 2) qNil))))))
noncomputable def p_are_colours : QM := qmOf 3 2 r_are_colours
noncomputable def r_is_plan : SFq :=
  (qRet (qAnd (qApp 2 p_is_row (qCons (qVar 1) (qCons (qC (.int 2)) qNil))) (qAnd (qApp 2 p_are_colours (qCons (qBin uIx (qVar 1) (qC (.int 0))) (qCons (qCall (u1L uLen) (qCons (qBin uIx (qVar 0) (qC (.int 0))) qNil)) qNil))) (qApp 2 p_are_colours (qCons (qBin uIx (qVar 1) (qC (.int 1))) (qCons (qCall (u1L uLen) (qCons (qVar 0) qNil)) qNil))))))
noncomputable def p_is_plan : QM := qmOf 2 2 r_is_plan
noncomputable def r__check_plan : SFq :=
  (qSeq (qExpr (qApp 1 p_check_cloth (qCons (qVar 0) qNil)))
    (qIfS (qNotF (qTru (qApp 2 p_is_plan (qCons (qVar 0) (qCons (qVar 1) qNil))))) (qRaise "ArgumentError" "reason" (qC (.str "plan"))) qNilS))
noncomputable def p__check_plan : QM := qmOf 2 2 r__check_plan
noncomputable def r_picture : SFq :=
  (qSeq (qExpr (qApp 2 p__check_plan (qCons (qVar 0) (qCons (qVar 1) qNil))))
    (qSeq (qAsg (qVar 1) (uTp 2 (uCn (uN 2) (uCn (uN 3) uNl))))
    (qRet (qCall uTup (qComp (jEnuA (qCons (qVar 0) qNil)) [4, 5] (uTp 2 (uCn (uN 4) (uCn (uN 5) uNl))) qTrue (qCall uTup (qComp (jEnuA (qCons (qVar 5) qNil)) [6, 7] (uTp 2 (uCn (uN 6) (uCn (uN 7) uNl))) qTrue (qIf (qT (qBin uEq (qVar 7) (qC (.int 1)))) (qBin uIx (qVar 2) (qVar 6)) (qBin uIx (qVar 3) (qVar 4))))))))))
noncomputable def p_picture : QM := qmOf 8 2 r_picture
noncomputable def r_picture_behind : SFq :=
  (qSeq (qExpr (qApp 2 p__check_plan (qCons (qVar 0) (qCons (qVar 1) qNil))))
    (qSeq (qSet (qCall uTup (qComp (jE (qVar 0)) [3] (uN 3) qTrue (qCall uTup (qComp (jE (qVar 3)) [4] (uN 4) qTrue (qBin (uI2 gSub) (qC (.int 1)) (qVar 4)))))) 2)
    (qRet (qCall uTup (qComp (jE (qApp 2 p_picture (qCons (qVar 2) (qCons (qVar 1) qNil)))) [3] (uN 3) qTrue (qRev (qVar 3)))))))
noncomputable def p_picture_behind : QM := qmOf 5 2 r_picture_behind
noncomputable def r__is_picture : SFq :=
  (qRet (qAnd (qApp 2 p_is_row (qCons (qVar 1) (qCons (qCall (u1L uLen) (qCons (qVar 0) qNil)) qNil))) (qCall uAll (qComp (jE (qVar 1)) [2] (uN 2) qTrue (qApp 2 p_are_colours (qCons (qVar 2) (qCons (qCall (u1L uLen) (qCons (qBin uIx (qVar 0) (qC (.int 0))) qNil)) qNil)))))))
noncomputable def p__is_picture : QM := qmOf 3 2 r__is_picture
noncomputable def r__check_picture : SFq :=
  (qSeq (qExpr (qApp 1 p_check_cloth (qCons (qVar 0) qNil)))
    (qIfS (qNotF (qTru (qApp 2 p__is_picture (qCons (qVar 0) (qCons (qVar 1) qNil))))) (qRaise "ArgumentError" "reason" (qC (.str "picture"))) qNilS))
noncomputable def p__check_picture : QM := qmOf 2 2 r__check_picture
noncomputable def r_threads_of : SFq :=
  (qSeq (qSet (qAl (qComp (jR1 (qCons (qCall (u1L uLen) (qCons (qBin uIx (qVar 0) (qC (.int 0))) qNil)) qNil)) [3] (uN 3) qTrue (qTup (qCons (qC (.str "end")) (qCons (qVar 3) qNil))))) 1)
    (qSeq (qSet (qAl (qComp (jR1 (qCons (qCall (u1L uLen) (qCons (qVar 0) qNil)) qNil)) [3] (uN 3) qTrue (qTup (qCons (qC (.str "pick")) (qCons (qVar 3) qNil))))) 2)
    (qRet (qCall uTup (qCatE (qVar 1) (qVar 2))))))
noncomputable def p_threads_of : QM := qmOf 4 1 r_threads_of
noncomputable def r_crossings_that_show : SFq :=
  (qSeq (qAsg (qVar 1) (uTp 2 (uCn (uN 2) (uCn (uN 3) uNl))))
    (qSeq (qIfS (qT (qBin uEq (qVar 2) (qC (.str "end")))) (qRet (qAl (qComp (jEnuA (qCons (qVar 0) qNil)) [6, 7] (uTp 2 (uCn (uN 6) (uCn (uN 7) uNl))) (qT (qBin uEq (qBin uIx (qVar 7) (qVar 3)) (qC (.int 1)))) (qTup (qCons (qVar 6) (qCons (qVar 3) qNil)))))) qNilS)
    (qRet (qAl (qComp (jEnuA (qCons (qBin uIx (qVar 0) (qVar 3)) qNil)) [4, 5] (uTp 2 (uCn (uN 4) (uCn (uN 5) uNl))) (qT (qBin uEq (qVar 5) (qC (.int 0)))) (qTup (qCons (qVar 3) (qCons (qVar 4) qNil))))))))
noncomputable def p_crossings_that_show : QM := qmOf 8 2 r_crossings_that_show
noncomputable def r__plan_from : SFq :=
  (qSeq (qSet (qCall (u1L uLen) (qCons (qBin uIx (qVar 0) (qC (.int 0))) qNil)) 2)
    (qRet (qTup (qCons (qCall (u1L uTuple) (qCons (qSl (qVar 1) qoN (qoS (qVar 2))) qNil)) (qCons (qCall (u1L uTuple) (qCons (qSl (qVar 1) (qoS (qVar 2)) qoN) qNil)) qNil)))))
noncomputable def p__plan_from : QM := qmOf 3 2 r__plan_from
noncomputable def r__colour_at : SFq :=
  (qSeq (qAsg (qVar 1) (uTp 2 (uCn (uN 2) (uCn (uN 3) uNl))))
    (qRet (qBin uIx (qBin uIx (qVar 0) (qVar 2)) (qVar 3))))
noncomputable def p__colour_at : QM := qmOf 4 2 r__colour_at
noncomputable def r_plan_of : SFq :=
  (qSeq (qExpr (qApp 2 p__check_picture (qCons (qVar 0) (qCons (qVar 1) qNil))))
    (qSeq (qSet (qAl (qLst qNil)) 2)
    (qSeq (qFor (jE (qApp 1 p_threads_of (qCons (qVar 0) qNil))) (uN 3) (qSeq (qSet (qApp 2 p_crossings_that_show (qCons (qVar 0) (qCons (qVar 3) qNil))) 4)
    (qSeq (qSet (qAl (qComp (jE (qVar 4)) [6] (uN 6) (qT (qBin uNe (qApp 2 p__colour_at (qCons (qVar 1) (qCons (qVar 6) qNil))) (qApp 2 p__colour_at (qCons (qVar 1) (qCons (qBin uIx (qVar 4) (qC (.int 0))) qNil))))) (qVar 6))) 5)
    (qSeq (qIfS (qTru (qVar 5)) (qRet (qTup (qCons (qC (.str "clash")) (qCons (qBin uIx (qVar 4) (qC (.int 0))) (qCons (qBin uIx (qVar 5) (qC (.int 0))) qNil))))) qNilS)
    (qApd 2 (qIf (qTru (qVar 4)) (qApp 2 p__colour_at (qCons (qVar 1) (qCons (qBin uIx (qVar 4) (qC (.int 0))) qNil))) (qC .non)))))))
    (qRet (qTup (qCons (qC (.str "plan")) (qCons (qApp 2 p__plan_from (qCons (qVar 0) (qCons (qVar 2) qNil))) qNil)))))))
noncomputable def p_plan_of : QM := qmOf 7 2 r_plan_of
noncomputable def r_begins : SFq :=
  (qRet (qAnd (qApp 2 p_is_row (qCons (qVar 0) (qCons (qVar 1) qNil))) (qBin uEq (qBin uIx (qVar 0) (qC (.int 0))) (qVar 2))))
noncomputable def p_begins : QM := qmOf 3 3 r_begins
noncomputable def r_shown_at : SFq :=
  (qSeq (qAsg (qVar 1) (uTp 2 (uCn (uN 2) (uCn (uN 3) uNl))))
    (qRet (qIf (qT (qBin uEq (qBin uIx (qBin uIx (qVar 0) (qVar 2)) (qVar 3)) (qC (.int 1)))) (qTup (qCons (qC (.str "end")) (qCons (qVar 3) qNil))) (qTup (qCons (qC (.str "pick")) (qCons (qVar 2) qNil))))))
noncomputable def p_shown_at : QM := qmOf 4 2 r_shown_at
noncomputable def r_is_crossing_in : SFq :=
  (qSeq (qIfS (qNotF (qTru (qApp 2 p_is_row (qCons (qVar 2) (qCons (qC (.int 2)) qNil))))) (qRet (qC (.bl false))) qNilS)
    (qRet (qAnd (qApp 3 p_is_number (qCons (qBin uIx (qVar 2) (qC (.int 0))) (qCons (qC (.int 0)) (qCons (qBin (uI2 gSub) (qVar 0) (qC (.int 1))) qNil)))) (qApp 3 p_is_number (qCons (qBin uIx (qVar 2) (qC (.int 1))) (qCons (qC (.int 0)) (qCons (qBin (uI2 gSub) (qVar 1) (qC (.int 1))) qNil)))))))
noncomputable def p_is_crossing_in : QM := qmOf 3 3 r_is_crossing_in
noncomputable def r_is_crossing : SFq :=
  (qRet (qApp 3 p_is_crossing_in (qCons (qCall (u1L uLen) (qCons (qVar 0) qNil)) (qCons (qCall (u1L uLen) (qCons (qBin uIx (qVar 0) (qC (.int 0))) qNil)) (qCons (qVar 1) qNil)))))
noncomputable def p_is_crossing : QM := qmOf 2 2 r_is_crossing
noncomputable def r__is_clash : SFq :=
  (qSeq (qIfS (qOrF (qNotF (qTru (qApp 2 p_is_crossing (qCons (qVar 0) (qCons (qVar 2) qNil))))) (qNotF (qTru (qApp 2 p_is_crossing (qCons (qVar 0) (qCons (qVar 3) qNil)))))) (qRet (qC (.bl false))) qNilS)
    (qSeq (qIfS (qT (qBin uNe (qApp 2 p_shown_at (qCons (qVar 0) (qCons (qVar 2) qNil))) (qApp 2 p_shown_at (qCons (qVar 0) (qCons (qVar 3) qNil))))) (qRet (qC (.bl false))) qNilS)
    (qRet (qBin uNe (qApp 2 p__colour_at (qCons (qVar 1) (qCons (qVar 2) qNil))) (qApp 2 p__colour_at (qCons (qVar 1) (qCons (qVar 3) qNil)))))))
noncomputable def p__is_clash : QM := qmOf 4 4 r__is_clash
noncomputable def r_accept_plan_of : SFq :=
  (qSeq (qExpr (qApp 2 p__check_picture (qCons (qVar 0) (qCons (qVar 1) qNil))))
    (qIfS (qTru (qApp 3 p_begins (qCons (qVar 2) (qCons (qC (.int 2)) (qCons (qC (.str "plan")) qNil))))) (qIfS (qT (qBin uNe (qVar 2) (qApp 2 p_plan_of (qCons (qVar 0) (qCons (qVar 1) qNil))))) (qRaise "PaperError" "reason" (qC (.str "plan"))) qNilS) (qIfS (qTru (qApp 3 p_begins (qCons (qVar 2) (qCons (qC (.int 3)) (qCons (qC (.str "clash")) qNil))))) (qIfS (qNotF (qTru (qApp 4 p__is_clash (qCons (qVar 0) (qCons (qVar 1) (qCons (qBin uIx (qVar 2) (qC (.int 1))) (qCons (qBin uIx (qVar 2) (qC (.int 2))) qNil))))))) (qRaise "PaperError" "reason" (qC (.str "clash"))) qNilS) (qRaise "PaperError" "reason" (qC (.str "form"))))))
noncomputable def p_accept_plan_of : QM := qmOf 3 3 r_accept_plan_of
end Dn

set_option Elab.async false
set_option linter.all false
set_option maxRecDepth 100000
set_option maxHeartbeats 4000000
set_option autoImplicit false
namespace Dn
open PySem L2 Sh
/-! ### lists made of a range -/
def rg {α : Type} (n : Nat) (f : Nat → α) : List α := (List.range n).map f
@[simp] theorem rg_len {α : Type} {n : Nat} {f : Nat → α} : (rg n f).length = n := by simp [rg]
theorem rg_get {α : Type} {n i : Nat} {f : Nat → α} (h : i < n) : (rg n f)[i]? = some (f i) := by simp [rg, h]
theorem rg_at {α : Type} {n i : Nat} {f : Nat → α} (h : i < n) : atI (rg n f) (i : Int) = some (f i) := by
  obtain ⟨x, e, _, e2⟩ := atI_in (xs := rg n f) (i := (i : Int)) (by omega) (by simpa using h)
  rw [e]
  simp only [Int.toNat_natCast] at e2
  rw [rg_get h] at e2
  exact e2.symm
theorem rg_map {α β : Type} {n : Nat} {f : Nat → α} {g : α → β} : (rg n f).map g = rg n fun i => g (f i) := by simp [rg, Function.comp_def]
theorem rg_congr {α : Type} {n : Nat} {f g : Nat → α} (h : ∀ i, i < n → f i = g i) : rg n f = rg n g := List.map_congr_left fun i hi => h i (List.mem_range.mp hi)
theorem qInts_rg {n : Nat} : qInts 0 n = (List.range n).map fun i => Q.int (i : Nat) := by simp [qInts]
theorem all_rg {n : Nat} {f : Nat → Bool} : (uAll (rg n fun i => .bl (f i))) = some (.bl ((List.range n).all f)) := by
  have : ∀ l : List Nat, uAll (l.map fun i => Q.bl (f i)) = some (.bl (l.all f)) := by
    intro l
    have : uB (l.map fun i => Q.bl (f i)) = some (l.map f) := by
      induction l with
      | nil => rfl
      | cons a r ih => simp [uB, ih]
    simp only [uAll, this, Option.map_some, List.all_map]
    rfl
  exact this _
/-! ### cloths, pictures, plans -/
def bq (b : Bool) : Q := .int (if b then 1 else 0)
def rw' (e : Nat) (f : Nat → Q) : Q := .tup (rg e f)
def gr (p e : Nat) (c : Nat → Nat → Q) : Q := .tup (rg p fun i => .tup (rg e (c i)))
def en (p e : Nat) (c : Nat → Nat → Bool) : Q := gr p e fun i j => bq (c i j)
def pic (p e : Nat) (w : Nat → Nat → Str) : Q := gr p e fun i j => .str (w i j)
def plan (p e : Nat) (A B : Nat → Str) : Q := .tup [.tup (rg e fun j => .str (A j)), .tup (rg p fun i => .str (B i))]
@[simp] theorem bq_one {b : Bool} : uEq (bq b) (.int 1) = some (.bl b) := by cases b <;> simp [bq]
@[simp] theorem bq_zero {b : Bool} : uEq (bq b) (.int 0) = some (.bl (!b)) := by cases b <;> simp [bq]
/-! ### the program's small checks -/
@[simp] theorem u_Le {i j : Int} : uI2 gLe (.int i) (.int j) = some (.bl (decide (i ≤ j))) := rfl
@[simp] theorem u_Lt {i j : Int} : uI2 gLt (.int i) (.int j) = some (.bl (decide (i < j))) := rfl
@[simp] theorem u_Sub {i j : Int} : uI2 gSub (.int i) (.int j) = some (.int (i - j)) := rfl
theorem is_integer_ok {q : Q} {t : String} (h : uKind q = some t) (s : Sq) : p_is_integer [q] s = okQ (.bl (isI q)) s := by
  unfold p_is_integer r_is_integer
  simp [z_mOf, tyIs_int h, outQ]
theorem is_number_ok {i lo hi : Int} (s : Sq) : p_is_number [.int i, .int lo, .int hi] s = okQ (.bl (decide (lo ≤ i ∧ i ≤ hi))) s := by
  unfold p_is_number r_is_number
  simp [z_mOf, is_integer_ok (q := .int i) rfl, isI]
  by_cases h : lo ≤ i <;> simp [h, outQ]
theorem is_number_no {q : Q} {t : String} {lo hi : Int} (h : uKind q = some t) (h2 : isI q = false) (s : Sq) : p_is_number [q, .int lo, .int hi] s = okQ (.bl false) s := by
  unfold p_is_number r_is_number
  simp [z_mOf, is_integer_ok h, h2, outQ]
theorem is_row_ok {xs : List Q} {n : Int} (s : Sq) : p_is_row [.tup xs, .int n] s = okQ (.bl ((xs.length : Int) == n)) s := by
  unfold p_is_row r_is_row
  simp [z_mOf, outQ]
theorem is_row_no {q : Q} {t : String} {n : Int} (h : uKind q = some t) (h2 : isTup q = false) (s : Sq) : p_is_row [q, .int n] s = okQ (.bl false) s := by
  unfold p_is_row r_is_row
  simp [z_mOf, isi_tup h, h2, outQ]
theorem comp_rg {g : GQ} {f : EQ Q} {ρ : RhoQ} {n : Nat} {e : Nat → Q} (z : Nat → Q) {s : Sq} (h : ∀ i, i < n → ∃ ρ2, g (e i) ρ = some ρ2 ∧ ∀ s, f ρ2 s = okQ (z i) s) : qCompGo g qTrue f ρ (rg n e) s = okQ (rg n z) s :=
  comp_all' e z (fun d hd => h d (List.mem_range.mp hd)) s
theorem comp_rgf {g : GQ} {t : EQ Bool} {f : EQ Q} {ρ : RhoQ} {n : Nat} {e : Nat → Q} (b : Nat → Bool) (z : Nat → Q) {s : Sq} (h : ∀ i, i < n → ∃ ρ2, g (e i) ρ = some ρ2 ∧ ∀ s, t ρ2 s = okQ (b i) s ∧ (b i = true → f ρ2 s = okQ (z i) s)) :
    qCompGo g t f ρ (rg n e) s = okQ (((List.range n).filter b).map z) s :=
  comp_map' e b z (fun d hd => h d (List.mem_range.mp hd)) s
theorem int_rg {n : Nat} : qInts 0 n = rg n fun i => Q.int (i : Nat) := qInts_rg
@[simp] theorem out_def {r : Rfq} : outQ r = (match r with
  | some (.ret d, s) => okQ d s
  | some (.nx _, s) => okQ .non s
  | some (.exn e _, s) => some (.error e, s)
  | _ => none) := rfl
@[simp] theorem at10 {α : Type} {a : α} : atI [a] 0 = some a := rfl
@[simp] theorem at20 {α : Type} {a b : α} : atI [a, b] 0 = some a := rfl
@[simp] theorem at21 {α : Type} {a b : α} : atI [a, b] 1 = some b := rfl
@[simp] theorem at30 {α : Type} {a b c : α} : atI [a, b, c] 0 = some a := rfl
@[simp] theorem at31 {α : Type} {a b c : α} : atI [a, b, c] 1 = some b := rfl
@[simp] theorem at32 {α : Type} {a b c : α} : atI [a, b, c] 2 = some c := rfl
end Dn

set_option Elab.async false
set_option linter.all false
set_option maxRecDepth 100000
set_option maxHeartbeats 4000000
set_option autoImplicit false
namespace Dn
open PySem L2 Sh
def r1v (d : Q) (s : Sq) : Rq (List Q) := match d with
  | .int j => if j < 2 ^ 62 ∧ -(2 ^ 62) ≤ j then okQ (qInts 0 j.toNat) s else none
  | _ => none
theorem z_R1v {f : EQ Q} {ρ : RhoQ} {s : Sq} : jR1 (qCons f qNil) ρ s = bindQ (f ρ s) fun d s1 => r1v d s1 := by
  rw [z_iR1]
  simp only [z_Cons, z_Nil]
  unfold okQ
  generalize f ρ s = r
  match r with
  | none => rfl
  | some (.error x, _) => rfl
  | some (.ok d, s1) =>
    simp only [bindQ_ok]
    cases d <;> rfl
theorem r1v_int {k : Int} {s : Sq} (h : 0 ≤ k ∧ k ≤ 1000) : r1v (.int k) s = okQ (rg k.toNat fun i => .int (i : Nat)) s := by
  unfold r1v
  simp only
  rw [if_pos (by omega), int_rg]
theorem r1v_nat {n : Nat} {s : Sq} (h : n ≤ 1000) : r1v (.int (n : Nat)) s = okQ (rg n fun i => .int (i : Nat)) s := by
  have := r1v_int (k := (n : Int)) (s := s) (by omega)
  rwa [Int.toNat_natCast] at this
/-- range, shut: the kernel must not look into its bounds -/
theorem r1x : ∃ (J : EQ (List Q) → EQ (List Q)) (R : Q → Sq → Rq (List Q)), jR1 = J ∧ (∀ f ρ s, J (qCons f qNil) ρ s = bindQ (f ρ s) R) ∧ (∀ (n : Nat) (s : Sq), n ≤ 1000 → R (.int n) s = okQ (rg n fun i => .int (i : Nat)) s) ∧ (∀ (k : Int) (s : Sq), 0 ≤ k ∧ k ≤ 1000 → R (.int k) s = okQ (rg k.toNat fun i => .int (i : Nat)) s) :=
  ⟨jR1, r1v, rfl, fun _ _ _ => z_R1v, fun _ _ h => r1v_nat h, fun _ _ h => r1v_int h⟩
@[simp] theorem st_pe : ¬ (Str.ofString "pick" = Str.ofString "end") := by decide +kernel
/-- a def, shut -/
theorem shut {α : Type} (a : α) (P : α → Prop) (h : P a) : ∃ b, a = b ∧ P b := ⟨a, rfl, h⟩
theorem rg_succ {α : Type} {n : Nat} {f : Nat → α} : rg n f ++ [f n] = rg (n + 1) f := by simp [rg, List.range_succ]
@[simp] theorem one_sub_bq {b : Bool} : uI2 gSub (.int 1) (bq b) = some (bq (!b)) := by cases b <;> rfl
def shot (p e : Nat) (c : Nat → Nat → Bool) (A B : Nat → Str) : Q := .tup (rg p fun i => .tup (rg e fun j => .str (if c i j then A j else B i)).reverse)
/-! ### threads, and the crossings that show them -/
def cr (x : Nat × Nat) : Q := .tup [.int (x.1 : Nat), .int (x.2 : Nat)]
def thrs (p e : Nat) : List (Bool × Nat) := ((List.range e).map fun j => (true, j)) ++ ((List.range p).map fun i => (false, i))
def shows (p e : Nat) (c : Nat → Nat → Bool) (t : Bool × Nat) : List (Nat × Nat) :=
  if t.1 then ((List.range p).filter fun i => c i t.2).map fun i => (i, t.2) else ((List.range e).filter fun j => !c t.2 j).map fun j => (t.2, j)
end Dn

set_option Elab.async false
set_option linter.all false
set_option maxRecDepth 100000
set_option maxHeartbeats 4000000
set_option autoImplicit false
namespace Dn
open PySem L2 Sh
theorem mulAR {i j : Int} {S : Store} (h : -(2 ^ 64) < j ∧ j < 2 ^ 64) : pMulA (.int i) (.int j) S = okR (.int (i * j)) S := by simp only [pMulA, gMul]; rw [if_pos (.inr h)]
theorem mulAL {i j : Int} {S : Store} (h : -(2 ^ 64) < i ∧ i < 2 ^ 64) : pMulA (.int i) (.int j) S = okR (.int (i * j)) S := by simp only [pMulA, gMul]; rw [if_pos (.inl h)]
theorem we_slf {ρ : Rho} {S : Store} {i : Nat} {ds : List D} {k : Int} {Q : D → Store → Prop} (h : ρ[i]? = some (some (.fl ds))) (q : Q (.ref S.length) (S ++ [.lst (cutD ds none (some k))])) : We (fSl (fVar i) oNone (oSome (fC (.int k)))) ρ S Q :=
  ⟨_, _, by simp [fSl, fVar, h, oNone, oSome, fC], q⟩
theorem cut_take {α : Type} (xs : List α) (k : Nat) : cutD xs none (some (k : Int)) = xs.take k := by
  unfold cutD
  rw [HT.sIx_none, HT.sIx_nat]
  simp only [List.drop_zero, Nat.sub_zero]
  by_cases h : k ≤ xs.length
  · rw [Nat.min_eq_left h]
  · rw [Nat.min_eq_right (by omega), List.take_length, List.take_of_length_le (by omega)]
/-- draws.append(x) -/
theorem apd_ok {ρ : Rho} {T : Store} {l i : Nat} {ns : List Int} {x : Int} {g : EF D} {Q : Fl → Store → Prop} (h : ρ[i]? = some (some (.ref l))) (e : T[l]? = some (.lst (ns.map D.int))) (hl : ns.length < 16777216) (hg : Ev g ρ T (.int x))
    (q : ∀ T', T <+: T' → Q (.nx ρ) (T'.set l (.lst ((ns ++ [x]).map D.int)))) : Wp (sExpr (fApd (fVar i) g)) ρ T Q := by
  refine wpe_expr (we_apd (we_var h ⟨rfl, ⟨_, e⟩, we_ev hg fun T' r => ⟨_, pre_get r e, by simpa using hl, ?_⟩⟩))
  have := q T' r
  rwa [List.map_append] at this
theorem draws_ok (cells : List Int) (S : Store) : ∃ (ld : Nat) (ns : List Int) (T : Store), m__law_draws [.fl (cells.map D.int)] S = some (.ok (.ref ld), T) ∧ S <+: T ∧ T[ld]? = some (.lst (ns.map D.int)) := by
  suffices key : ∃ r T, m__law_draws [.fl (cells.map D.int)] S = some (r, T) ∧ ∃ (ld : Nat) (ns : List Int), r = .ok (.ref ld) ∧ S <+: T ∧ T[ld]? = some (.lst (ns.map D.int)) by
    obtain ⟨r, T, e, ld, ns, rfl, pr⟩ := key
    exact ⟨ld, ns, T, e, pr⟩
  refine mOf_wp rfl ?_
  unfold d__law_draws
  refine wp_seq (wp_setL (ev_lst ev_nil (by decide)) fun T1 l1 r1 s1 e1 => ?_)
  refine wp_seq (wpe_for (we_iE (we_slf rfl ?_)))
  have c1 : cutD (cells.map D.int) none (some 63) = (cells.take 63).map D.int := by rw [show (63 : Int) = ((63 : Nat) : Int) from rfl, cut_take, List.map_take]
  rw [c1]
  generalize hl2 : T1.length = l2
  have e2 : (T1 ++ [SO.lst ((cells.take 63).map D.int)])[l2]? = some (.lst ((cells.take 63).map D.int)) := by subst hl2; simp
  have l12 : l1 ≠ l2 := by have := (List.getElem?_eq_some_iff.mp e1).1; omega
  have r2 : S <+: T1 ++ [SO.lst ((cells.take 63).map D.int)] := r1.trans (pre_new _ _)
  replace e1 := pre_get (pre_new T1 (SO.lst ((cells.take 63).map D.int))) e1
  generalize T1 ++ [SO.lst ((cells.take 63).map D.int)] = U at e1 e2 r2
  generalize hc : (cells.take 63).map D.int = cs at e2
  have lc : cs.length ≤ 63 := by subst hc; simp; omega
  have allint : ∀ d ∈ cs, ∃ i : Int, d = .int i := fun d hd => by subst hc; obtain ⟨i, _, rfl⟩ := List.mem_map.mp hd; exact ⟨i, rfl⟩
  refine ⟨(cs, [(l2, cs)]), by simp only [walkOf, e2], fun done ρ T => ∃ (a b c d : Option D) (ns : List Int), ρ = [some (.fl (cells.map D.int)), some (.ref l1), a, b, c, d] ∧ S <+: T ∧ T[l2]? = some (.lst cs) ∧ T[l1]? = some (.lst (ns.map D.int)) ∧ ns.length ≤ 60 * done.length, ?_, ?_, ?_, ?_⟩
  · rintro n ρ T ⟨_, _, _, _, _, _, _, z, _⟩ q hq
    cases List.mem_singleton.mp hq
    exact z
  · exact ⟨none, none, none, none, [], rfl, r2, e2, e1, by simp⟩
  · rintro done d rest ρ T ed ⟨a, b, c, d', ns, rfl, rT, k2, k1, hl⟩
    have hdone : done.length < 63 := by
      have := congrArg List.length ed
      simp at this
      omega
    obtain ⟨i, rfl⟩ := allint d (mem_split ed)
    refine ⟨_, T, rfl, wp_seq (wp_set (ev_call (ev_cons (ev_var rfl) ev_nil) fun T r => rfl) fun T3 r3 => ?_)⟩
    generalize (if i < 0 then -i else i) = x
    have k1' := pre_get r3 k1
    have k2' := pre_get r3 k2
    have rT' := rT.trans r3
    refine wp_if (b := decide ((10 : Int) ^ (18 : Int).toNat ≤ x)) (ev_T (ev_bin (ev_var rfl) (ev_bin ev_C ev_C fun T r => by simp only [pI2, gPow]; rw [if_pos (by decide)]) fun T r => rfl)) (fun _ T4 r4 => ?_) (fun _ T4 r4 => ?_)
    · refine wp_for (ev_iR1 (ev_cons ev_C ev_nil) (by decide)) (fun dn ρ T => ∃ (y : Int) (c : Option D) (ns2 : List Int), ρ = [some (.fl (cells.map D.int)), some (.ref l1), some (.int i), some (.int y), c, d'] ∧ S <+: T ∧ T[l2]? = some (.lst cs) ∧ T[l1]? = some (.lst (ns2.map D.int)) ∧ ns2.length ≤ ns.length + dn.length)
        (fun _ _ _ _ q hq => by cases hq) (fun T r => ⟨x, c, ns, rfl, (rT'.trans r4).trans r, pre_get (r4.trans r) k2', pre_get (r4.trans r) k1', by simp⟩) ?_ ?_
      · rintro dn d2 rest2 ρ T5 ed2 ⟨y, c2, ns2, rfl, q1, q2, q3, q4⟩
        have hdn : dn.length < 60 := by
          have := congrArg List.length ed2
          rw [dInts_length] at this
          simp at this
          omega
        refine ⟨_, T5, rfl, wp_if (b := decide (0 < y)) (ev_T (ev_bin (ev_var rfl) ev_C fun T r => rfl)) (fun _ T6 r6 => ?_) (fun _ T6 r6 => wp_nil ⟨y, _, ns2, rfl, q1.trans r6, pre_get r6 q2, pre_get r6 q3, by simp; omega⟩)⟩
        refine wp_seq (apd_ok rfl (pre_get r6 q3) (by omega) (ev_bin (ev_call (ev_cons (ev_var rfl) ev_nil) fun T r => rfl) ev_C fun T r => modI (by decide)) fun T7 r7 => ?_)
        have hlt := (List.getElem?_eq_some_iff.mp (pre_get (r6.trans r7) q3)).1
        refine wp_set (ev_bin (ev_var rfl) ev_C fun T r => divI (by decide)) fun T8 r8 => ?_
        refine ⟨_, _, ns2 ++ [y.fmod 1009], rfl, (pre_set ((q1.trans r6).trans r7) s1).trans r8, pre_get r8 (by rw [List.getElem?_set_ne l12]; exact pre_get (r6.trans r7) q2), pre_get r8 (by rw [List.getElem?_set_self hlt]), by simp; omega⟩
      · rintro ρ T5 ⟨y, c2, ns2, rfl, q1, q2, q3, q4⟩
        rw [dInts_length] at q4
        have : (60 : Int).toNat = 60 := rfl
        exact ⟨_, _, _, _, ns2, rfl, q1, q2, q3, by simp; omega⟩
    · refine wp_seq (wp_set (ev_bin (ev_call (ev_cons (ev_bin (ev_bin (ev_var rfl) ev_C fun T _ => mulAR (by decide)) ev_C fun T _ => rfl) ev_nil) fun T _ => rfl) ev_C fun T _ => modI (by decide)) fun T5 r5 => ?_)
      have r45 := r4.trans r5
      refine wp_for (ev_iR1 (ev_cons ev_C ev_nil) (by decide)) (fun dn ρ T => ∃ (y : Int) (c : Option D) (ns2 : List Int), ρ = [some (.fl (cells.map D.int)), some (.ref l1), some (.int i), some (.int x), c, some (.int y)] ∧ S <+: T ∧ T[l2]? = some (.lst cs) ∧ T[l1]? = some (.lst (ns2.map D.int)) ∧ ns2.length ≤ ns.length + dn.length)
        (fun _ _ _ _ q hq => by cases hq) (fun T r => ⟨_, c, ns, rfl, (rT'.trans r45).trans r, pre_get (r45.trans r) k2', pre_get (r45.trans r) k1', by simp⟩) ?_ ?_
      · rintro dn d2 rest2 ρ T6 ed2 ⟨y, c2, ns2, rfl, q1, q2, q3, q4⟩
        obtain ⟨k, hk, rfl⟩ := mem_dInts (mem_split ed2)
        have hdn : dn.length < 12 := by
          have := congrArg List.length ed2
          rw [dInts_length] at this
          simp at this
          omega
        refine ⟨_, T6, rfl, wp_seq (wp_set (ev_bin (ev_call (ev_cons (ev_bin (ev_bin (ev_bin (ev_var rfl) ev_C fun T _ => mulAR (by decide)) (ev_bin ev_C (ev_var rfl) fun T _ => mulAL (by decide)) fun T _ => rfl) ev_C fun T _ => rfl) ev_nil) fun T _ => rfl) ev_C fun T _ => modI (by decide)) fun T7 r7 => ?_)⟩
        refine apd_ok rfl (pre_get r7 q3) (by omega) (ev_bin (ev_var rfl) ev_C fun T r => divI (by decide)) fun T8 r8 => ?_
        have hlt := (List.getElem?_eq_some_iff.mp (pre_get (r7.trans r8) q3)).1
        exact ⟨_, _, ns2 ++ [_], rfl, pre_set ((q1.trans r7).trans r8) s1, by rw [List.getElem?_set_ne l12]; exact pre_get (r7.trans r8) q2, by rw [List.getElem?_set_self hlt], by simp; omega⟩
      · rintro ρ T6 ⟨y, c2, ns2, rfl, q1, q2, q3, q4⟩
        rw [dInts_length] at q4
        have : (12 : Int).toNat = 12 := rfl
        exact ⟨_, _, _, _, ns2, rfl, q1, q2, q3, by simp; omega⟩
  · rintro ρ T ⟨a, b, c, d, ns, rfl, rT, k2, k1, hl⟩
    exact wp_ret (ev_var rfl) fun T2 r => ⟨l1, ns, rfl, rT.trans r, pre_get r k1⟩
end Dn

set_option Elab.async false
set_option linter.all false
set_option maxRecDepth 100000
set_option maxHeartbeats 4000000
set_option autoImplicit false
namespace Dn
open PySem L2 Sh
/-- a whole law: its draws, and what comes behind -/
theorem law_top {N : List Str} {r : SF} {q : SFq} {ow : List Nat} (hN : 3 ≤ N.length ∧ N.length ≤ 1000) (hr : KS [] [] ow r q) (h : ∀ ns : List Int, WF (q ([some .scr, some (.drs ns), some .atr] ++ List.replicate (N.length - 3) none) 0) fun fl _ => fl = .ret (.bl true)) (cells : List Int) :
    ∃ S1, mOf N 1 (sSeq (sAsg (fApp 1 m__law_draws (fCons (fVar 0) fNil)) (gN 1)) (sSeq (sAsg (fAl (fLst (fCons (fC (.int 0)) fNil))) (gN 2)) r)) [.fl (cells.map D.int)] [] = some (.ok (.bl true), S1) := by
  obtain ⟨ld, ns, T, e1, _, k1⟩ := draws_ok cells []
  obtain ⟨fl, s', hq, hfl⟩ := h ns
  subst hfl
  have lld := (List.getElem?_eq_some_iff.mp k1).1
  have G : Gd ⟨T.length, ld, ns⟩ (T ++ [.lst [.int 0]]) (fun l => l = T.length) 0 := ⟨fun l h => by subst h; simp, rfl, fun z => by simp at z; omega, by simp, by rw [List.getElem?_append_left lld]; exact k1⟩
  obtain ⟨m, hm⟩ : ∃ m, N.length = m + 3 := ⟨N.length - 3, by omega⟩
  have E : Env ⟨T.length, ld, ns⟩ (T ++ [.lst [.int 0]]) (fun l => l = T.length) (fun l => l = T.length) [] ([some .scr, some (.drs ns), some .atr] ++ List.replicate (N.length - 3) none) ([some (.fl (cells.map D.int)), some (.ref ld), some (.ref T.length)] ++ List.replicate (N.length - 3) none) := {
    len := by simp
    sm := by simp; omega
    val := fun i q _ hi => by
      match i, hi with
      | 0, hi => simp at hi; subst hi; exact ⟨_, rfl, .scr⟩
      | 1, hi => simp at hi; subst hi; exact ⟨_, rfl, .drs⟩
      | 2, hi => simp at hi; subst hi; exact ⟨_, rfl, .atr⟩
      | i + 3, hi =>
        rw [List.getElem?_append_right (by simp), List.getElem?_replicate] at hi
        split at hi <;> cases hi
    own := fun i q _ h => by cases h
    dep := fun i q h => by cases h
    cl := fun i h => by cases h
    dis := fun i j q q' l _ _ h => by cases h
    sub := fun _ h => h
    ola := rfl }
  have hk := hr _ _ _ _ _ _ _ G E
  rw [hq] at hk
  obtain ⟨U, d, O', e2, _, _, rq⟩ := hk
  cases rq
  refine ⟨U, ?_⟩
  unfold mOf
  rw [if_pos (show [D.fl (cells.map D.int)].length = 1 from rfl)]
  have st : startR N.length [D.fl (cells.map D.int)] = some (.fl (cells.map D.int)) :: none :: none :: List.replicate (N.length - 3) none := by
    unfold startR
    rw [hm]
    rfl
  rw [st]
  have a1 : sAsg (fApp 1 m__law_draws (fCons (fVar 0) fNil)) (gN 1) (some (.fl (cells.map D.int)) :: none :: none :: List.replicate (N.length - 3) none) [] = some (.nx (some (.fl (cells.map D.int)) :: some (.ref ld) :: none :: List.replicate (N.length - 3) none), T) := by
    simp [sAsg, fApp, fCons, fVar, fNil, e1, gN]
  have a2 : sAsg (fAl (fLst (fCons (fC (.int 0)) fNil))) (gN 2) (some (.fl (cells.map D.int)) :: some (.ref ld) :: none :: List.replicate (N.length - 3) none) T = some (.nx (some (.fl (cells.map D.int)) :: some (.ref ld) :: some (.ref T.length) :: List.replicate (N.length - 3) none), T ++ [.lst [.int 0]]) := by
    simp [sAsg, fAl, fLst, fCons, fC, fNil, gN]
  simp only [sSeq, a1, a2]
  have e3 : r (some (.fl (cells.map D.int)) :: some (.ref ld) :: some (.ref T.length) :: List.replicate (N.length - 3) none) (T ++ [.lst [.int 0]]) = some (.ret (.bl true), U) := e2
  rw [e3]
  rfl
end Dn

set_option Elab.async false
set_option linter.all false
set_option maxRecDepth 100000
set_option maxHeartbeats 4000000
set_option autoImplicit false
namespace Dn
open PySem L2 Sh
theorem at_get {α : Type} {xs : List α} {k : Nat} {x : α} (h : xs[k]? = some x) : atI xs (k : Int) = some x := by
  have hk := (List.getElem?_eq_some_iff.mp h).1
  obtain ⟨y, e, _, e2⟩ := atI_in (xs := xs) (i := (k : Int)) (by omega) (by omega)
  rw [e]
  simp only [Int.toNat_natCast] at e2
  rw [h] at e2
  exact e2.symm
@[simp] theorem atc0 {α : Type} {x : α} {xs : List α} : atI (x :: xs) 0 = some x := at_get (k := 0) rfl
theorem cut_drop {α : Type} (xs : List α) (k : Nat) : cutD xs (some (k : Int)) none = xs.drop k := by
  unfold cutD
  rw [HT.sIx_none, HT.sIx_nat]
  by_cases h : k ≤ xs.length
  · rw [Nat.min_eq_left h, List.take_of_length_le (by simp)]
  · rw [Nat.min_eq_right (by omega)]
    have hd : xs.drop k = [] := List.drop_eq_nil_of_le (by omega)
    simp [hd]
def oq : Option Str → Q
  | some x => .str x
  | none => .non
def clashOf (w : Nat → Nat → Str) : List (Nat × Nat) → Option ((Nat × Nat) × (Nat × Nat))
  | [] => none
  | x :: r => ((x :: r).filter fun y => !(w y.1 y.2 == w x.1 x.2)).head?.map fun y => (x, y)
def gof (S : Bool × Nat → List (Nat × Nat)) (w : Nat → Nat → Str) : List (Bool × Nat) → List (Option Str) → Sum ((Nat × Nat) × (Nat × Nat)) (List (Option Str))
  | [], acc => .inr acc
  | t :: ts, acc => match clashOf w (S t) with
    | some z => .inl z
    | none => gof S w ts (acc ++ [(S t).head?.map fun x => w x.1 x.2])
def foundV (e : Nat) : Sum ((Nat × Nat) × (Nat × Nat)) (List (Option Str)) → Q
  | .inl z => .tup [.str "clash", cr z.1, cr z.2]
  | .inr acc => .tup [.str "plan", .tup [.tup ((acc.map oq).take e), .tup ((acc.map oq).drop e)]]
def found (p e : Nat) (c : Nat → Nat → Bool) (w : Nat → Nat → Str) : Q := foundV e (gof (shows p e c) w (thrs p e) [])
end Dn

set_option Elab.async false
set_option linter.all false
set_option maxRecDepth 100000
set_option maxHeartbeats 4000000
set_option autoImplicit false
namespace Dn
open PySem L2 Sh
/-! ### values that are equal only to themselves -/
end Dn

set_option Elab.async false
set_option linter.all false
set_option maxRecDepth 100000
set_option maxHeartbeats 4000000
set_option autoImplicit false
namespace Dn
open PySem L2 Sh
def Col (x : Str) : Prop := okStr x = true ∧ 1 ≤ x.length ∧ x.length ≤ 12
@[simp] theorem st_pc : ¬ (Str.ofString "plan" = Str.ofString "clash") := by decide +kernel
@[simp] theorem st_cp : ¬ (Str.ofString "clash" = Str.ofString "plan") := by decide +kernel
@[simp] theorem st_op : ¬ (Str.ofString "colour" = Str.ofString "plan") := by decide +kernel
@[simp] theorem st_oc : ¬ (Str.ofString "colour" = Str.ofString "clash") := by decide +kernel
theorem nice_nat {k : Nat} {i : Nat} (h : i ≤ 1000) : Nice k 13 (.int (i : Nat)) := nice_int ⟨by omega, by omega⟩
end Dn

set_option Elab.async false
set_option linter.all false
set_option maxRecDepth 100000
set_option maxHeartbeats 4000000
set_option autoImplicit false
namespace Dn
open PySem L2 Sh
/-! ### crossings, right and wrong -/
theorem kb_ii : kitB "int" "int" = some true := by decide +kernel
theorem kb_ib : kitB "int" "bool" = some false := by decide +kernel
theorem kb_bi : kitB "bool" "int" = some true := by decide +kernel
theorem kb_bb : kitB "bool" "bool" = some true := by decide +kernel
@[simp] theorem isi_ii {i : Int} : uIsi "int" (.int i) = some (.bl true) := by simp only [uIsi, uKind, Option.bind_some, kb_ii]; rfl
@[simp] theorem isi_ib {i : Int} : uIsi "bool" (.int i) = some (.bl false) := by simp only [uIsi, uKind, Option.bind_some, kb_ib]; rfl
@[simp] theorem isi_bi {i : Bool} : uIsi "int" (.bl i) = some (.bl true) := by simp only [uIsi, uKind, Option.bind_some, kb_bi]; rfl
@[simp] theorem isi_bb {i : Bool} : uIsi "bool" (.bl i) = some (.bl true) := by simp only [uIsi, uKind, Option.bind_some, kb_bb]; rfl
@[simp] theorem isi_nt : uIsi "tuple" .non = some (.bl false) := by simp only [uIsi, uKind, Option.bind_some, kb_non]; rfl
variable {p e : Nat} {c : Nat → Nat → Bool} {w : Nat → Nat → Str}
def at' (c : Nat → Nat → Bool) (x : Nat × Nat) : Bool × Nat := if c x.1 x.2 then (true, x.2) else (false, x.1)
/-! ### what accept_plan_of says, and the law's reason -/
def rz (r : Option Str) (s : Sq) : Rq Q := match r with
  | none => okQ .non s
  | some x => some (.error ("PaperError", [("reason", .str x)]), s)
def Acc (p e : Nat) (c : Nat → Nat → Bool) (w : Nat → Nat → Str) (told : Q) (r : Option Str) : Prop :=
  (∀ s, p_accept_plan_of [en p e c, pic p e w, told] s = rz r s) ∧ ∀ s, p__law_reason [en p e c, pic p e w, told] s = okQ (oq r) s
end Dn

set_option Elab.async false
set_option linter.all false
set_option maxRecDepth 100000
set_option maxHeartbeats 4000000
set_option autoImplicit false
namespace Dn
open PySem L2 Sh
variable {p e : Nat} {c : Nat → Nat → Bool} {w : Nat → Nat → Str}
end Dn

set_option Elab.async false
set_option linter.all false
set_option maxRecDepth 100000
set_option maxHeartbeats 4000000
set_option autoImplicit false
namespace Dn
open PySem L2 Sh
variable {p e : Nat} {c : Nat → Nat → Bool} {w : Nat → Nat → Str}
noncomputable def call (k : Int) (cl v t : Q) (s : Sq) : Rq Q := if k = 0 then p_picture [cl, v] s else if k = 1 then p_picture_behind [cl, v] s else if k = 2 then p_plan_of [cl, v] s else p_accept_plan_of [cl, v, t] s
@[simp] theorem st_PC : ¬ (Str.ofString "PaperError" = Str.ofString "ClothError") := by decide +kernel
@[simp] theorem st_PA : ¬ (Str.ofString "PaperError" = Str.ofString "ArgumentError") := by decide +kernel
@[simp] theorem st_AC : ¬ (Str.ofString "ArgumentError" = Str.ofString "ClothError") := by decide +kernel
@[simp] theorem st_AP : ¬ (Str.ofString "ArgumentError" = Str.ofString "PaperError") := by decide +kernel
@[simp] theorem st_CA : ¬ (Str.ofString "ClothError" = Str.ofString "ArgumentError") := by decide +kernel
@[simp] theorem st_CP : ¬ (Str.ofString "ClothError" = Str.ofString "PaperError") := by decide +kernel
@[simp] theorem bq_PC : (Str.ofString "PaperError" == Str.ofString "ClothError") = false := by decide +kernel
@[simp] theorem bq_PA : (Str.ofString "PaperError" == Str.ofString "ArgumentError") = false := by decide +kernel
@[simp] theorem bq_AC : (Str.ofString "ArgumentError" == Str.ofString "ClothError") = false := by decide +kernel
@[simp] theorem bq_AP : (Str.ofString "ArgumentError" == Str.ofString "PaperError") = false := by decide +kernel
@[simp] theorem bq_CA : (Str.ofString "ClothError" == Str.ofString "ArgumentError") = false := by decide +kernel
@[simp] theorem bq_CP : (Str.ofString "ClothError" == Str.ofString "PaperError") = false := by decide +kernel
end Dn

set_option Elab.async false
set_option linter.all false
set_option maxRecDepth 100000
set_option maxHeartbeats 4000000
set_option autoImplicit false
namespace Dn
open PySem L2 Sh
/-! ### comprehensions of drawn values -/
/-! ### what is drawn -/
def TakeP (ns : List Int) (M : QM) : Prop := ∀ (many : Int) (s : Sq), 0 < many → ∃ (k : Int) (s' : Sq), M [.drs ns, .atr, .int many] s = okQ (.int k) s' ∧ 0 ≤ k ∧ k < many
theorem takeP (ns : List Int) : TakeP ns p__law_take := fun many s h => take_ok ns many h s
theorem one_ok {ns : List Int} {xs : List Q} (hx : xs ≠ []) (hl : xs.length ≤ 1000) (s : Sq) : ∃ x s', p__law_one [.lst xs, .drs ns, .atr] s = okQ x s' ∧ x ∈ xs := by
  obtain ⟨M, eM, hM⟩ := shut p__law_take (TakeP ns) (takeP ns)
  unfold p__law_one r__law_one
  rw [eM]
  have hpos : 0 < xs.length := List.length_pos_iff.mpr hx
  obtain ⟨k, s', e1, h1, h2⟩ := hM (xs.length : Nat) s (by omega)
  obtain ⟨x, e2, m2, _⟩ := atI_in (xs := xs) (i := k) h1 h2
  refine ⟨x, s', ?_, m2⟩
  simp -implicitDefEqProofs [z_mOf, e1, e2]
end Dn

set_option Elab.async false
set_option linter.all false
set_option maxRecDepth 100000
set_option maxHeartbeats 4000000
set_option autoImplicit false
namespace Dn
open PySem L2 Sh
theorem wf_setv {f : EQ Q} {i : Nat} {ρ : RhoQ} {s s1 : Sq} {v : Q} {P : FlQ → Sq → Prop} (h : f ρ s = okQ v s1) (q : P (.nx (ρ.set i (some v))) s1) : WF (qSet f i ρ s) P := ⟨_, _, by rw [z_Set, h]; rfl, q⟩
theorem wf_ifF {t : EQ Bool} {f : SFq} {ρ : RhoQ} {s s1 : Sq} {P : FlQ → Sq → Prop} (h : t ρ s = okQ false s1) (q : P (.nx ρ) s1) : WF (qIfS t f qNilS ρ s) P := ⟨_, _, by rw [z_IfS, h]; rfl, q⟩
theorem wf_ifT {t : EQ Bool} {f g : SFq} {ρ : RhoQ} {s s1 : Sq} {P : FlQ → Sq → Prop} (h : t ρ s = okQ true s1) (q : WF (f ρ s1) P) : WF (qIfS t f g ρ s) P := by
  obtain ⟨fl, s', e, h2⟩ := q
  exact ⟨fl, s', by rw [z_IfS, h]; exact e, h2⟩
end Dn

set_option Elab.async false
set_option linter.all false
set_option maxRecDepth 100000
set_option maxHeartbeats 4000000
set_option autoImplicit false
namespace Dn
open PySem L2 Sh
def IsC (x : Q) : Prop := ∃ y, Col y ∧ x = .str y
end Dn

set_option Elab.async false
set_option linter.all false
set_option maxRecDepth 100000
set_option maxHeartbeats 4000000
set_option autoImplicit false
namespace Dn
open PySem L2 Sh
@[simp] theorem cut3a {α : Type} {a b c : α} : cutD [a, b, c] none (some 1) = [a] := rfl
@[simp] theorem cut2a {α : Type} {a b : α} : cutD [a, b] none (some 1) = [a] := rfl
@[simp] theorem cut3b {α : Type} {a b c : α} : cutD [a, b, c] (some 1) none = [b, c] := rfl
@[simp] theorem cut2b {α : Type} {a b : α} : cutD [a, b] (some 1) none = [b] := rfl
@[simp] theorem step3 {α : Type} {a b c : α} : stepS [a, b, c] none (some 0) (-1) = [c, b] := by
  have e1 : Builtin.Slice.sliceAdjust none (some 0) (-1) 3 = (2, 0) := by decide +kernel
  have e2 : Builtin.Slice.slicePlaces 2 0 (-1) = 2 := by decide +kernel
  have e3 : List.range 2 = [0, 1] := rfl
  simp [stepS, e1, e2, pickS, e3]
@[simp] theorem step2 {α : Type} {a b : α} : stepS [a, b] none (some 0) (-1) = [b] := by
  have e1 : Builtin.Slice.sliceAdjust none (some 0) (-1) 2 = (1, 0) := by decide +kernel
  have e2 : Builtin.Slice.slicePlaces 1 0 (-1) = 1 := by decide +kernel
  simp [stepS, e1, e2, pickS]
def OkR (r : Option Str) : Prop := r = none ∨ r = some "plan" ∨ r = some "clash" ∨ r = some "form"
def V' (p e : Nat) (c : Nat → Nat → Bool) (w : Nat → Nat → Str) (told : Q) : Prop := ∃ r, Acc p e c w told r ∧ OkR r
variable {p e : Nat} {c : Nat → Nat → Bool} {w : Nat → Nat → Str}
end Dn

set_option Elab.async false
set_option linter.all false
set_option maxRecDepth 100000
set_option maxHeartbeats 4000000
set_option autoImplicit false
namespace Dn
open PySem L2 Sh
/-! ### what is no cloth -/
def badC : List Q := [.non, .tup [], .tup [.tup [.int 1, .int 2]], .tup [.tup [.int 1], .tup [.int 1, .int 0]], .tup [.tup [.bl true]], .str "cloth", .int 5]
@[simp] theorem isi_st {x : Str} : uIsi "tuple" (.str x) = some (.bl false) := by simp only [uIsi, uKind, Option.bind_some, kb_str]; rfl
@[simp] theorem isi_it {x : Int} : uIsi "tuple" (.int x) = some (.bl false) := by simp only [uIsi, uKind, Option.bind_some, kb_int]; rfl
@[simp] theorem all_nil : uAll [] = some (.bl true) := rfl
@[simp] theorem all_cons {b : Bool} {xs : List Q} : uAll (.bl b :: xs) = (uAll xs).bind fun q => match q with | .bl z => some (.bl (b && z)) | _ => none := by
  unfold uAll
  cases h : uB xs <;> simp [uB, h]
variable {p e : Nat} {c : Nat → Nat → Bool} {w : Nat → Nat → Str}
/-! ### what is no plan, what is no picture -/
end Dn

set_option Elab.async false
set_option linter.all false
set_option maxRecDepth 100000
set_option maxHeartbeats 4000000
set_option autoImplicit false
namespace Dn
open PySem L2 Sh
variable {p e : Nat} {c : Nat → Nat → Bool} {w : Nat → Nat → Str}
/-- what the law's own functions and the program's answer -/
structure Fns (ns : List Int) (T P B F A R S C : QM) : Prop where
  pic : ∀ {p e : Nat} {c : Nat → Nat → Bool} {A' B' : Nat → Str}, 1 ≤ p ∧ p ≤ 24 → 1 ≤ e ∧ e ≤ 24 → ∀ s, P [en p e c, plan p e A' B'] s = okQ (pic p e fun i j => if c i j then A' j else B' i) s
  beh : ∀ {p e : Nat} {c : Nat → Nat → Bool} {A' B' : Nat → Str}, 1 ≤ p ∧ p ≤ 24 → 1 ≤ e ∧ e ≤ 24 → ∀ s, B [en p e c, plan p e A' B'] s = okQ (shot p e (fun i j => !c i j) A' B') s
  t0 : ∀ {p e : Nat} {c : Nat → Nat → Bool} {A' B' : Nat → Str}, 1 ≤ p ∧ p ≤ 24 → 1 ≤ e ∧ e ≤ 24 → (∀ i, Col (A' i)) → (∀ i, Col (B' i)) → ∀ s, T [.int 0, en p e c, plan p e A' B', .non] s = okQ (Dn.pic p e fun i j => if c i j then A' j else B' i) s
  t1 : ∀ {p e : Nat} {c : Nat → Nat → Bool} {A' B' : Nat → Str}, 1 ≤ p ∧ p ≤ 24 → 1 ≤ e ∧ e ≤ 24 → (∀ i, Col (A' i)) → (∀ i, Col (B' i)) → ∀ s, T [.int 1, en p e c, plan p e A' B', .non] s = okQ (shot p e (fun i j => !c i j) A' B') s
  t2 : ∀ {p e : Nat} {c : Nat → Nat → Bool} {w : Nat → Nat → Str}, 1 ≤ p ∧ p ≤ 24 → 1 ≤ e ∧ e ≤ 24 → (∀ i j, Col (w i j)) → ∀ s, T [.int 2, en p e c, Dn.pic p e w, .non] s = okQ (found p e c w) s
  t3 : ∀ {p e : Nat} {c : Nat → Nat → Bool} {w : Nat → Nat → Str} {t : Q} {r : Option Str}, Acc p e c w t r → ∀ s, T [.int 3, en p e c, Dn.pic p e w, t] s = okQ (match r with | none => .non | some x => .tup [.str "paper", .str x]) s
  tb : ∀ {q : Q}, q ∈ badC → ∀ k s, T [.int k, q, .non, .non] s = okQ (.tup [.str "cloth", .bl true]) s
  todd : ∀ {p e : Nat} {c : Nat → Nat → Bool} {q : Q}, 1 ≤ p ∧ p ≤ 24 → 1 ≤ e ∧ e ≤ 24 → (∀ s, p_is_plan [en p e c, q] s = okQ (.bl false) s) → ∀ k, k = 0 ∨ k = 1 → ∀ s, T [.int k, en p e c, q, .non] s = okQ (.tup [.str "argument", .str "plan"]) s
  till : ∀ {p e : Nat} {c : Nat → Nat → Bool} {q : Q}, 1 ≤ p ∧ p ≤ 24 → 1 ≤ e ∧ e ≤ 24 → (∀ s, p__is_picture [en p e c, q] s = okQ (.bl false) s) → ∀ k, k = 2 ∨ k = 3 → ∀ s, T [.int k, en p e c, q, .non] s = okQ (.tup [.str "argument", .str "picture"]) s
  fnd : ∀ {p e : Nat} {c : Nat → Nat → Bool} {w : Nat → Nat → Str}, 1 ≤ p ∧ p ≤ 24 → 1 ≤ e ∧ e ≤ 24 → ∀ s, F [en p e c, Dn.pic p e w] s = okQ (found p e c w) s
  ans : ∀ {p e : Nat} {c : Nat → Nat → Bool} {w : Nat → Nat → Str}, 1 ≤ p ∧ p ≤ 24 → 1 ≤ e ∧ e ≤ 24 → (∀ i j, Col (w i j)) → ∀ s, ∃ t s', A [en p e c, Dn.pic p e w, .drs ns, .atr] s = okQ t s' ∧ V' p e c w t
  rsn : ∀ {p e : Nat} {c : Nat → Nat → Bool} {w : Nat → Nat → Str} {t : Q} {r : Option Str}, Acc p e c w t r → ∀ s, R [en p e c, Dn.pic p e w, t] s = okQ (oq r) s
  sam : ∀ {a : Q} {k wt : Nat}, Nice k wt a → wt ≤ 700000 → k ≤ 60 → ∀ s, S [a, a] s = okQ (.bl true) s
  chg : ∀ {p e : Nat} {w : Nat → Nat → Str} {cs : List Q}, 1 ≤ p ∧ p ≤ 24 → 1 ≤ e ∧ e ≤ 24 → cs ≠ [] → cs.length ≤ 1000 → (∀ x ∈ cs, IsC x) → (∀ i j, Col (w i j)) → ∀ s, ∃ w' s', C [Dn.pic p e w, .lst cs, .drs ns, .atr] s = okQ (Dn.pic p e w') s' ∧ ∀ i j, Col (w' i j)
end Dn

set_option Elab.async false
set_option linter.all false
set_option maxRecDepth 100000
set_option maxHeartbeats 4000000
set_option autoImplicit false
namespace Dn
open PySem L2 Sh
/-! ### numbers -/
@[simp] theorem c_Gt {i j : Int} : uI2 gGt (.int i) (.int j) = some (.bl (decide (j < i))) := rfl
@[simp] theorem c_Ge {i j : Int} : uI2 gGe (.int i) (.int j) = some (.bl (decide (j ≤ i))) := rfl
@[simp] theorem c_2N {g : Int → Int → Int} {i j : Int} : u2N g [.int i, .int j] = some (.int (g i j)) := rfl
theorem c_mulI {i j : Int} (h : -1000 ≤ i ∧ i ≤ 1000 ∨ -1000 ≤ j ∧ j ≤ 1000) : uMulA (.int i) (.int j) = some (.int (i * j)) := by
  simp only [uMulA, gMul]
  rw [if_pos (by rcases h with h | h; exact .inl (by constructor <;> omega); exact .inr (by constructor <;> omega))]
  rfl
/-! ### ranges, shut -/
def c_r2v (d e : Q) (s : Sq) : Rq (List Q) := match d, e with
  | .int i, .int j => if (i < 2 ^ 62 ∧ -(2 ^ 62) ≤ i) ∧ j < 2 ^ 62 ∧ -(2 ^ 62) ≤ j then okQ (qInts i (j - i).toNat) s else none
  | _, _ => none
theorem c_z2 {f g : EQ Q} {ρ : RhoQ} {s s1 s2 : Sq} {d e : Q} (h1 : f ρ s = okQ d s1) (h2 : g ρ s1 = okQ e s2) : jR2 (qCons f (qCons g qNil)) ρ s = c_r2v d e s2 := by
  rw [z_iR2]
  simp only [z_Cons, z_Nil, h1, h2, bindQ_ok]
  cases d <;> cases e <;> rfl
theorem c_r2i {i j : Int} {s : Sq} (h : -1000000 ≤ i ∧ i ≤ 1000000 ∧ -1000000 ≤ j ∧ j ≤ 1000000) : c_r2v (.int i) (.int j) s = okQ (qInts i (j - i).toNat) s := by
  unfold c_r2v
  simp only
  rw [if_pos (by omega)]
theorem c_qInts {a : Int} {n : Nat} : qInts a n = rg n fun i => Q.int (a + (i : Nat)) := rfl
theorem c_r2 : ∃ J : EQ (List Q) → EQ (List Q), jR2 = J ∧ ∀ (f g : EQ Q) (ρ : RhoQ) (s : Sq) (a n : Nat), f ρ s = okQ (.int (a : Nat)) s → g ρ s = okQ (.int ((a + n : Nat) : Int)) s → a ≤ 1000 → n ≤ 1000 → J (qCons f (qCons g qNil)) ρ s = okQ (rg n fun i => .int ((a + i : Nat) : Int)) s := by
  refine ⟨jR2, rfl, fun f g ρ s a n h1 h2 ha hn => ?_⟩
  rw [c_z2 h1 h2, c_r2i (by omega), c_qInts]
  have e : (((a + n : Nat) : Int) - (a : Int)).toNat = n := by omega
  rw [e]
  have : (rg n fun i => Q.int ((a : Int) + (i : Nat))) = rg n fun i => Q.int ((a + i : Nat) : Int) := rg_congr fun i hi => by simp
  rw [this]
@[simp] theorem c_rng1 {j : Int} : uRng [.int j] = some (.rng 0 j 1) := rfl
/-! ### lists made of ranges -/
theorem rg_split' {α : Type} {n : Nat} {f : Nat → α} {done rest : List α} {d : α} (h : done ++ d :: rest = rg n f) : d = f done.length ∧ done.length < n := by
  have hl := congrArg List.length h
  simp at hl
  have h1 : (done ++ d :: rest)[done.length]? = some d := by simp
  rw [h, rg_get (by omega)] at h1
  cases h1
  exact ⟨rfl, by omega⟩
theorem rg_take {α : Type} {n k : Nat} {f : Nat → α} (h : k ≤ n) : (rg n f).take k = rg k f := by
  unfold rg
  rw [← List.map_take, List.take_range, Nat.min_eq_left h]
theorem rg_drop {α : Type} {n k : Nat} {f : Nat → α} : (rg n f).drop k = rg (n - k) fun i => f (k + i) := by
  unfold rg
  rw [← List.map_drop]
  apply List.ext_getElem?
  intro i
  simp only [List.getElem?_map, List.getElem?_drop, List.getElem?_range']
  by_cases hi : k + i < n
  · rw [List.getElem?_range hi, List.getElem?_range (by omega)]
    simp
  · rw [List.getElem?_eq_none (by simp; omega), List.getElem?_eq_none (by simp; omega)]
    rfl
theorem rg_app {α : Type} {a b : Nat} {f g : Nat → α} : rg a f ++ rg b g = rg (a + b) fun i => if i < a then f i else g (i - a) := by
  apply List.ext_getElem?
  intro i
  by_cases h1 : i < a
  · rw [List.getElem?_append_left (by simpa using h1), rg_get h1, rg_get (by omega), if_pos h1]
  · rw [List.getElem?_append_right (by simpa using h1), rg_len]
    by_cases h2 : i - a < b
    · rw [rg_get h2, rg_get (by omega), if_neg h1]
    · rw [List.getElem?_eq_none (by simp; omega), List.getElem?_eq_none (by simp; omega)]
theorem c_cutTo {α : Type} (xs : List α) (k : Nat) (hk : k ≤ xs.length) : cutD xs none (some (k : Int)) = xs.take k := by
  have h0 : HT.sIx xs.length 0 none = 0 := rfl
  have h1 : HT.sIx xs.length xs.length (some (k : Int)) = k := by
    unfold HT.sIx
    have : ¬ (k : Int) < 0 := by omega
    simp only [this, if_false]
    omega
  unfold cutD
  rw [h0, h1]
  simp
theorem c_cutFrom {α : Type} (xs : List α) (k : Nat) : cutD xs (some (k : Int)) none = xs.drop k := cut_drop xs k
/-- rows[a:a + h] -/
theorem c_cut {α : Type} {n a h : Nat} {f : Nat → α} (hn : a + h ≤ n) : cutD (rg n f) (some (a : Int)) (some ((a + h : Nat) : Int)) = rg h fun i => f (a + i) := by
  have h0 : HT.sIx (rg n f).length 0 (some (a : Int)) = a := by
    unfold HT.sIx
    have : ¬ (a : Int) < 0 := by omega
    simp only [this, if_false, rg_len]
    omega
  have h1 : HT.sIx (rg n f).length (rg n f).length (some ((a + h : Nat) : Int)) = a + h := by
    unfold HT.sIx
    have : ¬ ((a + h : Nat) : Int) < 0 := by omega
    simp only [this, if_false, rg_len]
    omega
  unfold cutD
  rw [h0, h1, rg_drop, rg_take (by omega), Nat.add_sub_cancel_left]
/-! ### plain data -/
/-! ### the least of data, each of one kind -/
/-! ### straight pieces -/
theorem c_ret {f : EQ Q} {ρ : RhoQ} {s s1 : Sq} {v : Q} {P : FlQ → Sq → Prop} (h : f ρ s = okQ v s1) (q : P (.ret v) s1) : WF (qRet f ρ s) P := ⟨_, _, by rw [z_Ret, h]; rfl, q⟩
theorem c_thenRet {g : SFq} {ρ : RhoQ} {r : Rq Q} {P : FlQ → Sq → Prop} (h : WF (toSq ρ r fun v s1 => some (.ret v, s1)) P) : WF (toSq ρ r fun v s1 => some (.ret v, s1)) (thenF g P) := by
  obtain ⟨fl, s', e, h⟩ := h
  refine ⟨fl, s', e, ?_⟩
  match r, e with
  | some (.ok v, s1), e => cases e; exact h
  | some (.error v, s1), e => cases e; exact h
/-- try with several clauses -/
def tryMF (l : List Clq) (P : FlQ → Sq → Prop) : FlQ → Sq → Prop := fun fl s => match fl with
  | .exn e ρ' => WF (hdlQ l e ρ' s) P
  | x => P x s
@[simp] theorem tryMF_nx {l : List Clq} {P : FlQ → Sq → Prop} {ρ : RhoQ} {s : Sq} : tryMF l P (.nx ρ) s ↔ P (.nx ρ) s := Iff.rfl
@[simp] theorem tryMF_ret {l : List Clq} {P : FlQ → Sq → Prop} {v : Q} {s : Sq} : tryMF l P (.ret v) s ↔ P (.ret v) s := Iff.rfl
@[simp] theorem tryMF_exn {l : List Clq} {P : FlQ → Sq → Prop} {e : Qx} {ρ : RhoQ} {s : Sq} : tryMF l P (.exn e ρ) s ↔ WF (hdlQ l e ρ s) P := Iff.rfl
theorem wf_tryM {b : SFq} {l : List Clq} {ρ : RhoQ} {s : Sq} {P : FlQ → Sq → Prop} (h : WF (b ρ s) (tryMF l P)) : WF (qTryM b l ρ s) P := by
  obtain ⟨fl, s', e, h⟩ := h
  unfold qTryM
  rw [e]
  cases fl with
  | exn e2 ρ2 => exact h
  | _ => exact ⟨_, _, rfl, h⟩
theorem hdl_yes {mt : List (Str × Bool)} {i : Nat} {f : Qx → EQ Q} {l : List Clq} {e : Qx} {ρ : RhoQ} {s s2 : Sq} {d : Q} (h : mt.lookup e.1 = some true) (hi : i < ρ.length) (hf : f e (ρ.set i none) s = okQ d s2) : hdlQ (jhCons mt i f l) e ρ s = some (.ret d, s2) := by
  simp only [hdlQ, h, if_pos hi, hf]
theorem hdl_no {mt : List (Str × Bool)} {i : Nat} {f : Qx → EQ Q} {l : List Clq} {e : Qx} {ρ : RhoQ} {s : Sq} (h : mt.lookup e.1 = some false) : hdlQ (jhCons mt i f l) e ρ s = hdlQ l e ρ s := by
  simp only [hdlQ, h]
/-- x in a list of numbers -/
theorem c_pyInts {l : List Nat} : pyQ 60 (.lst (l.map fun i : Nat => Q.int (i : Nat))) = some (.list (l.map fun i : Nat => PyData.int (i : Nat))) := by
  have : ∀ (l : List Nat), (l.map fun i : Nat => Q.int (i : Nat)).mapM (pyQ 59) = some (l.map fun i : Nat => PyData.int (i : Nat)) := by
    intro l
    induction l with
    | nil => rfl
    | cons a r ih => rw [List.map_cons, List.mapM_cons, ih]; rfl
  show ((l.map fun i : Nat => Q.int (i : Nat)).mapM (pyQ 59)).map PyData.list = _
  rw [this]
  rfl
end Dn

set_option Elab.async false
set_option linter.all false
set_option maxRecDepth 100000
set_option maxHeartbeats 4000000
set_option autoImplicit false
namespace Dn
open PySem L2 Sh
end Dn

set_option Elab.async false
set_option linter.all false
set_option maxRecDepth 100000
set_option maxHeartbeats 4000000
set_option autoImplicit false
namespace Dn
open PySem L2 Sh
end Dn

set_option Elab.async false
set_option linter.all false
set_option maxRecDepth 100000
set_option maxHeartbeats 4000000
set_option autoImplicit false
namespace Dn
open PySem L2 Sh
/-! ### k09: the units -/
def uB (n t k i j : Nat) : Bool := decide ((j + (n - i * t % n)) % n < k)
end Dn

set_option autoImplicit false
namespace PR
variable {α : Type}
/-- the row goes on so by p -/
def Per (xs : List α) (p : Nat) : Prop := ∀ i, xs[(i + p) % xs.length]? = xs[i % xs.length]?
theorem Per.len (xs : List α) : Per xs xs.length := fun i => by rw [Nat.add_mod_right]
theorem Per.zero (xs : List α) : Per xs 0 := fun i => rfl
theorem Per.add {xs : List α} {p q : Nat} (a : Per xs p) (b : Per xs q) : Per xs (p + q) := fun i => by
  rw [← Nat.add_assoc, b (i + p), a i]
theorem Per.sub {xs : List α} {p q : Nat} (a : Per xs p) (b : Per xs (p + q)) : Per xs q := fun i => by
  have h1 := b i
  have h2 := a (i + q)
  rw [show i + (p + q) = i + q + p by omega] at h1
  rw [← h2, h1]
theorem Per.mul {xs : List α} {p : Nat} (a : Per xs p) : ∀ k, Per xs (k * p)
  | 0 => by rw [Nat.zero_mul]; exact .zero xs
  | k + 1 => by rw [Nat.succ_mul]; exact (Per.mul a k).add a
theorem Per.mod {xs : List α} {p q : Nat} (a : Per xs p) (b : Per xs q) : Per xs (q % p) := by
  have h := Nat.div_add_mod q p
  have h1 := a.mul (q / p)
  rw [Nat.mul_comm] at h1
  rw [← h] at b
  exact h1.sub b
/-- the least one, up to the length -/
structure Least (P : Nat → Prop) (n m : Nat) : Prop where
  pos : 1 ≤ m
  le : m ≤ n
  is : P m
  lt : ∀ k, 1 ≤ k → k < m → ¬ P k
end PR

set_option Elab.async false
set_option linter.all false
set_option maxRecDepth 100000
set_option maxHeartbeats 4000000
set_option autoImplicit false
namespace Dn
open PySem L2 Sh
end Dn

set_option Elab.async false
set_option linter.all false
set_option maxRecDepth 100000
set_option maxHeartbeats 4000000
set_option autoImplicit false
namespace Dn
open PySem L2 Sh
end Dn

set_option Elab.async false
set_option linter.all false
set_option maxRecDepth 100000
set_option maxHeartbeats 4000000
set_option autoImplicit false
namespace Sh
open PySem L2
/-! ### the second layer's new pieces -/
section
variable {ρ : RhoQ} {s : Sq}
@[simp] theorem z_TZ {f : EQ Q} : qTZ f ρ s = bindQ (f ρ s) fun d s1 => match (qseq d).bind tupsQ with
  | some rows => if okTZq rows = true then okQ (.tup ((List.range (rows.headD []).length).map (colQ rows))) s1 else none
  | none => none := rfl
@[simp] theorem z_ListR {f : EQ Q} : qListR f ρ s = bindQ (f ρ s) fun d s1 => match d with
  | .rng lo hi st => if rgOk lo hi st = true ∧ rgN lo hi st ≤ 16777216 then okQ (qStepI lo st (rgN lo hi st)) s1 else none
  | _ => none := rfl
@[simp] theorem z_NotT {f : EQ Q} : qNotT f ρ s = bindQ (f ρ s) fun d s1 => liftQ ((qtru d).map fun b => .bl (!b)) s1 := rfl
@[simp] theorem z_Frz {g : EQ Bool} : qFrz g ρ s = noQ (g ρ s) := rfl
/-- while, by a measure -/
theorem wf_while {t : EQ Bool} {b : SFq} {P : FlQ → Sq → Prop} (I : Nat → RhoQ → Sq → Prop)
    (h : ∀ n ρ s, I n ρ s → (∃ s1, t ρ s = okQ false s1 ∧ P (.nx ρ) s1) ∨ ∃ s1, t ρ s = okQ true s1 ∧ WF (b ρ s1) fun fl s' => match fl with
      | .nx ρ' => ∃ m, m < n ∧ I m ρ' s' | .ct ρ' => ∃ m, m < n ∧ I m ρ' s' | .bk ρ' => P (.nx ρ') s' | x => P x s') (n : Nat) (h0 : I n ρ s) : WF (qWhile t b ρ s) P := by
  have key : ∀ n ρ s, I n ρ s → ∃ k fl s', qWhileN t b k ρ s = some (fl, s') ∧ P fl s' := by
    intro n
    induction n using Nat.strongRecOn with
    | ind n ih =>
      intro ρ s hI
      rcases h n ρ s hI with ⟨s1, e, p⟩ | ⟨s1, e, fl, s2, e2, p⟩
      · exact ⟨1, _, _, by unfold qWhileN; rw [e]; rfl, p⟩
      · cases fl with
        | nx ρ2 =>
          obtain ⟨m, hm, hI2⟩ := p
          obtain ⟨k, fl, s3, e3, p3⟩ := ih m hm ρ2 s2 hI2
          exact ⟨k + 1, fl, s3, by unfold qWhileN; rw [e]; simp only [toSq_ok, if_true, e2]; exact e3, p3⟩
        | ct ρ2 =>
          obtain ⟨m, hm, hI2⟩ := p
          obtain ⟨k, fl, s3, e3, p3⟩ := ih m hm ρ2 s2 hI2
          exact ⟨k + 1, fl, s3, by unfold qWhileN; rw [e]; simp only [toSq_ok, if_true, e2]; exact e3, p3⟩
        | bk ρ2 => exact ⟨1, _, _, by unfold qWhileN; rw [e]; simp only [toSq_ok, if_true, e2], p⟩
        | ret d => exact ⟨1, _, _, by unfold qWhileN; rw [e]; simp only [toSq_ok, if_true, e2], p⟩
        | exn x ρ2 => exact ⟨1, _, _, by unfold qWhileN; rw [e]; simp only [toSq_ok, if_true, e2], p⟩
  obtain ⟨k, fl, s', e, p⟩ := key n ρ s h0
  exact ⟨fl, s', qWhile_of e, p⟩
end
end Sh
namespace Dn
open PySem L2 Sh
/-! ### equal data of ints in tuples -/
mutual
inductive PI : Q → Prop
  | int (i : Int) : PI (.int i)
  | tup {xs : List Q} : PIs xs → PI (.tup xs)
inductive PIs : List Q → Prop
  | nil : PIs []
  | cons {x : Q} {xs : List Q} : PI x → PIs xs → PIs (x :: xs)
end
structure Good (k w : Nat) (x : Q) : Prop where
  n : Nice k w x
  p : PI x
theorem PIs.of : ∀ {xs : List Q}, (∀ x ∈ xs, PI x) → PIs xs
  | [], _ => .nil
  | x :: xs, h => .cons (h x (List.mem_cons_self ..)) (PIs.of fun y hy => h y (List.mem_cons_of_mem _ hy))
/-! ### moved, the period -/
end Dn

set_option Elab.async false
set_option linter.all false
set_option maxRecDepth 100000
set_option maxHeartbeats 4000000
set_option autoImplicit false
namespace Sh
open PySem PySem.Spec PyProof.Rows L2
end Sh

set_option Elab.async false
set_option linter.all false
set_option maxRecDepth 100000
set_option maxHeartbeats 4000000
set_option autoImplicit false
namespace Sh
open PySem PySem.Spec PyProof.Rows L2
variable {ow : List Nat}
structure QC where
  it : EQ (List Q)
  vs : List Nat
  g : GQ
inductive KCl (ow : List Nat) : List DC → List QC → Prop where
  | nil : KCl ow [] []
  | cons {it : IF} {it' : EQ (List Q)} {g : GF} {g' : GQ} {ts vs : List Nat} {ds : List DC} {cs : List QC} (hi : KI ow it it') (hg : KT ow g g') (rest : KCl ow ds cs) : KCl ow (⟨it, g, ts, vs⟩ :: ds) (⟨it', vs, g'⟩ :: cs)
end Sh

set_option Elab.async false
set_option linter.all false
set_option maxRecDepth 100000
set_option maxHeartbeats 4000000
set_option autoImplicit false
namespace Sh
open PySem PySem.Spec PyProof.Rows L2
/-! ### dicts whose keys are ints and texts, as plain values -/
def keyQ : Q → Option DKey
  | .int i => some (.inl (.inl i))
  | .str x => some (.inl (.inr x))
  | .tup ds => match nkQ (.tup ds) with
    | some k => if k.depth ≤ 8 then some (.inr k) else none
    | none => none
  | _ => none
section
variable {c : Cw} {S T : Store} {O O' : Nat → Prop}
theorem keyQ_rd {q : Q} {d : D} {k : DKey} (r : RQ c S O q d) (h : keyQ q = some k) : keyD d = some k := by
  cases r with
  | int i => exact h
  | str x => exact h
  | tup rs =>
    simp only [keyQ] at h
    split at h
    · rename_i k' e
      simp only [keyD, (nk_of _ _ (.tup rs)).trans e]
      exact h
    · cases h
  | _ => cases h
theorem valK_q {k : DKey} : ∀ {ks : List DKey} {xs : List Q} {ds : List D}, RQs c S O xs ds → (valK ks xs k = none → valK ks ds k = none) ∧ ∀ x, valK ks xs k = some x → ∃ d, valK ks ds k = some d ∧ RQ c S O x d
  | [], xs, ds, r => by
    constructor
    · intro _; simp [valK]
    · intro x h; simp [valK] at h
  | j :: ks, _, _, .nil => by
    constructor
    · intro _; simp [valK]
    · intro x h; simp [valK] at h
  | j :: ks, x :: xs, d :: ds, .cons r1 r2 => by
    have ih := valK_q (k := k) (ks := ks) r2
    unfold valK at ih ⊢
    rw [List.zip_cons_cons, List.zip_cons_cons, List.find?_cons, List.find?_cons]
    by_cases hj : j = k
    · simp only [hj, decide_true]
      exact ⟨fun z => by simp at z, fun y hy => ⟨d, rfl, by simp at hy; rw [← hy]; exact r1⟩⟩
    · simp only [hj, decide_false]
      exact ih
theorem putVs_q {k : DKey} {x : Q} {d : D} (rx : RQ c S O x d) : ∀ {ks : List DKey} {xs : List Q} {ds : List D}, RQs c S O xs ds → RQs c S O (putVs ks xs k x) (putVs ks ds k d) := by
  intro ks xs ds r
  unfold putVs
  split
  · have key : ∀ (ks : List DKey) {xs : List Q} {ds : List D}, RQs c S O xs ds → RQs c S O (List.zipWith (fun j y => if j = k then x else y) ks xs) (List.zipWith (fun j y => if j = k then d else y) ks ds) := by
      intro ks
      induction ks with
      | nil => intro xs ds _; exact .nil
      | cons j ks ih =>
        intro xs ds r
        cases r with
        | nil => exact .nil
        | cons r1 r2 =>
          simp only [List.zipWith_cons_cons]
          refine .cons ?_ (ih r2)
          split
          · exact rx
          · exact r1
    exact key ks r
  · exact r.append (.cons rx .nil)
end
section
variable {c : Cw} {S : Store} {O0 O : Nat → Prop} {ow ow' owl : List Nat} {ρq : RhoQ} {ρ : Rho} {s : Sq}
def vaK (ks : List DKey) (xs : List Q) (k : DKey) : Option Q := if okKey ks k = true then valK ks xs k else none
/-- d[k], d.get(k), d.get(k, x) -/
def qDGet (f g : EQ Q) : EQ Q := fun ρ s => bindQ (f ρ s) fun d s1 => match d with
  | .dic ks xs => bindQ (g ρ s1) fun w s2 => liftQ ((keyQ w).bind (vaK ks xs)) s2
  | _ => none
theorem get_core {c : Cw} {U : Store} {O O1 : Nat → Prop} {l : Nat} {ks : List DKey} {xs : List Q} {ds : List D} {w : Q} {b : D} {s2 : Sq} (h4 : dicO U[l]? = some (ks, ds)) (h5 : RQs c U O xs ds) (G : Gd c U O s2) (rb : RQ c U O w b) {S : Store} :
    ∀ x, (keyQ w).bind (vaK ks xs) = some x → ∃ y, gGetD (.ref l) b U = okR y U ∧ RQ c U O x y := fun x hx => by
  cases hk : keyQ w with
  | none => rw [hk] at hx; cases hx
  | some k =>
    rw [hk] at hx
    simp only [Option.bind_some, vaK] at hx
    split at hx
    · rename_i hok
      obtain ⟨y, h1, h2⟩ := (valK_q (k := k) (ks := ks) h5).2 x hx
      exact ⟨y, by simp only [gGetD, h4, keyQ_rd rb hk, h1, if_pos hok], h2⟩
    · cases hx
theorem dic_fr {c : Cw} {S U : Store} {l : Nat} {ks : List DKey} {ds : List D} (st : Stp c S U) (hl : l ≠ c.la) (h : dicO S[l]? = some (ks, ds)) : dicO U[l]? = some (ks, ds) := dicO_mv h fun o e => st.fr l o hl e
theorem k_dget {f g : EF D} {f' g' : EQ Q} (hf : KE ow f f') (hg : KE ow g g') : KE ow (fDGet f g) (qDGet f' g') := fun c S O0 O s ρq ρ G e =>
  (hf c S O0 O s ρq ρ G e).bind fun T a v s1 st G1 ra => by
    cases ra with
    | dic h1 h2 hl rs =>
      have e2 := e.stp st
      refine (hg c T O0 O s1 ρq ρ G1 e2).bind fun U b w s2 st2 G2 rb => ?_
      have h2' := dic_fr st2 (fun z => h1 (by rw [z]; exact e.oc)) h2
      match hx : (keyQ w).bind (vaK _ _) with
      | none => trivial
      | some x =>
        obtain ⟨y, k1, k2⟩ := get_core (O1 := O) (S := S) h2' (rs.stp st2 e.oc) G2 rb x hx
        simp only [k1]
        exact .ok G2 k2
    | _ => trivial
end
end Sh

set_option Elab.async false
set_option linter.all false
set_option maxRecDepth 100000
set_option maxHeartbeats 4000000
set_option autoImplicit false
namespace Sh
open PySem PySem.Spec PyProof.Rows L2
section
variable {c : Cw} {S : Store} {O0 O : Nat → Prop} {ow ow' owl : List Nat} {ρq : RhoQ} {ρ : Rho} {s : Sq}
/-- a new object that nothing may speak of -/
theorem Env.grow (e : Env c S O0 O ow ρq ρ) (G : Gd c S O s) (so : SO) : Gd c (S ++ [so]) (fun l => O l ∨ l = S.length) s ∧ Env c (S ++ [so]) (fun l => O0 l ∨ l = S.length) (fun l => O l ∨ l = S.length) ow ρq ρ := by
  have nld : S.length ≠ c.ld := fun z => by have := (List.getElem?_eq_some_iff.mp G.hd).1; omega
  have mv : ∀ l o, ¬ O l → S[l]? = some o → (S ++ [so])[l]? = some o ∧ ¬ (O l ∨ l = S.length) := fun l o h1 h2 => by
    have hl := (List.getElem?_eq_some_iff.mp h2).1
    exact ⟨by rw [List.getElem?_append_left hl]; exact h2, fun z => z.elim h1 (fun z => by omega)⟩
  have Gp := G.put so
  exact ⟨⟨fun l z => z.elim (Gp.lt l) (fun z => by subst z; simp), .inl G.ola, fun z => z.elim G.old (fun z => nld z.symm), Gp.ha, Gp.hd⟩, {
    len := e.len
    sm := e.sm
    val := fun i q h1 h2 => let ⟨d, h3, h4⟩ := e.val i q h1 h2; ⟨d, h3, h4.mv mv⟩
    own := fun i q h0 h1 hn h2 => by
      obtain ⟨l, so2, xs, ds, h3, h4, h5, h6, h7, h8⟩ := e.own i q h0 h1 hn h2
      have hl := (List.getElem?_eq_some_iff.mp h5).1
      exact ⟨l, so2, xs, ds, h3, h4, by rw [List.getElem?_append_left hl]; exact h5, h6.mv mv, .inl h7, fun z => z.elim h8 (fun z => by omega)⟩
    dep := fun i q h1 h2 => let ⟨l, ls, rows, d⟩ := e.dep i q h1 h2; ⟨l, ls, rows, d.mv (fun k o hk h => by rw [List.getElem?_append_left (List.getElem?_eq_some_iff.mp h).1]; exact h) (fun _ _ r => r.mv mv) fun k hk h => ⟨.inl h.1, fun z => z.elim h.2 (fun z => by have := G.lt k h.1; omega)⟩⟩
    cl := e.cl
    dis := e.dis
    sub := fun l z => z.elim (fun z => .inl (e.sub l z)) .inr
    ola := .inl e.ola }⟩
def putAllQ : List Q → List Key → List Q → Option (List Key × List Q)
  | [], ks, ds => some (ks, ds)
  | k :: v :: r, ks, ds => match keyQ k with
    | some (.inl j) => match plK (putKs (ks.map .inl) (.inl j)) with
      | some js => putAllQ r js (putVs (ks.map .inl) ds (.inl j) v)
      | none => none
    | _ => none
  | [_], _, _ => none
theorem putAll_q {c : Cw} {S : Store} {O : Nat → Prop} : ∀ {es : List Q} {eds : List D} {ks ks' : List Key} {xs xs' : List Q} {ds : List D}, RQs c S O es eds → RQs c S O xs ds → ks.length = xs.length → putAllQ es ks xs = some (ks', xs') → ∃ ds', putAll eds ks ds = some (ks', ds') ∧ RQs c S O xs' ds' ∧ ks'.length = xs'.length
  | [], _, ks, ks', xs, xs', ds, r, rv, hl, h => by
    cases r
    cases h
    exact ⟨ds, rfl, rv, hl⟩
  | [_], _, _, _, _, _, _, _, _, _, h => by simp [putAllQ] at h
  | k :: v :: es, _, ks, ks', xs, xs', ds, r, rv, hl, h => by
    cases r with
    | cons r1 r =>
      cases r with
      | cons r2 r3 =>
        simp only [putAllQ] at h
        split at h
        · rename_i j hj
          split at h
          · rename_i js e7
            have e8 := plK_is e7
            have hl' : js.length = (putVs (ks.map .inl) xs (.inl j) v).length := by
              have z := putVs_len (ks := ks.map .inl) (xs := xs) (k := .inl j) (x := v) (by simpa using hl)
              rw [e8] at z
              simpa using z
            obtain ⟨ds', e1, e2, e3⟩ := putAll_q r3 (putVs_q (ks := ks.map .inl) (k := .inl j) r2 rv) hl' h
            exact ⟨ds', by simp only [putAll, keyQ_rd r1 hj, e7]; exact e1, e2, e3⟩
          · cases h
        · cases h
/-- {k: v, ..} -/
def qDisp (g : EQ (List Q)) : EQ Q := fun ρ s => match g ρ s with
  | some (.ok es, s1) => if es.length ≤ 30 then match putAllQ es [] [] with
    | some (ks, xs) => okQ (.dic (ks.map .inl) xs) s1
    | none => none
    else none
  | _ => none
theorem k_disp {g : EF (List D)} {g' : EQ (List Q)} (hg : KA ow g g') : KE ow (fDisp g) (qDisp g') := fun c S O0 O s ρq ρ G e => by
  obtain ⟨G2, e2⟩ := e.grow G (.dic [] [])
  have hq := hg c _ _ _ s ρq ρ G2 e2
  unfold qDisp fDisp
  match h1 : g' ρq s, hq with
  | none, _ => trivial
  | some (.error _, _), _ => trivial
  | some (.ok es, s1), ⟨U, a, e1, st, G3, ra⟩ =>
    have nla : S.length ≠ c.la := fun z => Nat.lt_irrefl _ (z ▸ G.lt _ G.ola)
    have nld : S.length ≠ c.ld := fun z => by have := (List.getElem?_eq_some_iff.mp G.hd).1; omega
    have hU : U[S.length]? = some (.dic [] []) := st.fr _ _ nla (by simp)
    have lU : S.length < U.length := (List.getElem?_eq_some_iff.mp hU).1
    have hal : es.length = a.length := RQs.length ra
    simp only [e1, hU]
    by_cases hz : es.length ≤ 30
    · rw [if_pos hz, if_pos (by rw [← hal]; exact hz)]
      cases hp : putAllQ es [] [] with
      | none => trivial
      | some q =>
        obtain ⟨ks, xs⟩ := q
        obtain ⟨ds, k1, k2, k3⟩ := putAll_q ra (.nil : RQs c U _ [] []) rfl hp
        simp only [k1]
        have mv : ∀ l o, ¬ (O l ∨ l = S.length) → U[l]? = some o → (U.set S.length (.dic (ks.map .inl) ds))[l]? = some o ∧ ¬ O l := fun l o h1 h2 => ⟨by rw [List.getElem?_set_ne (fun z => h1 (.inr z.symm))]; exact h2, fun z => h1 (.inl z)⟩
        refine ⟨_, _, rfl, ⟨by rw [List.length_set]; exact Nat.le_of_lt lU, fun l o h1 h2 => ?_⟩, ⟨fun l z => by rw [List.length_set]; exact G3.lt l (.inl z), G.ola, G.old, by rw [List.getElem?_set_ne nla]; exact G3.ha, by rw [List.getElem?_set_ne nld]; exact G3.hd⟩, .dic (fun z => Nat.lt_irrefl _ (G.lt _ z)) (by rw [List.getElem?_set_self lU]; rfl) (by simpa using k3) (k2.mv mv)⟩
        have hl := (List.getElem?_eq_some_iff.mp h2).1
        rw [List.getElem?_set_ne (by omega)]
        exact st.fr l o h1 (by rw [List.getElem?_append_left hl]; exact h2)
    · rw [if_neg hz]; trivial
end
end Sh

set_option Elab.async false
set_option linter.all false
set_option maxRecDepth 100000
set_option maxHeartbeats 4000000
set_option autoImplicit false
namespace Sh
open PySem L2
end Sh

set_option Elab.async false
set_option linter.all false
set_option maxRecDepth 100000
set_option maxHeartbeats 4000000
set_option autoImplicit false
namespace Sh
open PySem PySem.Spec PyProof.Rows L2
/-! ### k in d, len(d), dict(pairs) -/
section
variable {c : Cw} {S : Store} {O0 O : Nat → Prop} {ow ow' owl : List Nat} {ρq : RhoQ} {ρ : Rho} {s : Sq}
end
end Sh

set_option Elab.async false
set_option linter.all false
set_option maxRecDepth 100000
set_option maxHeartbeats 4000000
set_option autoImplicit false
namespace Sh
open PySem PySem.Spec PyProof.Rows L2
def uNotInGd : Q2 := fun e d => match d, e with
  | .gd kvs, .str k => some (.bl (!(gdVal kvs k).isSome))
  | _, _ => none
theorem y_notInGd : Y2 pNotInGd uNotInGd := fun c S O s a b v da db G ra rb h => by
  cases rb with
  | gd kvs =>
    cases ra with
    | str k => cases h; exact ⟨_, rfl, .bl _⟩
    | _ => cases h
  | _ => cases h
section
variable {c : Cw} {S : Store} {O0 O : Nat → Prop} {ow ow' owl : List Nat} {ρq : RhoQ} {ρ : Rho} {s : Sq}
theorem k_gd {kvs : List (Str × Int)} : KE ow (fC (.gd kvs)) (qC (.gd kvs)) := fun c S O0 O s ρq ρ G e => ⟨S, _, rfl, .refl, G, .gd kvs⟩
def uGdGet : Q2 := fun d e => match d, e with
  | .gd kvs, .str k => (gdVal kvs k).map .int
  | _, _ => none
def qGdGet (f g : EQ Q) : EQ Q := qBin uGdGet f g
theorem k_gdget {f g : EF D} {f' g' : EQ Q} (hf : KE ow f f') (hg : KE ow g g') : KE ow (fGdGet f g) (qGdGet f' g') := fun c S O0 O s ρq ρ G e =>
  (hf c S O0 O s ρq ρ G e).bind fun T a v s1 st G1 ra => (hg c T O0 O s1 ρq ρ G1 (e.stp st)).bind fun U b w s2 st2 G2 rb => by
    have ra' := ra.stp st2 e.oc
    cases ra' with
    | gd kvs =>
      cases rb with
      | str k =>
        simp only [uGdGet]
        cases h : gdVal kvs k with
        | none => trivial
        | some i => exact .ok G2 (.int _)
      | _ => trivial
    | _ => trivial
def qRevI (lo : Int) (n : Nat) : List Q := (List.range n).map fun i => Q.int (lo + (n : Nat) - 1 - (i : Nat))
theorem revI_of (lo : Int) (n : Nat) : RQs c S O (qRevI lo n) (dRev lo n) := by
  unfold qRevI dRev
  induction (List.range n) with
  | nil => exact .nil
  | cons i l ih => exact .cons (.int _) ih
def jRev1 (f : EQ Q) : EQ (List Q) := fun ρ s => bindQ (f ρ s) fun d s1 => match d with
  | .int j => if -(2 ^ 62) ≤ j ∧ j < 2 ^ 62 then okQ (qRevI 0 j.toNat) s1 else none
  | _ => none
theorem k_rev1 {f : EF D} {f' : EQ Q} (hf : KE ow f f') : KI ow (iRev1 f) (jRev1 f') := fun c S O0 O s ρq ρ G e =>
  (hf c S O0 O s ρq ρ G e).bind fun T a v s1 st G1 ra => by
    cases ra with
    | int j =>
      simp only
      by_cases h : -(2 ^ 62) ≤ j ∧ j < 2 ^ 62
      · rw [if_pos h, if_pos h]; exact .ok G1 ⟨revI_of _ _, fun q hq => by cases hq⟩
      · rw [if_neg h, if_neg h]; trivial
    | _ => trivial
theorem gdi_of : ∀ kvs : List (Str × Int), RQs c S O (kvs.map fun p => Q.int p.2) (kvs.map fun p => D.int p.2)
  | [] => .nil
  | _ :: kvs => .cons (.int _) (gdi_of kvs)
theorem gds_of : ∀ kvs : List (Str × Int), RQs c S O (kvs.map fun p => Q.str p.1) (kvs.map fun p => D.str p.1)
  | [] => .nil
  | _ :: kvs => .cons (.str _) (gds_of kvs)
def jGdVals (f : EQ Q) : EQ (List Q) := fun ρ s => bindQ (f ρ s) fun d s1 => match d with
  | .gd kvs => okQ (kvs.map fun p => Q.int p.2) s1
  | _ => none
theorem k_gdvals {f : EF D} {f' : EQ Q} (hf : KE ow f f') : KI ow (iGdVals f) (jGdVals f') := fun c S O0 O s ρq ρ G e =>
  (hf c S O0 O s ρq ρ G e).bind fun T a v s1 st G1 ra => by
    cases ra with
    | gd kvs => exact .ok G1 ⟨gdi_of _, fun q hq => by cases hq⟩
    | _ => trivial
def qListGd (f : EQ Q) : EQ (List Q) := fun ρ s => bindQ (f ρ s) fun d s1 => match d with
  | .gd kvs => if kvs.length ≤ 16777216 then okQ (kvs.map fun p => Q.str p.1) s1 else none
  | _ => none
theorem k_listGd {f : EF D} {f' : EQ Q} (hf : KE ow f f') : KA ow (fListGd f) (qListGd f') := fun c S O0 O s ρq ρ G e =>
  (hf c S O0 O s ρq ρ G e).bind fun T a v s1 st G1 ra => by
    cases ra with
    | gd kvs =>
      simp only
      by_cases h : kvs.length ≤ 16777216
      · rw [if_pos h, if_pos h]; exact .ok G1 (gds_of _)
      · rw [if_neg h, if_neg h]; trivial
    | _ => trivial
/-- a slice of a list of one's own -/
theorem k_ownSl {i : Nat} {lo up : OF} {lo' up' : EQ (Option Int)} (hl : KO ow lo lo') (hh : KO ow up up') (hi : i ∈ ow := by decide) (hn : i + 1000 ∉ ow := by decide) (h0 : i < 1000 := by decide) : KE ow (fSl (fVar i) lo up) (qSl (qVar i) lo' up') := fun c S O0 O s ρq ρ G e => by
  unfold qSl qVar fSl fVar
  match h1 : ρq[i]? with
  | none => trivial
  | some none => trivial
  | some (some q) =>
    rcases e.ownC i q h0 hi hn h1 with ⟨l, ks, xs, rfl, h3⟩ | ⟨l, xs, ds, rfl, h3, h4, h5, h6, h7⟩
    · simp only [h3, bindR_ok, bindQ_ok]
      refine (hl c S O0 O s ρq ρ G e).bind fun U x x' s2 st2 G2 rx => (hh c U O0 O s2 ρq ρ G2 (e.stp st2)).bind fun W y y' s3 st3 G3 ry => ?_
      trivial
    · simp only [h3, bindR_ok, bindQ_ok]
      refine (hl c S O0 O s ρq ρ G e).bind fun U x x' s2 st2 G2 rx => (hh c U O0 O s2 ρq ρ G2 (e.stp st2)).bind fun W y y' s3 st3 G3 ry => ?_
      obtain rfl : x' = x := rx
      obtain rfl : y' = y := ry
      have nla : l ≠ c.la := fun z => h7 (z ▸ e.ola)
      have h4' := st3.fr l _ nla (st2.fr l _ nla h4)
      simp only [h4']
      exact new_ok G3 (cut_ok ((h5.stp st2 e.oc).stp st3 e.oc) _ _)
/-- x = xs[a:b], a list of one's own from now on -/
def qSlL (f : EQ Q) (lo up : EQ (Option Int)) : EQ (List Q) := fun ρ s => bindQ (f ρ s) fun d s1 => bindQ (lo ρ s1) fun a s2 => bindQ (up ρ s2) fun b s3 => match d with
  | .lst xs => okQ (cutD xs a b) s3
  | _ => none
def fSlL (f : EF D) (lo up : OF) : EF (List D) := fun ρ S => bindR (f ρ S) fun d S1 => bindR (lo ρ S1) fun a S2 => bindR (up ρ S2) fun b S3 => match d with
  | .fl ds => okR (cutD ds a b) S3
  | .ref l => match S3[l]? with
    | some (.lst ds) => okR (cutD ds a b) S3
    | _ => none
  | _ => none
theorem k_slL {f : EF D} {lo up : OF} {f' : EQ Q} {lo' up' : EQ (Option Int)} (hf : KE ow f f') (hl : KO ow lo lo') (hh : KO ow up up') : KA ow (fSlL f lo up) (qSlL f' lo' up') := fun c S O0 O s ρq ρ G e =>
  (hf c S O0 O s ρq ρ G e).bind fun T a v s1 st G1 ra => (hl c T O0 O s1 ρq ρ G1 (e.stp st)).bind fun U x x' s2 st2 G2 rx => (hh c U O0 O s2 ρq ρ G2 ((e.stp st).stp st2)).bind fun W y y' s3 st3 G3 ry => by
    obtain rfl : x' = x := rx
    obtain rfl : y' = y := ry
    have ra' := (ra.stp st2 e.oc).stp st3 e.oc
    cases ra' with
    | lst h1 h2 rs =>
      simp only [h2]
      exact .ok G3 (cut_ok rs _ _)
    | _ => trivial
theorem sl_al {f : EF D} {lo up : OF} {ρ : Rho} {S : Store} (h : fAl (fSlL f lo up) ρ S ≠ none) : fSl f lo up ρ S = fAl (fSlL f lo up) ρ S := by
  unfold fAl fSlL at h ⊢
  unfold fSl
  cases e1 : f ρ S with
  | none => rfl
  | some p =>
    obtain ⟨r, S1⟩ := p
    cases r with
    | error x => rfl
    | ok d =>
      rw [e1] at h
      simp only [bindR_ok] at h ⊢
      cases e2 : lo ρ S1 with
      | none => rfl
      | some p =>
        obtain ⟨r, S2⟩ := p
        cases r with
        | error x => rfl
        | ok a =>
          rw [e2] at h
          simp only [bindR_ok] at h ⊢
          cases e3 : up ρ S2 with
          | none => rfl
          | some p =>
            obtain ⟨r, S3⟩ := p
            cases r with
            | error x => rfl
            | ok b =>
              rw [e3] at h
              simp only [bindR_ok] at h ⊢
              cases d with
              | tup ds => exact absurd rfl h
              | fl ds => rfl
              | ref l =>
                simp only at h ⊢
                cases e4 : S3[l]? with
                | none => rw [e4] at h; exact absurd rfl h
                | some o =>
                  cases o with
                  | lst ds => rfl
                  | _ => rw [e4] at h; exact absurd rfl h
              | _ => rfl
theorem ks_ownSl {f : EF D} {lo up : OF} {f' : EQ Q} {lo' up' : EQ (Option Int)} {i : Nat} (hf : KE ow f f') (hl : KO ow lo lo') (hh : KO ow up up') (hi : i ∈ ow' := by decide) (h : ∀ j ∈ ow', j ∈ ow ∨ j = i := by decide) (h2 : ∀ j ∈ ow, j ∈ ow' := by decide) (hs : ∀ j ∈ ow', j < 1000 := by decide) : KS owl ow ow' (sAsg (fSl f lo up) (gN i)) (qSet (qAl (qSlL f' lo' up')) i) := fun c S O0 O s ρq ρ G e => by
  have key := ks_own (owl := owl) (i := i) (k_slL hf hl hh) hi h h2 hs c S O0 O s ρq ρ G e
  by_cases hn : fAl (fSlL f lo up) ρ S = none
  · have e1 : sAsg (fAl (fSlL f lo up)) (gN i) ρ S = none := by unfold sAsg; rw [hn]; rfl
    rw [e1] at key
    match hq : qSet (qAl (qSlL f' lo' up')) i ρq s, key with
    | none, _ => trivial
    | some (.nx _, _), ⟨_, _, _, z, _⟩ => cases z
    | some (.ret _, _), ⟨_, _, _, z, _⟩ => cases z
    | some (.bk _, _), ⟨_, _, _, z, _⟩ => cases z
    | some (.ct _, _), ⟨_, _, _, z, _⟩ => cases z
    | some (.exn _ _, _), ⟨_, _, _, _, z, _⟩ => cases z
  · have e1 : sAsg (fSl f lo up) (gN i) ρ S = sAsg (fAl (fSlL f lo up)) (gN i) ρ S := by unfold sAsg; rw [sl_al hn]
    rw [e1]
    exact key
/-- x += e -/
def qAug (i : Nat) (u : Q2) (f : EQ Q) : SFq := fun ρ s => match ρ[i]? with
  | some (some a) => toSq ρ (bindQ (f ρ s) fun y s1 => liftQ (u a y) s1) fun z s2 => some (.nx (ρ.set i (some z)), s2)
  | _ => none
theorem ks_aug {p : P2} {u : Q2} {f : EF D} {f' : EQ Q} {i : Nat} (hp : Y2 p u) (hf : KE ow f f') (hn : i ∉ ow := by decide) (h : ∀ j ∈ ow', j ∈ ow ∧ j ≠ i ∧ j ≠ i + 1000 := by decide) (h2 : ∀ j ∈ ow, j ∈ ow' ∨ j = i ∨ j = i + 1000 := by decide) (hi : i < 1000 := by decide) : KS owl ow ow' (sAug i p f) (qAug i u f') := fun c S O0 O s ρq ρ G e => by
  unfold qAug sAug
  match h1 : ρq[i]? with
  | none => trivial
  | some none => trivial
  | some (some a) =>
    obtain ⟨d, h3, h4⟩ := e.val i a hn h1
    simp only [h3]
    refine PostQ.toS ?_ e fun T b v s' st G1 ra => .nx G1 ((e.stp st).set ra i hi h h2)
    refine (hf c S O0 O s ρq ρ G e).bind fun T b w s1 st G1 rb => ?_
    cases hu : u a w with
    | none => trivial
    | some z =>
      obtain ⟨y, k1, k2⟩ := hp c T O s1 a w z d b G1 (h4.stp st e.oc) rb hu
      rw [k1]
      exact .ok G1 k2
end
end Sh

set_option Elab.async false
set_option linter.all false
set_option maxRecDepth 100000
set_option maxHeartbeats 4000000
set_option autoImplicit false
namespace Dn
open PySem L2 Sh
noncomputable def r__law_runs : SFq :=
  (qRet (qCall uTup (qComp (jR1 (qCons (qBin uAdd (qC (.int 1)) (qApp 3 p__law_take (qCons (qVar 1) (qCons (qVar 2) (qCons (qC (.int 6)) qNil))))) qNil)) [3] (uN 3) qTrue (qTup (qCons (qApp 3 p__law_take (qCons (qVar 1) (qCons (qVar 2) (qCons (qVar 0) qNil)))) (qCons (qApp 3 p__law_one (qCons (qAl (qLst (qCons (qC (.str "up")) (qCons (qC (.str "down")) (qCons (qC (.str "same")) qNil))))) (qCons (qVar 1) (qCons (qVar 2) qNil)))) (qCons (qBin uAdd (qC (.int 1)) (qApp 3 p__law_take (qCons (qVar 1) (qCons (qVar 2) (qCons (qC (.int 6)) qNil))))) qNil)))))))
noncomputable def p__law_runs : QM := qmOf 4 3 r__law_runs
theorem lk__law_runs : LkM m__law_runs p__law_runs := lk_of (N := N__law_runs) (b := d__law_runs) (b' := r__law_runs) (ow := []) (by
  unfold d__law_runs r__law_runs
  exact (ks_ret (k_new y_tup (k_comp (k_iR1 (k_cons (k_bin y_add (k_int 1) (k_app lk__law_take (k_cons k_var (k_cons k_var (k_cons (k_int 6) k_nil))))) k_nil)) t_N k_true (k_tup (k_cons (k_app lk__law_take (k_cons k_var (k_cons k_var (k_cons k_var k_nil)))) (k_cons (k_app lk__law_one (k_cons (k_al (k_lst (k_cons (k_str "up") (k_cons (k_str "down") (k_cons (k_str "same") k_nil))))) (k_cons k_var (k_cons k_var k_nil)))) (k_cons (k_bin y_add (k_int 1) (k_app lk__law_take (k_cons k_var (k_cons k_var (k_cons (k_int 6) k_nil))))) k_nil))))))))
noncomputable def r__law_step_k11 : SFq :=
  (qRet (qDGet (qDisp (qCons (qC (.str "up")) (qCons (qC (.int 1)) (qCons (qC (.str "down")) (qCons (qUn uNeg (qC (.int 1))) (qCons (qC (.str "same")) (qCons (qC (.int 0)) qNil))))))) (qVar 0)))
noncomputable def p__law_step_k11 : QM := qmOf 1 1 r__law_step_k11
theorem lk__law_step_k11 : LkM m__law_step_k11 p__law_step_k11 := lk_of (N := N__law_step_k11) (b := d__law_step_k11) (b' := r__law_step_k11) (ow := []) (by
  unfold d__law_step_k11 r__law_step_k11
  exact (ks_ret (k_dget (k_disp (k_cons (k_str "up") (k_cons (k_int 1) (k_cons (k_str "down") (k_cons (k_un y_neg (k_int 1)) (k_cons (k_str "same") (k_cons (k_int 0) k_nil))))))) k_var)))
noncomputable def r__law_made : SFq :=
  (qSeq (qSet (qAl (qLst qNil)) 2)
    (qSeq (qFor (jE (qVar 0)) (uTp 3 (uCn (uN 3) (uCn (uN 4) (uCn (uN 5) uNl)))) (qSet (qAl (qCatE (qVar 2) (qAl (qComp (jR1 (qCons (qVar 5) qNil)) [6] (uN 6) qTrue (qBin (uI2 gMod) (qCall (u1L uInt) (qCons (qBin uAdd (qVar 3) (qBin uMulA (qApp 1 p__law_step_k11 (qCons (qVar 4) qNil)) (qVar 6))) qNil)) (qVar 1)))))) 2))
    (qRet (qVar 2))))
noncomputable def p__law_made : QM := qmOf 7 2 r__law_made
theorem lk__law_made : LkM m__law_made p__law_made := lk_of (N := N__law_made) (b := d__law_made) (b' := r__law_made) (ow := []) (by
  unfold d__law_made r__law_made
  exact (ks_seq (ow1 := []) (ks_set (ow' := []) (k_al (k_lst k_nil)))
    (ks_seq (ow1 := []) (ks_for (k_iE k_var) (t_tp (t_cn t_N (t_cn t_N (t_cn t_N t_nl)))) (ks_set (ow' := []) (k_al (k_catE k_var (k_al (k_comp (k_iR1 (k_cons k_var k_nil)) t_N k_true (k_bin y_I2 (k_call (y_1L y_int) (k_cons (k_bin y_add k_var (k_bin y_mulA (k_app lk__law_step_k11 (k_cons k_var k_nil)) k_var)) k_nil)) k_var)))))))
    (ks_ret k_var))))
noncomputable def r__law_is_run : SFq :=
  (qRet (qBin uEq (qAl (qComp (jR1 (qCons (qBin (uI2 gSub) (qCall (u1L uLen) (qCons (qVar 0) qNil)) (qC (.int 1))) qNil)) [3] (uN 3) (qT (qBin uNe (qBin (uI2 gMod) (qCall (u1L uInt) (qCons (qBin uAdd (qBin uIx (qVar 0) (qVar 3)) (qApp 1 p__law_step_k11 (qCons (qVar 1) qNil))) qNil)) (qVar 2)) (qBin uIx (qVar 0) (qBin uAdd (qVar 3) (qC (.int 1)))))) (qVar 3))) (qAl (qLst qNil))))
noncomputable def p__law_is_run : QM := qmOf 4 3 r__law_is_run
theorem lk__law_is_run : LkM m__law_is_run p__law_is_run := lk_of (N := N__law_is_run) (b := d__law_is_run) (b' := r__law_is_run) (ow := []) (by
  unfold d__law_is_run r__law_is_run
  exact (ks_ret (k_bin y_eq (k_al (k_comp (k_iR1 (k_cons (k_bin y_I2 (k_call (y_1L y_len) (k_cons k_var k_nil)) (k_int 1)) k_nil)) t_N (k_T (k_bin y_ne (k_bin y_I2 (k_call (y_1L y_int) (k_cons (k_bin y_add (k_bin y_ix k_var k_var) (k_app lk__law_step_k11 (k_cons k_var k_nil))) k_nil)) k_var) (k_bin y_ix k_var (k_bin y_add k_var (k_int 1))))) k_var)) (k_al (k_lst k_nil)))))
noncomputable def r__law_table : SFq :=
  (qSeq (qSet (qAl (qLst (qCons (qC (.int 0)) qNil))) 2)
    (qSeq (qFor (jR3 (qCons (qBin (uI2 gSub) (qCall (u1L uLen) (qCons (qVar 0) qNil)) (qC (.int 1))) (qCons (qUn uNeg (qC (.int 1))) (qCons (qUn uNeg (qC (.int 1))) qNil)))) (uN 3) (qSeq (qSet (qAl (qLst qNil)) 4)
    (qSeq (qFor (jR2 (qCons (qC (.int 1)) (qCons (qBin uAdd (qBin (uI2 gSub) (qCall (u1L uLen) (qCons (qVar 0) qNil)) (qVar 3)) (qC (.int 1))) qNil))) (uN 5) (qSeq (qSet (qSl (qVar 0) (qoS (qVar 3)) (qoS (qBin uAdd (qVar 3) (qVar 5)))) 6)
    (qIfS (qT (qBin uNe (qAl (qComp (qLst (qCons (qC (.str "up")) (qCons (qC (.str "down")) (qCons (qC (.str "same")) qNil)))) [7] (uN 7) (qTru (qApp 3 p__law_is_run (qCons (qVar 6) (qCons (qVar 7) (qCons (qVar 1) qNil))))) (qVar 7))) (qAl (qLst qNil)))) (qApd 4 (qBin uIx (qVar 2) (qBin (uI2 gSub) (qVar 5) (qC (.int 1))))) qNilS)))
    (qSet (qAl (qCatE (qAl (qLst (qCons (qBin uAdd (qC (.int 1)) (qCall (u1L (uSeq uMin)) (qCons (qVar 4) qNil))) qNil))) (qVar 2))) 2))))
    (qRet (qCall (u1L uTuple) (qCons (qVar 2) qNil)))))
noncomputable def p__law_table : QM := qmOf 8 2 r__law_table
theorem lk__law_table : LkM m__law_table p__law_table := lk_of (N := N__law_table) (b := d__law_table) (b' := r__law_table) (ow := []) (by
  unfold d__law_table r__law_table
  exact (ks_seq (ow1 := []) (ks_set (ow' := []) (k_al (k_lst (k_cons (k_int 0) k_nil))))
    (ks_seq (ow1 := []) (ks_for (k_iR3 (k_cons (k_bin y_I2 (k_call (y_1L y_len) (k_cons k_var k_nil)) (k_int 1)) (k_cons (k_un y_neg (k_int 1)) (k_cons (k_un y_neg (k_int 1)) k_nil)))) t_N (ks_seq (ow1 := [4]) (ks_own (ow' := [4]) (k_lst k_nil))
    (ks_seq (ow1 := [4]) (ks_for (k_iR2 (k_cons (k_int 1) (k_cons (k_bin y_add (k_bin y_I2 (k_call (y_1L y_len) (k_cons k_var k_nil)) k_var) (k_int 1)) k_nil))) t_N (ks_seq (ow1 := [4]) (ks_set (ow' := [4]) (k_sl k_var (k_oS k_var) (k_oS (k_bin y_add k_var k_var))))
    (ks_if (ow' := [4]) (k_T (k_bin y_ne (k_al (k_comp (k_iL (k_lst (k_cons (k_str "up") (k_cons (k_str "down") (k_cons (k_str "same") k_nil))))) t_N (k_tru (k_app lk__law_is_run (k_cons k_var (k_cons k_var (k_cons k_var k_nil))))) k_var)) (k_al (k_lst k_nil)))) (ks_apd (k_bin y_ix k_var (k_bin y_I2 k_var (k_int 1)))) ks_nil)))
    (ks_pre (ow1 := []) (ks_set (ow' := []) (k_al (k_catE (k_al (k_lst (k_cons (k_bin y_add (k_int 1) (k_call (y_1L (y_seq y_min)) (k_cons k_var k_nil))) k_nil))) k_var)))))))
    (ks_ret (k_call (y_1L y_tuple) (k_cons k_var k_nil))))))
noncomputable def r__check_shafts : SFq :=
  (qIfS (qNotF (qTru (qApp 3 p_is_number (qCons (qVar 0) (qCons (qC (.int 1)) (qCons (qC (.int 16)) qNil)))))) (qRaise "ArgumentError" "reason" (qC (.str "shafts"))) qNilS)
noncomputable def p__check_shafts : QM := qmOf 1 1 r__check_shafts
theorem lk__check_shafts : LkM m__check_shafts p__check_shafts := lk_of (N := N__check_shafts) (b := d__check_shafts) (b' := r__check_shafts) (ow := []) (by
  unfold d__check_shafts r__check_shafts
  exact (ks_if (ow' := []) (k_notF (k_tru (k_app lk_is_number (k_cons k_var (k_cons (k_int 1) (k_cons (k_int 16) k_nil)))))) (ks_raise (k_str "shafts")) ks_nil))
noncomputable def r_is_threading : SFq :=
  (qSeq (qIfS (qOrF (qNotF (qTru (qUn (uIsi "tuple") (qVar 0)))) (qNotF (qT (qChain (uI2 gLe) (uI2 gLe) (qC (.int 1)) (qCall (u1L uLen) (qCons (qVar 0) qNil)) (qC (.int 24)))))) (qRet (qC (.bl false))) qNilS)
    (qRet (qCall uAll (qComp (jE (qVar 0)) [2] (uN 2) qTrue (qApp 3 p_is_number (qCons (qVar 2) (qCons (qC (.int 0)) (qCons (qBin (uI2 gSub) (qVar 1) (qC (.int 1))) qNil))))))))
noncomputable def p_is_threading : QM := qmOf 3 2 r_is_threading
theorem lk_is_threading : LkM m_is_threading p_is_threading := lk_of (N := N_is_threading) (b := d_is_threading) (b' := r_is_threading) (ow := []) (by
  unfold d_is_threading r_is_threading
  exact (ks_seq (ow1 := []) (ks_if (ow' := []) (k_orF (k_notF (k_tru (k_un y_isi k_var))) (k_notF (k_T (k_chain y_I2 y_I2 (k_int 1) (k_call (y_1L y_len) (k_cons k_var k_nil)) (k_int 24))))) (ks_ret (k_bl false)) ks_nil)
    (ks_ret (k_new y_all (k_comp (k_iE k_var) t_N k_true (k_app lk_is_number (k_cons k_var (k_cons (k_int 0) (k_cons (k_bin y_I2 k_var (k_int 1)) k_nil)))))))))
noncomputable def r__check_threading : SFq :=
  (qSeq (qExpr (qApp 1 p__check_shafts (qCons (qVar 1) qNil)))
    (qIfS (qNotF (qTru (qApp 2 p_is_threading (qCons (qVar 0) (qCons (qVar 1) qNil))))) (qRaise "ArgumentError" "reason" (qC (.str "threading"))) qNilS))
noncomputable def p__check_threading : QM := qmOf 2 2 r__check_threading
theorem lk__check_threading : LkM m__check_threading p__check_threading := lk_of (N := N__check_threading) (b := d__check_threading) (b' := r__check_threading) (ow := []) (by
  unfold d__check_threading r__check_threading
  exact (ks_seq (ow1 := []) (ks_expr (k_app lk__check_shafts (k_cons k_var k_nil)))
    (ks_if (ow' := []) (k_notF (k_tru (k_app lk_is_threading (k_cons k_var (k_cons k_var k_nil))))) (ks_raise (k_str "threading")) ks_nil)))
noncomputable def r__length_of : SFq :=
  (qSeq (qSet (qC (.int 1)) 4)
    (qSeq (qWhile (qAndF (qT (qBin (uI2 gLt) (qBin uAdd (qVar 2) (qVar 4)) (qCall (u1L uLen) (qCons (qVar 0) qNil)))) (qT (qBin uEq (qBin uIx (qVar 0) (qBin uAdd (qVar 2) (qVar 4))) (qBin (uI2 gMod) (qBin uAdd (qBin uIx (qVar 0) (qVar 2)) (qBin uMulA (qVar 4) (qVar 3))) (qVar 1))))) (qAug 4 (uI2 gAdd) (qC (.int 1))))
    (qRet (qVar 4))))
noncomputable def p__length_of : QM := qmOf 5 4 r__length_of
theorem lk__length_of : LkM m__length_of p__length_of := lk_of (N := N__length_of) (b := d__length_of) (b' := r__length_of) (ow := []) (by
  unfold d__length_of r__length_of
  exact (ks_seq (ow1 := []) (ks_set (ow' := []) (k_int 1))
    (ks_seq (ow1 := []) (ks_while (k_andF (k_T (k_bin y_I2 (k_bin y_add k_var k_var) (k_call (y_1L y_len) (k_cons k_var k_nil)))) (k_T (k_bin y_eq (k_bin y_ix k_var (k_bin y_add k_var k_var)) (k_bin y_I2 (k_bin y_add (k_bin y_ix k_var k_var) (k_bin y_mulA k_var k_var)) k_var)))) (ks_aug (ow' := []) y_I2 (k_int 1)))
    (ks_ret k_var))))
noncomputable def r__longest_run : SFq :=
  (qSeq (qSet (qAl (qComp (jGdVals (qC (.gd [("up", 1), ("down", -1), ("same", 0)]))) [5] (uN 5) qTrue (qApp 4 p__length_of (qCons (qVar 0) (qCons (qVar 1) (qCons (qVar 2) (qCons (qVar 5) qNil))))))) 3)
    (qSeq (qSet (qCall (u1L (uSeq uMax)) (qCons (qVar 3) qNil)) 4)
    (qRet (qTup (qCons (qBin uIx (qVar 0) (qVar 2)) (qCons (qBin uIx (qAl (qListGd (qC (.gd [("up", 1), ("down", -1), ("same", 0)])))) (qIdx (qVar 3) (qVar 4))) (qCons (qVar 4) qNil)))))))
noncomputable def p__longest_run : QM := qmOf 6 3 r__longest_run
theorem lk__longest_run : LkM m__longest_run p__longest_run := lk_of (N := N__longest_run) (b := d__longest_run) (b' := r__longest_run) (ow := []) (by
  unfold d__longest_run r__longest_run
  exact (ks_seq (ow1 := []) (ks_set (ow' := []) (k_al (k_comp (k_gdvals k_gd) t_N k_true (k_app lk__length_of (k_cons k_var (k_cons k_var (k_cons k_var (k_cons k_var k_nil))))))))
    (ks_seq (ow1 := []) (ks_set (ow' := []) (k_call (y_1L (y_seq y_max)) (k_cons k_var k_nil)))
    (ks_ret (k_tup (k_cons (k_bin y_ix k_var k_var) (k_cons (k_bin y_ix (k_al (k_listGd k_gd)) (k_idx k_var k_var)) (k_cons k_var k_nil))))))))
noncomputable def r_run_table : SFq :=
  (qSeq (qExpr (qApp 2 p__check_threading (qCons (qVar 0) (qCons (qVar 1) qNil))))
    (qSeq (qSet (qAl (qLst (qCons (qC (.int 0)) qNil))) 2)
    (qSeq (qFor (jRev1 (qCall (u1L uLen) (qCons (qVar 0) qNil))) (uN 3) (qSeq (qSet (qBin uIx (qApp 3 p__longest_run (qCons (qVar 0) (qCons (qVar 1) (qCons (qVar 3) qNil)))) (qC (.int 2))) 4)
    (qApd 2 (qBin uAdd (qC (.int 1)) (qCall (u1L (uSeq uMin)) (qCons (qSl (qVar 2) (qoS (qUn uNeg (qVar 4))) qoN) qNil))))))
    (qRet (qCall (u1L uTuple) (qCons (qRev (qVar 2)) qNil))))))
noncomputable def p_run_table : QM := qmOf 5 2 r_run_table
theorem lk_run_table : LkM m_run_table p_run_table := lk_of (N := N_run_table) (b := d_run_table) (b' := r_run_table) (ow := []) (by
  unfold d_run_table r_run_table
  exact (ks_seq (ow1 := []) (ks_expr (k_app lk__check_threading (k_cons k_var (k_cons k_var k_nil))))
    (ks_seq (ow1 := [2]) (ks_own (ow' := [2]) (k_lst (k_cons (k_int 0) k_nil)))
    (ks_seq (ow1 := [2]) (ks_for (k_rev1 (k_call (y_1L y_len) (k_cons k_var k_nil))) t_N (ks_seq (ow1 := [2]) (ks_set (ow' := [2]) (k_bin y_ix (k_app lk__longest_run (k_cons k_var (k_cons k_var (k_cons k_var k_nil)))) (k_int 2)))
    (ks_apd (k_bin y_add (k_int 1) (k_call (y_1L (y_seq y_min)) (k_cons (k_ownSl (k_oS (k_un y_neg k_var)) k_oN) k_nil))))))
    (ks_pre (ow1 := []) (ks_ret (k_call (y_1L y_tuple) (k_cons (k_rev k_var) k_nil))))))))
noncomputable def r_accept_run_table : SFq :=
  (qSeq (qExpr (qApp 2 p__check_threading (qCons (qVar 0) (qCons (qVar 1) qNil))))
    (qSeq (qIfS (qOrF (qNotF (qTru (qApp 2 p_is_row (qCons (qVar 2) (qCons (qBin uAdd (qCall (u1L uLen) (qCons (qVar 0) qNil)) (qC (.int 1))) qNil))))) (qNotF (qTru (qCall uAll (qComp (jE (qVar 2)) [3] (uN 3) qTrue (qApp 1 p_is_integer (qCons (qVar 3) qNil))))))) (qRaise "PaperError" "reason" (qC (.str "form"))) qNilS)
    (qIfS (qT (qBin uNe (qVar 2) (qApp 2 p_run_table (qCons (qVar 0) (qCons (qVar 1) qNil))))) (qRaise "PaperError" "reason" (qC (.str "entry"))) qNilS)))
noncomputable def p_accept_run_table : QM := qmOf 4 3 r_accept_run_table
theorem lk_accept_run_table : LkM m_accept_run_table p_accept_run_table := lk_of (N := N_accept_run_table) (b := d_accept_run_table) (b' := r_accept_run_table) (ow := []) (by
  unfold d_accept_run_table r_accept_run_table
  exact (ks_seq (ow1 := []) (ks_expr (k_app lk__check_threading (k_cons k_var (k_cons k_var k_nil))))
    (ks_seq (ow1 := []) (ks_if (ow' := []) (k_orF (k_notF (k_tru (k_app lk_is_row (k_cons k_var (k_cons (k_bin y_add (k_call (y_1L y_len) (k_cons k_var k_nil)) (k_int 1)) k_nil))))) (k_notF (k_tru (k_new y_all (k_comp (k_iE k_var) t_N k_true (k_app lk_is_integer (k_cons k_var k_nil))))))) (ks_raise (k_str "form")) ks_nil)
    (ks_if (ow' := []) (k_T (k_bin y_ne k_var (k_app lk_run_table (k_cons k_var (k_cons k_var k_nil))))) (ks_raise (k_str "entry")) ks_nil))))
noncomputable def r__is_run : SFq :=
  (qSeq (qIfS (qNotF (qTru (qApp 2 p_is_row (qCons (qVar 0) (qCons (qC (.int 3)) qNil))))) (qRet (qC (.bl false))) qNilS)
    (qSeq (qAsg (qVar 0) (uTp 3 (uCn (uN 2) (uCn (uN 3) (uCn (uN 4) uNl)))))
    (qSeq (qIfS (qOrF (qNotF (qTru (qUn (uIsi "str") (qVar 3)))) (qT (qBin uNotInGd (qVar 3) (qC (.gd [("up", 1), ("down", -1), ("same", 0)]))))) (qRet (qC (.bl false))) qNilS)
    (qRet (qAnd (qApp 3 p_is_number (qCons (qVar 2) (qCons (qC (.int 0)) (qCons (qBin (uI2 gSub) (qVar 1) (qC (.int 1))) qNil)))) (qApp 3 p_is_number (qCons (qVar 4) (qCons (qC (.int 1)) (qCons (qC (.int 24)) qNil)))))))))
noncomputable def p__is_run : QM := qmOf 5 2 r__is_run
theorem lk__is_run : LkM m__is_run p__is_run := lk_of (N := N__is_run) (b := d__is_run) (b' := r__is_run) (ow := []) (by
  unfold d__is_run r__is_run
  exact (ks_seq (ow1 := []) (ks_if (ow' := []) (k_notF (k_tru (k_app lk_is_row (k_cons k_var (k_cons (k_int 3) k_nil))))) (ks_ret (k_bl false)) ks_nil)
    (ks_seq (ow1 := []) (ks_asg k_var (t_tp (t_cn t_N (t_cn t_N (t_cn t_N t_nl)))))
    (ks_seq (ow1 := []) (ks_if (ow' := []) (k_orF (k_notF (k_tru (k_un y_isi k_var))) (k_T (k_bin y_notInGd k_var k_gd))) (ks_ret (k_bl false)) ks_nil)
    (ks_ret (k_and (k_app lk_is_number (k_cons k_var (k_cons (k_int 0) (k_cons (k_bin y_I2 k_var (k_int 1)) k_nil)))) (k_app lk_is_number (k_cons k_var (k_cons (k_int 1) (k_cons (k_int 24) k_nil))))))))))
noncomputable def r_threaded : SFq :=
  (qSeq (qExpr (qApp 1 p__check_shafts (qCons (qVar 1) qNil)))
    (qSeq (qIfS (qOrF (qNotF (qTru (qUn (uIsi "tuple") (qVar 0)))) (qNotF (qTru (qCall uAll (qComp (jE (qVar 0)) [6] (uN 6) qTrue (qApp 2 p__is_run (qCons (qVar 6) (qCons (qVar 1) qNil)))))))) (qRaise "ArgumentError" "reason" (qC (.str "runs"))) qNilS)
    (qSeq (qIfS (qNotF (qT (qChain (uI2 gLe) (uI2 gLe) (qC (.int 1)) (qCall uSum (qComp (jE (qVar 0)) [7, 5] (uTp 3 (uCn (uN 7) (uCn (uN 7) (uCn (uN 5) uNl)))) qTrue (qVar 5))) (qC (.int 24))))) (qRaise "ArgumentError" "reason" (qC (.str "runs"))) qNilS)
    (qRet (qCall (u1L uTuple) (qCons (qComp2 (jE (qVar 0)) [3, 4, 5, 2] (uTp 3 (uCn (uN 3) (uCn (uN 4) (uCn (uN 5) uNl)))) qTrue (jR1 (qCons (qVar 5) qNil)) [2] (uN 2) qTrue (qBin (uI2 gMod) (qBin uAdd (qVar 3) (qBin uMulA (qVar 2) (qGdGet (qC (.gd [("up", 1), ("down", -1), ("same", 0)])) (qVar 4)))) (qVar 1))) qNil))))))
noncomputable def p_threaded : QM := qmOf 8 2 r_threaded
theorem lk_threaded : LkM m_threaded p_threaded := lk_of (N := N_threaded) (b := d_threaded) (b' := r_threaded) (ow := []) (by
  unfold d_threaded r_threaded
  exact (ks_seq (ow1 := []) (ks_expr (k_app lk__check_shafts (k_cons k_var k_nil)))
    (ks_seq (ow1 := []) (ks_if (ow' := []) (k_orF (k_notF (k_tru (k_un y_isi k_var))) (k_notF (k_tru (k_new y_all (k_comp (k_iE k_var) t_N k_true (k_app lk__is_run (k_cons k_var (k_cons k_var k_nil)))))))) (ks_raise (k_str "runs")) ks_nil)
    (ks_seq (ow1 := []) (ks_if (ow' := []) (k_notF (k_T (k_chain y_I2 y_I2 (k_int 1) (k_new y_sum (k_comp (k_iE k_var) (t_tp (t_cn t_N (t_cn t_N (t_cn t_N t_nl)))) k_true k_var)) (k_int 24)))) (ks_raise (k_str "runs")) ks_nil)
    (ks_ret (k_call (y_1L y_tuple) (k_cons (k_comp2 (k_iE k_var) (t_tp (t_cn t_N (t_cn t_N (t_cn t_N t_nl)))) k_true (k_iR1 (k_cons k_var k_nil)) t_N k_true (k_bin y_I2 (k_bin y_add k_var (k_bin y_mulA k_var (k_gdget k_gd k_var))) k_var)) k_nil)))))))
noncomputable def r_fewest_runs : SFq :=
  (qSeq (qExpr (qApp 2 p__check_threading (qCons (qVar 0) (qCons (qVar 1) qNil))))
    (qSeq (qSet (qAl (qLst qNil)) 2)
    (qSeq (qSet (qC (.int 0)) 3)
    (qSeq (qWhile (qT (qBin (uI2 gLt) (qVar 3) (qCall (u1L uLen) (qCons (qVar 0) qNil)))) (qSeq (qApd 2 (qApp 3 p__longest_run (qCons (qVar 0) (qCons (qVar 1) (qCons (qVar 3) qNil)))))
    (qAug 3 (uI2 gAdd) (qBin uIx (qBin uIx (qVar 2) (qUn uNeg (qC (.int 1)))) (qC (.int 2))))))
    (qRet (qCall (u1L uTuple) (qCons (qVar 2) qNil)))))))
noncomputable def p_fewest_runs : QM := qmOf 4 2 r_fewest_runs
theorem lk_fewest_runs : LkM m_fewest_runs p_fewest_runs := lk_of (N := N_fewest_runs) (b := d_fewest_runs) (b' := r_fewest_runs) (ow := []) (by
  unfold d_fewest_runs r_fewest_runs
  exact (ks_seq (ow1 := []) (ks_expr (k_app lk__check_threading (k_cons k_var (k_cons k_var k_nil))))
    (ks_seq (ow1 := [2]) (ks_own (ow' := [2]) (k_lst k_nil))
    (ks_seq (ow1 := [2]) (ks_set (ow' := [2]) (k_int 0))
    (ks_seq (ow1 := [2]) (ks_while (k_T (k_bin y_I2 k_var (k_call (y_1L y_len) (k_cons k_var k_nil)))) (ks_seq (ow1 := [2]) (ks_apd (k_app lk__longest_run (k_cons k_var (k_cons k_var (k_cons k_var k_nil)))))
    (ks_aug (ow' := [2]) y_I2 (k_bin y_ix (k_ownIx (k_un y_neg (k_int 1))) (k_int 2)))))
    (ks_ret k_ownTup))))))
noncomputable def r__law_told_k11 : SFq :=
  (qSeq (qTryM (qSeq (qIfS (qT (qBin (uI2 gLt) (qVar 0) (qC (.int 2)))) (qRet (qIf (qT (qBin uEq (qVar 0) (qC (.int 0)))) (qApp 2 p_fewest_runs (qCons (qVar 1) (qCons (qVar 2) qNil))) (qApp 2 p_run_table (qCons (qVar 1) (qCons (qVar 2) qNil))))) qNilS)
    (qSeq (qIfS (qT (qBin uEq (qVar 0) (qC (.int 2)))) (qRet (qApp 2 p_threaded (qCons (qVar 1) (qCons (qVar 2) qNil)))) qNilS)
    (qExpr (qApp 3 p_accept_run_table (qCons (qVar 1) (qCons (qVar 2) (qCons (qVar 3) qNil))))))) (jhCons [("ArgumentError", false), ("PaperError", true)] 4 (qFld ["ArgumentError", "PaperError"] "reason") (jhCons [("ArgumentError", true), ("PaperError", false)] 4 (fun x => qTup ((fun x => qCons ((fun _ => (qC (.str "argument"))) x) ((fun x => qCons ((qFld ["ArgumentError", "PaperError"] "reason") x) ((fun _ => qNil) x)) x)) x)) jhNil)))
    (qRet (qC .non)))
noncomputable def p__law_told_k11 : QM := qmOf 5 4 r__law_told_k11
theorem lk__law_told_k11 : LkM m__law_told_k11 p__law_told_k11 := lk_of (N := N__law_told_k11) (b := d__law_told_k11) (b' := r__law_told_k11) (ow := []) (by
  unfold d__law_told_k11 r__law_told_k11
  exact (ks_seq (ow1 := []) (ks_tryM (ks_seq (ow1 := []) (ks_if (ow' := []) (k_T (k_bin y_I2 k_var (k_int 2))) (ks_ret (k_if (k_T (k_bin y_eq k_var (k_int 0))) (k_app lk_fewest_runs (k_cons k_var (k_cons k_var k_nil))) (k_app lk_run_table (k_cons k_var (k_cons k_var k_nil))))) ks_nil)
    (ks_seq (ow1 := []) (ks_if (ow' := []) (k_T (k_bin y_eq k_var (k_int 2))) (ks_ret (k_app lk_threaded (k_cons k_var (k_cons k_var k_nil)))) ks_nil)
    (ks_expr (k_app lk_accept_run_table (k_cons k_var (k_cons k_var (k_cons k_var k_nil))))))) (.cons kx_fld (.cons (kx_tup (kx_cons (kx_of (k_str "argument")) (kx_cons kx_fld kx_nil))) .nil)))
    (ks_ret k_non)))
noncomputable def r__law_refusals_k11 : SFq :=
  (qSeq (qSet (qApp 3 p__law_one (qCons (qAl (qLst (qCons (qC .non) (qCons (qC (.int 0)) (qCons (qC (.int 17)) (qCons (qC (.bl true)) (qCons (qC (.str "2")) qNil))))))) (qCons (qVar 2) (qCons (qVar 3) qNil)))) 4)
    (qSeq (qSet (qApp 3 p__law_one (qCons (qAl (qLst (qCons (qC .non) (qCons (qTup qNil) (qCons (qTup (qCons (qVar 1) qNil)) (qCons (qTup (qCons (qUn uNeg (qC (.int 1))) qNil)) (qCons (qTup (qCons (qC (.bl true)) qNil)) (qCons (qBin uMulA (qTup (qCons (qC (.int 0)) qNil)) (qC (.int 25))) (qCons (qC (.str "0")) (qCons (qBin uAdd (qSl (qVar 0) (qoS (qC (.int 1))) qoN) (qTup (qCons (qVar 1) qNil))) qNil)))))))))) (qCons (qVar 2) (qCons (qVar 3) qNil)))) 5)
    (qSeq (qSet (qApp 3 p__law_one (qCons (qAl (qLst (qCons (qC .non) (qCons (qTup qNil) (qCons (qTup (qCons (qTup (qCons (qVar 1) (qCons (qC (.str "up")) (qCons (qC (.int 1)) qNil)))) qNil)) (qCons (qTup (qCons (qTup (qCons (qC (.int 0)) (qCons (qC (.str "UP")) (qCons (qC (.int 1)) qNil)))) qNil)) (qCons (qTup (qCons (qTup (qCons (qC (.int 0)) (qCons (qC (.str "up")) (qCons (qC (.int 0)) qNil)))) qNil)) (qCons (qTup (qCons (qTup (qCons (qC (.int 0)) (qCons (qC (.str "up")) (qCons (qC (.int 25)) qNil)))) qNil)) (qCons (qTup (qCons (qTup (qCons (qC (.int 0)) (qCons (qC (.str "up")) qNil))) qNil)) (qCons (qTup (qCons (qTup (qCons (qC (.bl true)) (qCons (qC (.str "up")) (qCons (qC (.int 1)) qNil)))) qNil)) (qCons (qTup (qCons (qTup (qCons (qC (.int 0)) (qCons (qC (.int 5)) (qCons (qC (.int 1)) qNil)))) qNil)) (qCons (qTup (qCons (qTup (qCons (qC (.int 0)) (qCons (qC (.str "same")) (qCons (qC (.int 20)) qNil)))) (qCons (qTup (qCons (qC (.int 0)) (qCons (qC (.str "up")) (qCons (qC (.int 5)) qNil)))) qNil))) (qCons (qTup (qCons (qC (.int 0)) (qCons (qC (.str "up")) (qCons (qC (.int 1)) qNil)))) (qCons (qTup (qCons (qTup (qCons (qC (.int 0)) (qCons (qC (.str "up")) (qCons (qC (.bl true)) qNil)))) qNil)) (qCons (qTup (qCons (qTup (qCons (qC (.int 0)) (qCons (qC (.str "down")) (qCons (qC (.int 1)) (qCons (qC (.int 1)) qNil))))) qNil)) qNil))))))))))))))) (qCons (qVar 2) (qCons (qVar 3) qNil)))) 6)
    (qSeq (qFor (qLst (qCons (qC (.int 0)) (qCons (qC (.int 1)) (qCons (qC (.int 3)) qNil)))) (uN 7) (qIfS (qOrF (qT (qBin uNe (qApp 4 p__law_told_k11 (qCons (qVar 7) (qCons (qVar 5) (qCons (qVar 4) (qCons (qC .non) qNil))))) (qTup (qCons (qC (.str "argument")) (qCons (qC (.str "shafts")) qNil))))) (qT (qBin uNe (qApp 4 p__law_told_k11 (qCons (qVar 7) (qCons (qVar 5) (qCons (qVar 1) (qCons (qC .non) qNil))))) (qTup (qCons (qC (.str "argument")) (qCons (qC (.str "threading")) qNil)))))) (qRet (qC (.bl false))) qNilS))
    (qRet (qAnd (qBin uEq (qApp 4 p__law_told_k11 (qCons (qC (.int 2)) (qCons (qVar 6) (qCons (qVar 4) (qCons (qC .non) qNil))))) (qTup (qCons (qC (.str "argument")) (qCons (qC (.str "shafts")) qNil)))) (qBin uEq (qApp 4 p__law_told_k11 (qCons (qC (.int 2)) (qCons (qVar 6) (qCons (qVar 1) (qCons (qC .non) qNil))))) (qTup (qCons (qC (.str "argument")) (qCons (qC (.str "runs")) qNil))))))))))
noncomputable def p__law_refusals_k11 : QM := qmOf 8 4 r__law_refusals_k11
theorem lk__law_refusals_k11 : LkM m__law_refusals_k11 p__law_refusals_k11 := lk_of (N := N__law_refusals_k11) (b := d__law_refusals_k11) (b' := r__law_refusals_k11) (ow := []) (by
  unfold d__law_refusals_k11 r__law_refusals_k11
  exact (ks_seq (ow1 := []) (ks_set (ow' := []) (k_app lk__law_one (k_cons (k_al (k_lst (k_cons k_non (k_cons (k_int 0) (k_cons (k_int 17) (k_cons (k_bl true) (k_cons (k_str "2") k_nil))))))) (k_cons k_var (k_cons k_var k_nil)))))
    (ks_seq (ow1 := []) (ks_set (ow' := []) (k_app lk__law_one (k_cons (k_al (k_lst (k_cons k_non (k_cons (k_tup k_nil) (k_cons (k_tup (k_cons k_var k_nil)) (k_cons (k_tup (k_cons (k_un y_neg (k_int 1)) k_nil)) (k_cons (k_tup (k_cons (k_bl true) k_nil)) (k_cons (k_bin y_mulA (k_tup (k_cons (k_int 0) k_nil)) (k_int 25)) (k_cons (k_str "0") (k_cons (k_bin y_add (k_sl k_var (k_oS (k_int 1)) k_oN) (k_tup (k_cons k_var k_nil))) k_nil)))))))))) (k_cons k_var (k_cons k_var k_nil)))))
    (ks_seq (ow1 := []) (ks_set (ow' := []) (k_app lk__law_one (k_cons (k_al (k_lst (k_cons k_non (k_cons (k_tup k_nil) (k_cons (k_tup (k_cons (k_tup (k_cons k_var (k_cons (k_str "up") (k_cons (k_int 1) k_nil)))) k_nil)) (k_cons (k_tup (k_cons (k_tup (k_cons (k_int 0) (k_cons (k_str "UP") (k_cons (k_int 1) k_nil)))) k_nil)) (k_cons (k_tup (k_cons (k_tup (k_cons (k_int 0) (k_cons (k_str "up") (k_cons (k_int 0) k_nil)))) k_nil)) (k_cons (k_tup (k_cons (k_tup (k_cons (k_int 0) (k_cons (k_str "up") (k_cons (k_int 25) k_nil)))) k_nil)) (k_cons (k_tup (k_cons (k_tup (k_cons (k_int 0) (k_cons (k_str "up") k_nil))) k_nil)) (k_cons (k_tup (k_cons (k_tup (k_cons (k_bl true) (k_cons (k_str "up") (k_cons (k_int 1) k_nil)))) k_nil)) (k_cons (k_tup (k_cons (k_tup (k_cons (k_int 0) (k_cons (k_int 5) (k_cons (k_int 1) k_nil)))) k_nil)) (k_cons (k_tup (k_cons (k_tup (k_cons (k_int 0) (k_cons (k_str "same") (k_cons (k_int 20) k_nil)))) (k_cons (k_tup (k_cons (k_int 0) (k_cons (k_str "up") (k_cons (k_int 5) k_nil)))) k_nil))) (k_cons (k_tup (k_cons (k_int 0) (k_cons (k_str "up") (k_cons (k_int 1) k_nil)))) (k_cons (k_tup (k_cons (k_tup (k_cons (k_int 0) (k_cons (k_str "up") (k_cons (k_bl true) k_nil)))) k_nil)) (k_cons (k_tup (k_cons (k_tup (k_cons (k_int 0) (k_cons (k_str "down") (k_cons (k_int 1) (k_cons (k_int 1) k_nil))))) k_nil)) k_nil))))))))))))))) (k_cons k_var (k_cons k_var k_nil)))))
    (ks_seq (ow1 := []) (ks_for (k_iL (k_lst (k_cons (k_int 0) (k_cons (k_int 1) (k_cons (k_int 3) k_nil))))) t_N (ks_if (ow' := []) (k_orF (k_T (k_bin y_ne (k_app lk__law_told_k11 (k_cons k_var (k_cons k_var (k_cons k_var (k_cons k_non k_nil))))) (k_tup (k_cons (k_str "argument") (k_cons (k_str "shafts") k_nil))))) (k_T (k_bin y_ne (k_app lk__law_told_k11 (k_cons k_var (k_cons k_var (k_cons k_var (k_cons k_non k_nil))))) (k_tup (k_cons (k_str "argument") (k_cons (k_str "threading") k_nil)))))) (ks_ret (k_bl false)) ks_nil))
    (ks_ret (k_and (k_bin y_eq (k_app lk__law_told_k11 (k_cons (k_int 2) (k_cons k_var (k_cons k_var (k_cons k_non k_nil))))) (k_tup (k_cons (k_str "argument") (k_cons (k_str "shafts") k_nil)))) (k_bin y_eq (k_app lk__law_told_k11 (k_cons (k_int 2) (k_cons k_var (k_cons k_var (k_cons k_non k_nil))))) (k_tup (k_cons (k_str "argument") (k_cons (k_str "runs") k_nil)))))))))))
noncomputable def r__law_bent : SFq :=
  (qSeq (qSet (qApp 3 p__law_take (qCons (qVar 1) (qCons (qVar 2) (qCons (qCall (u1L uLen) (qCons (qVar 0) qNil)) qNil)))) 3)
    (qSeq (qSet (qAl (qComp (qLst (qCons (qBin uAdd (qBin uIx (qVar 0) (qVar 3)) (qC (.int 1))) (qCons (qBin (uI2 gSub) (qBin uIx (qVar 0) (qVar 3)) (qC (.int 1))) (qCons (qC (.int 0)) (qCons (qC (.bl true)) (qCons (qC .non) (qCons (qC (.str "1")) qNil))))))) [5] (uN 5) qTrue (qBin uAdd (qBin uAdd (qSl (qVar 0) qoN (qoS (qVar 3))) (qTup (qCons (qVar 5) qNil))) (qSl (qVar 0) (qoS (qBin uAdd (qVar 3) (qC (.int 1)))) qoN)))) 4)
    (qRet (qApp 3 p__law_one (qCons (qAl (qCatE (qVar 4) (qAl (qLst (qCons (qSl (qVar 0) (qoS (qC (.int 1))) qoN) (qCons (qBin uAdd (qVar 0) (qTup (qCons (qC (.int 0)) qNil))) (qCons (qC .non) (qCons (qRev (qVar 0)) (qCons (qBin uAdd (qSl (qVar 0) qoN (qoS (qVar 3))) (qSl (qVar 0) (qoS (qBin uAdd (qVar 3) (qC (.int 1)))) qoN)) qNil))))))))) (qCons (qVar 1) (qCons (qVar 2) qNil)))))))
noncomputable def p__law_bent : QM := qmOf 6 3 r__law_bent
theorem lk__law_bent : LkM m__law_bent p__law_bent := lk_of (N := N__law_bent) (b := d__law_bent) (b' := r__law_bent) (ow := []) (by
  unfold d__law_bent r__law_bent
  exact (ks_seq (ow1 := []) (ks_set (ow' := []) (k_app lk__law_take (k_cons k_var (k_cons k_var (k_cons (k_call (y_1L y_len) (k_cons k_var k_nil)) k_nil)))))
    (ks_seq (ow1 := []) (ks_set (ow' := []) (k_al (k_comp (k_iL (k_lst (k_cons (k_bin y_add (k_bin y_ix k_var k_var) (k_int 1)) (k_cons (k_bin y_I2 (k_bin y_ix k_var k_var) (k_int 1)) (k_cons (k_int 0) (k_cons (k_bl true) (k_cons k_non (k_cons (k_str "1") k_nil)))))))) t_N k_true (k_bin y_add (k_bin y_add (k_sl k_var k_oN (k_oS k_var)) (k_tup (k_cons k_var k_nil))) (k_sl k_var (k_oS (k_bin y_add k_var (k_int 1))) k_oN)))))
    (ks_ret (k_app lk__law_one (k_cons (k_al (k_catE k_var (k_al (k_lst (k_cons (k_sl k_var (k_oS (k_int 1)) k_oN) (k_cons (k_bin y_add k_var (k_tup (k_cons (k_int 0) k_nil))) (k_cons k_non (k_cons (k_rev k_var) (k_cons (k_bin y_add (k_sl k_var k_oN (k_oS k_var)) (k_sl k_var (k_oS (k_bin y_add k_var (k_int 1))) k_oN)) k_nil))))))))) (k_cons k_var (k_cons k_var k_nil))))))))
noncomputable def r__law_reason_k11 : SFq :=
  (qSeq (qIfS (qOrF (qNotF (qTru (qUn (uIsi "tuple") (qVar 0)))) (qOrF (qT (qBin uNe (qCall (u1L uLen) (qCons (qVar 0) qNil)) (qCall (u1L uLen) (qCons (qVar 1) qNil)))) (qT (qBin uNe (qAl (qComp (jE (qVar 0)) [2] (uN 2) (qOrF (qNotF (qTru (qUn (uIsi "int") (qVar 2)))) (qTru (qUn (uIsi "bool") (qVar 2)))) (qVar 2))) (qAl (qLst qNil)))))) (qRet (qC (.str "form"))) qNilS)
    (qRet (qIf (qT (qBin uEq (qVar 0) (qVar 1))) (qC .non) (qC (.str "entry")))))
noncomputable def p__law_reason_k11 : QM := qmOf 3 2 r__law_reason_k11
theorem lk__law_reason_k11 : LkM m__law_reason_k11 p__law_reason_k11 := lk_of (N := N__law_reason_k11) (b := d__law_reason_k11) (b' := r__law_reason_k11) (ow := []) (by
  unfold d__law_reason_k11 r__law_reason_k11
  exact (ks_seq (ow1 := []) (ks_if (ow' := []) (k_orF (k_notF (k_tru (k_un y_isi k_var))) (k_orF (k_T (k_bin y_ne (k_call (y_1L y_len) (k_cons k_var k_nil)) (k_call (y_1L y_len) (k_cons k_var k_nil)))) (k_T (k_bin y_ne (k_al (k_comp (k_iE k_var) t_N (k_orF (k_notF (k_tru (k_un y_isi k_var))) (k_tru (k_un y_isi k_var))) k_var)) (k_al (k_lst k_nil)))))) (ks_ret (k_str "form")) ks_nil)
    (ks_ret (k_if (k_T (k_bin y_eq k_var k_var)) k_non (k_str "entry")))))
noncomputable def r__law_fewest : SFq :=
  (qSeq (qSet (qAl (qLst qNil)) 2)
    (qSeq (qSet (qC (.int 0)) 3)
    (qSeq (qWhile (qT (qBin (uI2 gLt) (qVar 3) (qCall (u1L uLen) (qCons (qVar 0) qNil)))) (qSeq (qSet (qTup (qCons (qC (.int 0)) (qCons (qC (.str "")) qNil))) 4)
    (qSeq (qFor (qLst (qCons (qC (.str "up")) (qCons (qC (.str "down")) (qCons (qC (.str "same")) qNil)))) (uN 5) (qSeq (qSet (qC (.int 1)) 6)
    (qSeq (qWhile (qAndF (qT (qBin (uI2 gLt) (qBin uAdd (qVar 3) (qVar 6)) (qCall (u1L uLen) (qCons (qVar 0) qNil)))) (qTru (qApp 3 p__law_is_run (qCons (qSl (qVar 0) (qoS (qVar 3)) (qoS (qBin uAdd (qBin uAdd (qVar 3) (qVar 6)) (qC (.int 1))))) (qCons (qVar 5) (qCons (qVar 1) qNil)))))) (qSet (qBin uAdd (qVar 6) (qC (.int 1))) 6))
    (qIfS (qT (qBin (uI2 gGt) (qVar 6) (qBin uIx (qVar 4) (qC (.int 0))))) (qSet (qTup (qCons (qVar 6) (qCons (qVar 5) qNil))) 4) qNilS))))
    (qSeq (qApd 2 (qTup (qCons (qBin uIx (qVar 0) (qVar 3)) (qCons (qBin uIx (qVar 4) (qC (.int 1))) (qCons (qBin uIx (qVar 4) (qC (.int 0))) qNil)))))
    (qSet (qBin uAdd (qVar 3) (qBin uIx (qVar 4) (qC (.int 0)))) 3)))))
    (qRet (qCall (u1L uTuple) (qCons (qVar 2) qNil))))))
noncomputable def p__law_fewest : QM := qmOf 7 2 r__law_fewest
theorem lk__law_fewest : LkM m__law_fewest p__law_fewest := lk_of (N := N__law_fewest) (b := d__law_fewest) (b' := r__law_fewest) (ow := []) (by
  unfold d__law_fewest r__law_fewest
  exact (ks_seq (ow1 := [2]) (ks_own (ow' := [2]) (k_lst k_nil))
    (ks_seq (ow1 := [2]) (ks_set (ow' := [2]) (k_int 0))
    (ks_seq (ow1 := [2]) (ks_while (k_T (k_bin y_I2 k_var (k_call (y_1L y_len) (k_cons k_var k_nil)))) (ks_seq (ow1 := [2]) (ks_set (ow' := [2]) (k_tup (k_cons (k_int 0) (k_cons (k_str "") k_nil))))
    (ks_seq (ow1 := [2]) (ks_for (k_iL (k_lst (k_cons (k_str "up") (k_cons (k_str "down") (k_cons (k_str "same") k_nil))))) t_N (ks_seq (ow1 := [2]) (ks_set (ow' := [2]) (k_int 1))
    (ks_seq (ow1 := [2]) (ks_while (k_andF (k_T (k_bin y_I2 (k_bin y_add k_var k_var) (k_call (y_1L y_len) (k_cons k_var k_nil)))) (k_tru (k_app lk__law_is_run (k_cons (k_sl k_var (k_oS k_var) (k_oS (k_bin y_add (k_bin y_add k_var k_var) (k_int 1)))) (k_cons k_var (k_cons k_var k_nil)))))) (ks_set (ow' := [2]) (k_bin y_add k_var (k_int 1))))
    (ks_if (ow' := [2]) (k_T (k_bin y_I2 k_var (k_bin y_ix k_var (k_int 0)))) (ks_set (ow' := [2]) (k_tup (k_cons k_var (k_cons k_var k_nil)))) ks_nil))))
    (ks_seq (ow1 := [2]) (ks_apd (k_tup (k_cons (k_bin y_ix k_var k_var) (k_cons (k_bin y_ix k_var (k_int 1)) (k_cons (k_bin y_ix k_var (k_int 0)) k_nil)))))
    (ks_set (ow' := [2]) (k_bin y_add k_var (k_bin y_ix k_var (k_int 0))))))))
    (ks_ret k_ownTup)))))
noncomputable def r_law_k11 : SFq :=
  (qSeq (qFor (jR1 (qCons (qC (.int 3)) qNil)) (uN 3) (qSeq (qSet (qBin uAdd (qC (.int 1)) (qApp 3 p__law_take (qCons (qVar 1) (qCons (qVar 2) (qCons (qBin uIx (qAl (qLst (qCons (qC (.int 3)) (qCons (qC (.int 8)) (qCons (qC (.int 16)) qNil))))) (qApp 3 p__law_take (qCons (qVar 1) (qCons (qVar 2) (qCons (qC (.int 3)) qNil))))) qNil))))) 4)
    (qSeq (qSet (qApp 3 p__law_runs (qCons (qVar 4) (qCons (qVar 1) (qCons (qVar 2) qNil)))) 5)
    (qSeq (qSet (qApp 2 p__law_made (qCons (qVar 5) (qCons (qVar 4) qNil))) 6)
    (qSeq (qSet (qIf (qT (qBin (uI2 gLt) (qCall (u1L uLen) (qCons (qVar 6) qNil)) (qC (.int 25)))) (qCall (u1L uTuple) (qCons (qVar 6) qNil)) (qTup (qCons (qC (.str "argument")) (qCons (qC (.str "runs")) qNil)))) 7)
    (qSeq (qIfS (qT (qBin uNe (qCall (u1L uRepr) (qCons (qApp 4 p__law_told_k11 (qCons (qC (.int 2)) (qCons (qVar 5) (qCons (qVar 4) (qCons (qC .non) qNil))))) qNil)) (qCall (u1L uRepr) (qCons (qVar 7) qNil)))) (qRet (qC (.bl false))) qNilS)
    (qSeq (qSet (qAl (qSlL (qVar 6) qoN (qoS (qC (.int 24))))) 8)
    (qSeq (qFor (jR1 (qCons (qApp 3 p__law_take (qCons (qVar 1) (qCons (qVar 2) (qCons (qC (.int 4)) qNil)))) qNil)) (uN 9) (qSetIx 8 (qApp 3 p__law_take (qCons (qVar 1) (qCons (qVar 2) (qCons (qVar 4) qNil)))) (qApp 3 p__law_take (qCons (qVar 1) (qCons (qVar 2) (qCons (qCall (u1L uLen) (qCons (qVar 8) qNil)) qNil))))))
    (qSeq (qSet (qCall (u1L uTuple) (qCons (qVar 8) qNil)) 8)
    (qSeq (qSet (qApp 2 p__law_table (qCons (qVar 8) (qCons (qVar 4) qNil))) 10)
    (qSeq (qSet (qApp 4 p__law_told_k11 (qCons (qC (.int 0)) (qCons (qVar 8) (qCons (qVar 4) (qCons (qC .non) qNil))))) 11)
    (qSeq (qIfS (qOrF (qT (qBin uNe (qCall (u1L uRepr) (qCons (qVar 11) qNil)) (qCall (u1L uRepr) (qCons (qApp 2 p__law_fewest (qCons (qVar 8) (qCons (qVar 4) qNil))) qNil)))) (qOrF (qT (qBin uNe (qCall (u1L uLen) (qCons (qVar 11) qNil)) (qBin uIx (qVar 10) (qC (.int 0))))) (qT (qBin uNe (qApp 4 p__law_told_k11 (qCons (qC (.int 2)) (qCons (qVar 11) (qCons (qVar 4) (qCons (qC .non) qNil))))) (qVar 8))))) (qRet (qC (.bl false))) qNilS)
    (qSeq (qIfS (qT (qBin uNe (qCall (u1L uRepr) (qCons (qApp 4 p__law_told_k11 (qCons (qC (.int 1)) (qCons (qVar 8) (qCons (qVar 4) (qCons (qC .non) qNil))))) qNil)) (qCall (u1L uRepr) (qCons (qVar 10) qNil)))) (qRet (qC (.bl false))) qNilS)
    (qSeq (qFor (jR1 (qCons (qC (.int 5)) qNil)) (uN 9) (qSeq (qSet (qIf (qT (qBin (uI2 gGt) (qVar 9) (qC (.int 0)))) (qApp 3 p__law_bent (qCons (qVar 10) (qCons (qVar 1) (qCons (qVar 2) qNil)))) (qVar 10)) 12)
    (qIfS (qT (qBin uNe (qApp 4 p__law_told_k11 (qCons (qC (.int 3)) (qCons (qVar 8) (qCons (qVar 4) (qCons (qVar 12) qNil))))) (qApp 2 p__law_reason_k11 (qCons (qVar 12) (qCons (qVar 10) qNil))))) (qRet (qC (.bl false))) qNilS)))
    (qIfS (qNotF (qTru (qApp 4 p__law_refusals_k11 (qCons (qVar 8) (qCons (qVar 4) (qCons (qVar 1) (qCons (qVar 2) qNil))))))) (qRet (qC (.bl false))) qNilS)))))))))))))))
    (qRet (qC (.bl true))))
theorem kr_law_k11 : KS [] [] [] dr_law_k11 r_law_k11 := by
  unfold dr_law_k11 r_law_k11
  exact (ks_seq (ow1 := []) (ks_for (k_iR1 (k_cons (k_int 3) k_nil)) t_N (ks_seq (ow1 := []) (ks_set (ow' := []) (k_bin y_add (k_int 1) (k_app lk__law_take (k_cons k_var (k_cons k_var (k_cons (k_bin y_ix (k_al (k_lst (k_cons (k_int 3) (k_cons (k_int 8) (k_cons (k_int 16) k_nil))))) (k_app lk__law_take (k_cons k_var (k_cons k_var (k_cons (k_int 3) k_nil))))) k_nil))))))
    (ks_seq (ow1 := []) (ks_set (ow' := []) (k_app lk__law_runs (k_cons k_var (k_cons k_var (k_cons k_var k_nil)))))
    (ks_seq (ow1 := []) (ks_set (ow' := []) (k_app lk__law_made (k_cons k_var (k_cons k_var k_nil))))
    (ks_seq (ow1 := []) (ks_set (ow' := []) (k_if (k_T (k_bin y_I2 (k_call (y_1L y_len) (k_cons k_var k_nil)) (k_int 25))) (k_call (y_1L y_tuple) (k_cons k_var k_nil)) (k_tup (k_cons (k_str "argument") (k_cons (k_str "runs") k_nil)))))
    (ks_seq (ow1 := []) (ks_if (ow' := []) (k_T (k_bin y_ne (k_call (y_1L y_repr) (k_cons (k_app lk__law_told_k11 (k_cons (k_int 2) (k_cons k_var (k_cons k_var (k_cons k_non k_nil))))) k_nil)) (k_call (y_1L y_repr) (k_cons k_var k_nil)))) (ks_ret (k_bl false)) ks_nil)
    (ks_seq (ow1 := [8]) (ks_ownSl (ow' := [8]) k_var k_oN (k_oS (k_int 24)))
    (ks_seq (ow1 := [8]) (ks_for (k_iR1 (k_cons (k_app lk__law_take (k_cons k_var (k_cons k_var (k_cons (k_int 4) k_nil)))) k_nil)) t_N (ks_setIx (k_app lk__law_take (k_cons k_var (k_cons k_var (k_cons k_var k_nil)))) (k_app lk__law_take (k_cons k_var (k_cons k_var (k_cons k_ownLen k_nil))))))
    (ks_seq (ow1 := []) (ks_set (ow' := []) k_ownTup)
    (ks_seq (ow1 := []) (ks_set (ow' := []) (k_app lk__law_table (k_cons k_var (k_cons k_var k_nil))))
    (ks_seq (ow1 := []) (ks_set (ow' := []) (k_app lk__law_told_k11 (k_cons (k_int 0) (k_cons k_var (k_cons k_var (k_cons k_non k_nil))))))
    (ks_seq (ow1 := []) (ks_if (ow' := []) (k_orF (k_T (k_bin y_ne (k_call (y_1L y_repr) (k_cons k_var k_nil)) (k_call (y_1L y_repr) (k_cons (k_app lk__law_fewest (k_cons k_var (k_cons k_var k_nil))) k_nil)))) (k_orF (k_T (k_bin y_ne (k_call (y_1L y_len) (k_cons k_var k_nil)) (k_bin y_ix k_var (k_int 0)))) (k_T (k_bin y_ne (k_app lk__law_told_k11 (k_cons (k_int 2) (k_cons k_var (k_cons k_var (k_cons k_non k_nil))))) k_var)))) (ks_ret (k_bl false)) ks_nil)
    (ks_seq (ow1 := []) (ks_if (ow' := []) (k_T (k_bin y_ne (k_call (y_1L y_repr) (k_cons (k_app lk__law_told_k11 (k_cons (k_int 1) (k_cons k_var (k_cons k_var (k_cons k_non k_nil))))) k_nil)) (k_call (y_1L y_repr) (k_cons k_var k_nil)))) (ks_ret (k_bl false)) ks_nil)
    (ks_seq (ow1 := []) (ks_for (k_iR1 (k_cons (k_int 5) k_nil)) t_N (ks_seq (ow1 := []) (ks_set (ow' := []) (k_if (k_T (k_bin y_I2 k_var (k_int 0))) (k_app lk__law_bent (k_cons k_var (k_cons k_var (k_cons k_var k_nil)))) k_var))
    (ks_if (ow' := []) (k_T (k_bin y_ne (k_app lk__law_told_k11 (k_cons (k_int 3) (k_cons k_var (k_cons k_var (k_cons k_var k_nil))))) (k_app lk__law_reason_k11 (k_cons k_var (k_cons k_var k_nil))))) (ks_ret (k_bl false)) ks_nil)))
    (ks_if (ow' := []) (k_notF (k_tru (k_app lk__law_refusals_k11 (k_cons k_var (k_cons k_var (k_cons k_var (k_cons k_var k_nil))))))) (ks_ret (k_bl false)) ks_nil)))))))))))))))
    (ks_ret (k_bl true)))
end Dn

set_option Elab.async false
set_option linter.all false
set_option maxRecDepth 100000
set_option maxHeartbeats 4000000
set_option autoImplicit false
namespace Dn
open PySem L2 Sh
open R11 (wn wn_cast wn_lt wn_self wn_add Run IsLen len cnt E)
section
variable {f g h : EQ Q} {ρ : RhoQ} {s : Sq}
theorem z_Aug {i : Nat} {u : Q2} : qAug i u f ρ s = (match ρ[i]? with
  | some (some a) => toSq ρ (bindQ (f ρ s) fun y s1 => liftQ (u a y) s1) fun z s2 => some (.nx (ρ.set i (some z)), s2)
  | _ => none) := rfl
theorem z_GdGet : qGdGet f g ρ s = bindQ (f ρ s) fun d s1 => bindQ (g ρ s1) fun e s2 => liftQ (uGdGet d e) s2 := rfl
theorem z_GdVals : jGdVals f ρ s = bindQ (f ρ s) fun d s1 => match d with
  | .gd kvs => okQ (kvs.map fun p => Q.int p.2) s1
  | _ => none := rfl
theorem z_ListGd : qListGd f ρ s = bindQ (f ρ s) fun d s1 => match d with
  | .gd kvs => if kvs.length ≤ 16777216 then okQ (kvs.map fun p => Q.str p.1) s1 else none
  | _ => none := rfl
end
theorem u_gAdd (i j : Int) : uI2 gAdd (.int i) (.int j) = some (.int (i + j)) := rfl
/-- a threading -/
def tr (n : Nat) (T : Nat → Nat) : Q := .tup (rg n fun i => .int (T i : Nat))
structure Th11 (n S : Nat) (T : Nat → Nat) : Prop where
  n1 : 1 ≤ n
  n2 : n ≤ 24
  s1 : 1 ≤ S
  s2 : S ≤ 16
  lt : ∀ i, i < n → T i < S
abbrev arg11 (r : Str) : Qx := ("ArgumentError", [("reason", .str r)])
abbrev pap11 (r : Str) : Qx := ("PaperError", [("reason", .str r)])
section
variable {n S : Nat} {T : Nat → Nat} {s : Sq}
theorem tr_len : uLen (tr n T) = some (.int (n : Nat)) := by unfold tr; simp
theorem tr_at {i : Nat} (hi : i < n) : uIx (tr n T) (.int (i : Nat)) = some (.int (T i : Nat)) := by
  have a : atI (rg n fun i => Q.int (T i : Nat)) (i : Int) = some (.int (T i : Nat)) := rg_at hi
  unfold tr
  simp [a]
theorem check_shafts_ok (h : 1 ≤ S ∧ S ≤ 16) (s : Sq) : p__check_shafts [.int (S : Nat)] s = okQ .non s := by
  obtain ⟨N, eN, hN⟩ := shut p_is_number (fun N => ∀ (i a b : Int) s, N [.int i, .int a, .int b] s = okQ (.bl (decide (a ≤ i ∧ i ≤ b))) s) fun i a b s => is_number_ok s
  have hd : decide ((1 : Int) ≤ (S : Int) ∧ (S : Int) ≤ 16) = true := by simp; omega
  unfold p__check_shafts r__check_shafts
  rw [eN]
  simp -implicitDefEqProofs [z_mOf, hN, hd]
theorem threading_ok (h : Th11 n S T) (s : Sq) : p_is_threading [tr n T, .int (S : Nat)] s = okQ (.bl true) s := by
  obtain ⟨N, eN, hN⟩ := shut p_is_number (fun N => ∀ (i a b : Int) s, N [.int i, .int a, .int b] s = okQ (.bl (decide (a ≤ i ∧ i ≤ b))) s) fun i a b s => is_number_ok s
  have h1 := h.n1
  have h2 := h.n2
  have l1 : n ≤ 16777216 := by omega
  have ut : uIsi "tuple" (tr n T) = some (.bl true) := isi_tup (q := tr n T) rfl
  have c1 : ((1 : Int) ≤ (n : Int)) := by omega
  have c2 : ((n : Int) ≤ 24) := by omega
  have uw : uwalk (tr n T) = some (rg n fun i => .int (T i : Nat)) := rfl
  unfold p_is_threading r_is_threading
  rw [eN]
  simp -implicitDefEqProofs [z_mOf, z_Seq, ut, tr_len, c1, c2, uw, l1]
  rw [comp_rg (fun _ => .bl true)]
  · simp only [bindQ_ok]
    have : uAll (rg n fun _ => Q.bl true) = some (.bl true) := by
      have := all_rg (n := n) (f := fun _ => true)
      rw [this]
      simp
    rw [this]
    rfl
  · intro i hi
    refine ⟨_, rfl, fun s => ?_⟩
    have := h.lt i hi
    have hd : decide ((0 : Int) ≤ (T i : Int) ∧ (T i : Int) ≤ (S : Int) - 1) = true := by simp; omega
    simp -implicitDefEqProofs [hN, hd]
    omega
theorem check_threading_ok (h : Th11 n S T) (s : Sq) : p__check_threading [tr n T, .int (S : Nat)] s = okQ .non s := by
  obtain ⟨A, eA, hA⟩ := shut p__check_shafts (fun A => ∀ s, A [.int (S : Nat)] s = okQ .non s) fun s => check_shafts_ok ⟨h.s1, h.s2⟩ s
  obtain ⟨B, eB, hB⟩ := shut p_is_threading (fun B => ∀ s, B [tr n T, .int (S : Nat)] s = okQ (.bl true) s) fun s => threading_ok h s
  unfold p__check_threading r__check_threading
  rw [eA, eB]
  simp -implicitDefEqProofs [z_mOf, z_Seq, hA, hB]
theorem fmod_wn {a : Int} (h : 1 ≤ S) : a.fmod (S : Int) = ((wn a S : Nat) : Int) := by
  rw [wn_cast h, Int.fmod_eq_emod_of_nonneg _ (by omega)]
theorem eq_nn11 (a b : Nat) : uEq (.int (a : Nat)) (.int (b : Nat)) = some (.bl (decide (a = b))) := by
  by_cases h : a = b
  · subst h; simp
  · have h2 : ¬ ((a : Int) = (b : Int)) := by omega
    simp [h, h2]
theorem length_ok (h : Th11 n S T) {f : Nat} (hf : f < n) (st : Int) (hst : -1 ≤ st ∧ st ≤ 1) (s : Sq) : p__length_of [tr n T, .int (S : Nat), .int (f : Nat), .int st] s = okQ (.int (len T S n st f : Nat)) s := by
  have L := R11.len_is (T := T) (S := S) (st := st) hf
  have hs1 := h.s1
  have hS0 : (S : Int) ≠ 0 := by omega
  obtain ⟨X, hX, xm⟩ : ∃ X : Q2, uMulA = X ∧ ∀ i j : Int, -1000 ≤ i ∧ i ≤ 1000 ∨ -1000 ≤ j ∧ j ≤ 1000 → X (.int i) (.int j) = some (.int (i * j)) := ⟨uMulA, rfl, fun _ _ h => c_mulI h⟩
  unfold p__length_of r__length_of
  rw [hX]
  apply WX.eq
  rw [wx_mOf]
  refine ⟨rfl, ?_⟩
  show WF (qSeq _ _ [some (tr n T), some (.int (S : Nat)), some (.int (f : Nat)), some (.int st), none] s) _
  rw [wf_seq]
  refine wf_setv (s1 := s) (v := .int ((1 : Nat) : Int)) rfl ?_
  rw [thenF_nx, wf_seq]
  show WF (qWhile _ _ [some (tr n T), some (.int (S : Nat)), some (.int (f : Nat)), some (.int st), some (.int ((1 : Nat) : Int))] s) _
  refine wf_while (fun k ρ s' => s' = s ∧ ∃ c : Nat, ρ = [some (tr n T), some (.int (S : Nat)), some (.int (f : Nat)), some (.int st), some (.int (c : Nat))] ∧ 1 ≤ c ∧ c ≤ len T S n st f ∧ k = len T S n st f - c) ?_ (len T S n st f - 1) ⟨rfl, 1, rfl, Nat.le_refl _, L.pos, rfl⟩
  rintro k ρ s' ⟨rfl, c, rfl, hc1, hc2, rfl⟩
  have hle := L.le
  have ad : uAdd (.int (f : Nat)) (.int (c : Nat)) = some (.int ((f + c : Nat) : Int)) := by simp
  have ad2 : uAdd (.int (T f : Nat)) (.int ((c : Int) * st)) = some (.int ((T f : Int) + (c : Int) * st)) := rfl
  by_cases hfc : f + c < n
  · have a1 := tr_at (T := T) hfc
    have a0 := tr_at (T := T) hf
    have m1 : uI2 gMod (.int ((T f : Int) + (c : Nat) * st)) (.int (S : Nat)) = some (.int ((wn ((T f : Nat) + (c : Nat) * st) S : Nat) : Int)) := by rw [u_mod hS0, fmod_wn hs1]
    have x1 := xm (c : Int) st (.inr (by omega))
    have hcn : (((f + c : Nat) : Int) < (n : Int)) := by omega
    by_cases he : T (f + c) = wn ((T f : Nat) + (c : Nat) * st) S
    · right
      have hcl : c < len T S n st f := by
        apply Classical.byContradiction
        intro hn
        have : c = len T S n st f := by omega
        subst this
        refine L.max hfc (R11.run_of hs1 (h.lt f hf) fun k hk => ?_)
        by_cases hk2 : k < len T S n st f
        · exact L.run.at hs1 (h.lt f hf) k hk2
        · have : k = len T S n st f := by omega
          rw [this]; exact he
      refine ⟨s', ?_, ?_⟩
      · have e1 : uEq (.int ((T (f + c) : Nat) : Int)) (.int ((wn ((T f : Nat) + (c : Nat) * st) S : Nat) : Int)) = some (.bl true) := by rw [eq_nn11]; simp [he]
        simp -implicitDefEqProofs [tr_len, ad, ad2, hfc, a1, a0, x1, m1, -Int.natCast_add, -uAdd_int, e1]
      · refine ⟨.nx [some (tr n T), some (.int (S : Nat)), some (.int (f : Nat)), some (.int st), some (.int ((c + 1 : Nat) : Int))], s', by simp -implicitDefEqProofs [z_Aug, u_gAdd], len T S n st f - (c + 1), by omega, rfl, c + 1, rfl, by omega, by omega, rfl⟩
    · left
      have hcl : c = len T S n st f := by
        apply Classical.byContradiction
        intro hn
        exact he (L.run.at hs1 (h.lt f hf) c (by omega))
      refine ⟨s', ?_, ?_⟩
      · have e1 : uEq (.int ((T (f + c) : Nat) : Int)) (.int ((wn ((T f : Nat) + (c : Nat) * st) S : Nat) : Int)) = some (.bl false) := by rw [eq_nn11]; simp [he]
        simp -implicitDefEqProofs [tr_len, ad, ad2, hfc, a1, a0, x1, m1, -Int.natCast_add, -uAdd_int, e1]
      · rw [thenF_nx]
        exact c_ret (s1 := s') (v := .int (len T S n st f : Nat)) (by rw [← hcl]; rfl) ⟨rfl, rfl⟩
  · left
    have hcl : c = len T S n st f := by omega
    refine ⟨s', by simp -implicitDefEqProofs [tr_len, ad, hfc, -Int.natCast_add, -uAdd_int], ?_⟩
    rw [thenF_nx]
    exact c_ret (s1 := s') (v := .int (len T S n st f : Nat)) (by rw [← hcl]; rfl) ⟨rfl, rfl⟩
/-! the longest run -/
noncomputable def wdf (T : Nat → Nat) (S n f : Nat) : Str := if len T S n 1 f = cnt T S n f then "up" else if len T S n (-1) f = cnt T S n f then "down" else "same"
noncomputable def runQ (T : Nat → Nat) (S n f : Nat) : Q := .tup [.int (T f : Nat), .str (wdf T S n f), .int (cnt T S n f : Nat)]
end
end Dn

set_option Elab.async false
set_option linter.all false
set_option maxRecDepth 100000
set_option maxHeartbeats 4000000
set_option autoImplicit false
namespace Dn
open PySem L2 Sh
open R11 (wn wn_cast wn_lt wn_self wn_add Run IsLen len cnt E down)
/-! ### the least, the greatest of numbers -/
theorem uI_nats : ∀ l : List Nat, uI (l.map fun x : Nat => Q.int (x : Nat)) = some (l.map fun x : Nat => ((x : Nat) : Int))
  | [] => rfl
  | x :: l => by simp only [List.map_cons, uI, uI_nats l]; rfl
theorem foldl_min {m : Int} : ∀ (r : List Int) (a : Int), (m = a ∨ m ∈ r) → m ≤ a → (∀ x ∈ r, m ≤ x) → r.foldl min a = m
  | [], a, h, _, _ => by rcases h with h | h; exact h.symm; cases h
  | x :: r, a, h, h1, h2 => by
    rw [List.foldl_cons]
    have hx := h2 x (by simp)
    refine foldl_min r (min a x) ?_ (by omega) fun y hy => h2 y (by simp [hy])
    rcases h with rfl | h
    · left; omega
    · rcases List.mem_cons.mp h with rfl | h
      · left; omega
      · exact .inr h
theorem foldl_max {m : Int} : ∀ (r : List Int) (a : Int), (m = a ∨ m ∈ r) → a ≤ m → (∀ x ∈ r, x ≤ m) → r.foldl max a = m
  | [], a, h, _, _ => by rcases h with h | h; exact h.symm; cases h
  | x :: r, a, h, h1, h2 => by
    rw [List.foldl_cons]
    have hx := h2 x (by simp)
    refine foldl_max r (max a x) ?_ (by omega) fun y hy => h2 y (by simp [hy])
    rcases h with rfl | h
    · left; omega
    · rcases List.mem_cons.mp h with rfl | h
      · left; omega
      · exact .inr h
theorem uMin_of {l : List Nat} {m : Nat} (hm : m ∈ l) (hl : ∀ x ∈ l, m ≤ x) : uMin (l.map fun x : Nat => Q.int (x : Nat)) = some (.int (m : Nat)) := by
  unfold uMin
  rw [uI_nats]
  cases l with
  | nil => cases hm
  | cons a r =>
    simp only [List.map_cons, Option.bind_some, Sh.least, Option.map_some]
    rw [foldl_min (m := (m : Int))]
    · rcases List.mem_cons.mp hm with rfl | h
      · exact .inl rfl
      · exact .inr (List.mem_map.mpr ⟨m, h, rfl⟩)
    · have := hl a (by simp); omega
    · intro x hx
      obtain ⟨y, hy, rfl⟩ := List.mem_map.mp hx
      have := hl y (by simp [hy]); omega
theorem uMax_of {l : List Nat} {m : Nat} (hm : m ∈ l) (hl : ∀ x ∈ l, x ≤ m) : uMax (l.map fun x : Nat => Q.int (x : Nat)) = some (.int (m : Nat)) := by
  unfold uMax
  rw [uI_nats]
  cases l with
  | nil => cases hm
  | cons a r =>
    simp only [List.map_cons, Option.bind_some, Sh.greatest, Option.map_some]
    rw [foldl_max (m := (m : Int))]
    · rcases List.mem_cons.mp hm with rfl | h
      · exact .inl rfl
      · exact .inr (List.mem_map.mpr ⟨m, h, rfl⟩)
    · have := hl a (by simp); omega
    · intro x hx
      obtain ⟨y, hy, rfl⟩ := List.mem_map.mp hx
      have := hl y (by simp [hy]); omega
/-! ### the longest run -/
section
variable {n S : Nat} {T : Nat → Nat} {s : Sq}
theorem idx_nats {l : List Nat} {m j : Nat} {f g : EQ Q} {ρ : RhoQ} (h1 : f ρ s = okQ (.lst (l.map fun x : Nat => Q.int (x : Nat))) s) (h2 : g ρ s = okQ (.int (m : Nat)) s) (h3 : findEq (.int (m : Nat)) (l.map fun i : Nat => PyData.int (i : Nat)) 0 = some j) : qIdx f g ρ s = okQ (.int (j : Nat)) s := by
  unfold qIdx
  rw [h1]
  simp only [bindQ_ok, h2]
  rw [c_pyInts]
  have : pyQ 60 (.int (m : Nat)) = some (.int (m : Nat)) := rfl
  rw [this]
  simp only [h3]
theorem eqv_nat (a b : Nat) : PyData.eqv (.int (a : Nat)) (.int (b : Nat)) = decide (a = b) := by
  by_cases h : a = b
  · subst h; simp [PyData.eqv]
  · have : ¬ ((a : Int) = (b : Int)) := by omega
    simp [PyData.eqv, h, this]
theorem longest_ok (h : Th11 n S T) {f : Nat} (hf : f < n) (s : Sq) : p__longest_run [tr n T, .int (S : Nat), .int (f : Nat)] s = okQ (runQ T S n f) s := by
  obtain ⟨A, eA, hA⟩ := shut p__length_of (fun A => ∀ st s, -1 ≤ st ∧ st ≤ 1 → A [tr n T, .int (S : Nat), .int (f : Nat), .int st] s = okQ (.int (len T S n st f : Nat)) s) fun st s hst => length_ok h hf st hst s
  have a0 := tr_at (T := T) hf
  unfold p__longest_run r__longest_run
  rw [eA]
  apply WX.eq
  rw [wx_mOf]
  refine ⟨rfl, ?_⟩
  show WF (qSeq _ _ [some (tr n T), some (.int (S : Nat)), some (.int (f : Nat)), none, none, none] s) _
  rw [wf_seq]
  refine wf_setv (s1 := s) (v := .lst ([len T S n 1 f, len T S n (-1) f, len T S n 0 f].map fun x : Nat => Q.int (x : Nat))) ?_ ?_
  · have h1 := hA 1 s (by omega)
    have h2 := hA (-1) s (by omega)
    have h3 := hA 0 s (by omega)
    simp -implicitDefEqProofs [z_GdVals, qCompGo, h1, h2, h3]
  rw [thenF_nx, wf_seq]
  have hmem : cnt T S n f ∈ [len T S n 1 f, len T S n (-1) f, len T S n 0 f] := by
    simp only [List.mem_cons, List.not_mem_nil, or_false]
    unfold cnt; omega
  have hall : ∀ x ∈ [len T S n 1 f, len T S n (-1) f, len T S n 0 f], x ≤ cnt T S n f := by
    intro x hx
    simp only [List.mem_cons, List.not_mem_nil, or_false] at hx
    unfold cnt; omega
  have um := uMax_of hmem hall
  refine wf_setv (s1 := s) (v := .int (cnt T S n f : Nat)) ?_ ?_
  · have : uSeq uMax (.lst ([len T S n 1 f, len T S n (-1) f, len T S n 0 f].map fun x : Nat => Q.int (x : Nat))) = some (.int (cnt T S n f : Nat)) := um
    have e : qVar 3 ([some (tr n T), some (.int (S : Nat)), some (.int (f : Nat)), none, none, none].set 3 (some (.lst ([len T S n 1 f, len T S n (-1) f, len T S n 0 f].map fun x : Nat => Q.int (x : Nat))))) s = okQ (.lst ([len T S n 1 f, len T S n (-1) f, len T S n 0 f].map fun x : Nat => Q.int (x : Nat))) s := rfl
    rw [z_Call, z_Cons, e]
    simp only [bindQ_ok, z_Nil, u1L, this, liftQ_some]
  rw [thenF_nx]
  have key : ∃ j, findEq (.int (cnt T S n f : Nat)) ([len T S n 1 f, len T S n (-1) f, len T S n 0 f].map fun i : Nat => PyData.int (i : Nat)) 0 = some j ∧ atI [Q.str "up", Q.str "down", Q.str "same"] (j : Int) = some (.str (wdf T S n f)) := by
    simp only [List.map_cons, List.map_nil, findEq, eqv_nat, decide_eq_true_eq]
    unfold wdf
    by_cases e1 : len T S n 1 f = cnt T S n f
    · exact ⟨0, by rw [if_pos e1], by rw [if_pos e1]; rfl⟩
    · by_cases e2 : len T S n (-1) f = cnt T S n f
      · exact ⟨1, by rw [if_neg e1, if_pos e2], by rw [if_neg e1, if_pos e2]; rfl⟩
      · have e3 : len T S n 0 f = cnt T S n f := by
          simp only [List.mem_cons, List.not_mem_nil, or_false] at hmem
          omega
        exact ⟨2, by rw [if_neg e1, if_neg e2, if_pos e3], by rw [if_neg e1, if_neg e2]; rfl⟩
  obtain ⟨j, k1, k2⟩ := key
  refine c_ret (s1 := s) (v := runQ T S n f) ?_ ⟨rfl, rfl⟩
  show qTup _ [some (tr n T), some (.int (S : Nat)), some (.int (f : Nat)), some (.lst ([len T S n 1 f, len T S n (-1) f, len T S n 0 f].map fun x : Nat => Q.int (x : Nat))), some (.int (cnt T S n f : Nat)), none] s = _
  have ix := idx_nats (s := s) (f := qVar 3) (g := qVar 4) (ρ := [some (tr n T), some (.int (S : Nat)), some (.int (f : Nat)), some (.lst ([len T S n 1 f, len T S n (-1) f, len T S n 0 f].map fun x : Nat => Q.int (x : Nat))), some (.int (cnt T S n f : Nat)), none]) rfl rfl k1
  simp only [List.map_cons, List.map_nil] at ix
  simp -implicitDefEqProofs [a0, z_ListGd, ix, k2]
  rfl
end
end Dn

set_option Elab.async false
set_option linter.all false
set_option maxRecDepth 100000
set_option maxHeartbeats 4000000
set_option autoImplicit false
namespace Dn
open PySem L2 Sh
open R11 (wn wn_cast wn_lt wn_self wn_add Run IsLen len cnt E down)
/-! ### the runs, one after another -/
noncomputable def gy (T : Nat → Nat) (S n f : Nat) : List Nat := if h : f < n then f :: gy T S n (f + cnt T S n f) else []
termination_by n - f
decreasing_by
  have := R11.cnt_pos (T := T) (S := S) h
  omega
noncomputable def grQ (T : Nat → Nat) (S n f : Nat) : List Q := (gy T S n f).map (runQ T S n)
section
variable {n S : Nat} {T : Nat → Nat} {s : Sq}
theorem gy_lt {f : Nat} (h : f < n) : gy T S n f = f :: gy T S n (f + cnt T S n f) := by rw [gy, dif_pos h]
theorem gy_ge {f : Nat} (h : n ≤ f) : gy T S n f = [] := by rw [gy, dif_neg (by omega)]
theorem gy_len (d : Nat) : ∀ f, n - f = d → (gy T S n f).length ≤ n - f ∧ (gy T S n f).length = E T S n f := by
  induction d using Nat.strongRecOn with
  | ind d ih =>
    intro f hd
    by_cases h : f < n
    · have hc := R11.cnt_pos (T := T) (S := S) h
      have hl := R11.cnt_le (T := T) (S := S) h
      obtain ⟨h1, h2⟩ := ih (n - (f + cnt T S n f)) (by omega) _ rfl
      rw [gy_lt h, R11.E_greedy h, List.length_cons]
      omega
    · rw [gy_ge (by omega), R11.E_end (by omega)]
      simp
/-- the runs ahead of f -/
structure Got (T : Nat → Nat) (S n f : Nat) (xs : List Nat) : Prop where
  le : f ≤ n
  eq : xs ++ gy T S n f = gy T S n 0
  ln : xs.length ≤ f
theorem Got.zero : Got T S n 0 [] := ⟨by omega, rfl, by simp⟩
theorem Got.next {f : Nat} {xs : List Nat} (g : Got T S n f xs) (h : f < n) : Got T S n (f + cnt T S n f) (xs ++ [f]) := by
  have hc := R11.cnt_pos (T := T) (S := S) h
  refine ⟨R11.cnt_le h, ?_, by have := g.ln; simp; omega⟩
  rw [List.append_assoc, ← g.eq, gy_lt h]
  rfl
theorem Got.last {f : Nat} {xs : List Nat} (g : Got T S n f xs) (h : n ≤ f) : xs = gy T S n 0 := by
  have := g.eq
  rwa [gy_ge h, List.append_nil] at this
theorem at_m1 {α : Type} (xs : List α) (v : α) : atI (xs ++ [v]) (-1) = some v := L2.atI_last xs v
theorem fewest_ok (h : Th11 n S T) (s : Sq) : p_fewest_runs [tr n T, .int (S : Nat)] s = okQ (.tup (grQ T S n 0)) s := by
  obtain ⟨A, eA, hA⟩ := shut p__check_threading (fun A => ∀ s, A [tr n T, .int (S : Nat)] s = okQ .non s) fun s => check_threading_ok h s
  obtain ⟨B, eB, hB⟩ := shut p__longest_run (fun B => ∀ f s, f < n → B [tr n T, .int (S : Nat), .int (f : Nat)] s = okQ (runQ T S n f) s) fun f s hf => longest_ok h hf s
  have n2 := h.n2
  unfold p_fewest_runs r_fewest_runs
  rw [eA, eB]
  apply WX.eq
  rw [wx_mOf]
  refine ⟨rfl, ?_⟩
  show WF (qSeq _ _ [some (tr n T), some (.int (S : Nat)), none, none] s) _
  rw [wf_seq]
  refine ⟨.nx [some (tr n T), some (.int (S : Nat)), none, none], s, by simp -implicitDefEqProofs [hA], ?_⟩
  rw [thenF_nx, wf_seq]
  refine wf_setv (s1 := s) (v := .lst []) rfl ?_
  rw [thenF_nx, wf_seq]
  refine wf_setv (s1 := s) (v := .int ((0 : Nat) : Int)) rfl ?_
  rw [thenF_nx, wf_seq]
  show WF (qWhile _ _ [some (tr n T), some (.int (S : Nat)), some (.lst []), some (.int ((0 : Nat) : Int))] s) _
  refine wf_while (fun k ρ s' => s' = s ∧ ∃ f xs, Got T S n f xs ∧ ρ = [some (tr n T), some (.int (S : Nat)), some (.lst (xs.map (runQ T S n))), some (.int (f : Nat))] ∧ k = n - f) ?_ n ⟨rfl, 0, [], Got.zero, rfl, rfl⟩
  rintro k ρ s' ⟨rfl, f, xs, g, rfl, rfl⟩
  by_cases hf : f < n
  · right
    have hc := R11.cnt_pos (T := T) (S := S) hf
    refine ⟨s', by simp -implicitDefEqProofs [tr_len, hf], ?_⟩
    have lz : xs.length < 16777216 := by have := g.ln; omega
    rw [wf_seq]
    refine ⟨.nx [some (tr n T), some (.int (S : Nat)), some (.lst ((xs ++ [f]).map (runQ T S n))), some (.int (f : Nat))], s', ?_, ?_⟩
    · simp -implicitDefEqProofs [hB f _ hf, lz]
    rw [thenF_nx]
    have a1 : uIx (.lst ((xs ++ [f]).map (runQ T S n))) (.int (-1)) = some (runQ T S n f) := by
      have : atI (xs.map (runQ T S n) ++ [runQ T S n f]) (-1) = some (runQ T S n f) := at_m1 _ _
      simp [this]
    have a2 : uIx (runQ T S n f) (.int 2) = some (.int (cnt T S n f : Nat)) := rfl
    refine ⟨.nx [some (tr n T), some (.int (S : Nat)), some (.lst ((xs ++ [f]).map (runQ T S n))), some (.int ((f + cnt T S n f : Nat) : Int))], s', ?_, n - (f + cnt T S n f), by omega, rfl, _, _, g.next hf, rfl, rfl⟩
    have un : uNeg (.int 1) = some (.int (-1)) := rfl
    rw [z_Aug]
    simp -implicitDefEqProofs only [List.getElem?_cons_succ, List.getElem?_cons_zero, z_Bin, z_Un, z_Var, z_C, bindQ_ok, un, liftQ_some, a1, a2, u_gAdd, toSq_ok]
    rfl
  · left
    refine ⟨s', by simp -implicitDefEqProofs [tr_len, hf], ?_⟩
    rw [thenF_nx]
    refine c_ret (s1 := s') (v := .tup (grQ T S n 0)) ?_ ⟨rfl, rfl⟩
    have := g.last (by omega)
    simp -implicitDefEqProofs
    unfold grQ
    rw [← this]
/-! ### the table -/
def revV (d : Q) (s1 : Sq) : Rq (List Q) := match d with
  | .int j => if -(2 ^ 62) ≤ j ∧ j < 2 ^ 62 then okQ (qRevI 0 j.toNat) s1 else none
  | _ => none
theorem revV_int {k : Int} {s1 : Sq} (h : 0 ≤ k ∧ k ≤ 1000) : revV (.int k) s1 = okQ (qRevI 0 k.toNat) s1 := by
  have h1 : -(2 ^ 62) ≤ k ∧ k < 2 ^ 62 := ⟨by omega, by omega⟩
  simp only [revV, if_pos h1]
theorem revI_rg (n : Nat) : qRevI 0 n = rg n fun i => .int ((n - 1 - i : Nat) : Int) := by
  unfold qRevI rg
  refine List.map_congr_left fun i hi => ?_
  have := List.mem_range.mp hi
  simp only [Q.int.injEq]
  omega
theorem revJ : ∃ J : EQ Q → EQ (List Q), jRev1 = J ∧ ∀ (f : EQ Q) (ρ : RhoQ) (s : Sq) (n : Nat), n ≤ 1000 → f ρ s = okQ (.int (n : Nat)) s → J f ρ s = okQ (rg n fun i => .int ((n - 1 - i : Nat) : Int)) s := by
  refine ⟨jRev1, rfl, fun f ρ s n hn e => ?_⟩
  have e1 : jRev1 f ρ s = bindQ (f ρ s) revV := rfl
  rw [e1, e, bindQ_ok, revV_int ⟨by omega, by omega⟩, Int.toNat_natCast, revI_rg]
theorem c_cutM {α : Type} {n c : Nat} {f : Nat → α} (h1 : 1 ≤ c) (h2 : c ≤ n) : cutD (rg n f) (some (-(c : Int))) none = rg c fun j => f (n - c + j) := by
  have h0 : HT.sIx (rg n f).length 0 (some (-(c : Int))) = n - c := by
    unfold HT.sIx
    have : (-(c : Int)) < 0 := by omega
    simp only [this, if_true, rg_len]
    omega
  have h3 : HT.sIx (rg n f).length (rg n f).length none = n := by rw [HT.sIx_none, rg_len]
  unfold cutD
  rw [h0, h3, rg_drop, show n - (n - c) = c by omega, rg_take (Nat.le_refl _)]
theorem rg_rev11 {α : Type} {n : Nat} {f : Nat → α} : (rg n f).reverse = rg n fun i => f (n - 1 - i) := by
  apply List.ext_getElem?
  intro i
  by_cases h : i < n
  · rw [List.getElem?_reverse (by simpa using h), rg_len, rg_get (by omega), rg_get h]
  · rw [List.getElem?_eq_none (by simp; omega), List.getElem?_eq_none (by simp; omega)]
theorem down_min {F : Nat → Nat} {f c n : Nat} (hf : f + c ≤ n) (hc : 1 ≤ c) : uMin (rg c fun j => Q.int (F (n - (n - f - c + j)) : Nat)) = some (.int (down F f (c - 1) : Nat)) := by
  have e : (rg c fun j => Q.int (F (n - (n - f - c + j)) : Nat)) = (rg c fun j => F (n - (n - f - c + j))).map fun x : Nat => Q.int (x : Nat) := by rw [rg_map]
  rw [e]
  refine uMin_of ?_ ?_
  · obtain ⟨j, h1, h2⟩ := R11.down_ex F f (c - 1)
    rw [h2]
    refine List.mem_map.mpr ⟨c - 1 - j, List.mem_range.mpr (by omega), ?_⟩
    congr 1; omega
  · intro x hx
    obtain ⟨j, hj, rfl⟩ := List.mem_map.mp hx
    have := List.mem_range.mp hj
    have h2 := R11.down_le F f (c - 1) (c - 1 - j) (by omega)
    rw [show f + (c - 1 - j) + 1 = n - (n - f - c + j) by omega] at h2
    exact h2
theorem table_ok (h : Th11 n S T) (s : Sq) : p_run_table [tr n T, .int (S : Nat)] s = okQ (.tup (rg (n + 1) fun i => .int (E T S n i : Nat))) s := by
  obtain ⟨A, eA, hA⟩ := shut p__check_threading (fun A => ∀ s, A [tr n T, .int (S : Nat)] s = okQ .non s) fun s => check_threading_ok h s
  obtain ⟨B, eB, hB⟩ := shut p__longest_run (fun B => ∀ f s, f < n → B [tr n T, .int (S : Nat), .int (f : Nat)] s = okQ (runQ T S n f) s) fun f s hf => longest_ok h hf s
  have n2 := h.n2
  obtain ⟨J, hJ, jv⟩ := revJ
  unfold p_run_table r_run_table
  rw [eA, eB, hJ]
  apply WX.eq
  rw [wx_mOf]
  refine ⟨rfl, ?_⟩
  show WF (qSeq _ _ [some (tr n T), some (.int (S : Nat)), none, none, none] s) _
  rw [wf_seq]
  refine ⟨.nx [some (tr n T), some (.int (S : Nat)), none, none, none], s, by simp -implicitDefEqProofs [hA], ?_⟩
  rw [thenF_nx, wf_seq]
  refine wf_setv (s1 := s) (v := .lst [.int 0]) rfl ?_
  rw [thenF_nx, wf_seq]
  show WF (qFor _ _ _ [some (tr n T), some (.int (S : Nat)), some (.lst [.int 0]), none, none] s) _
  have e0 : J (qCall (u1L uLen) (qCons (qVar 0) qNil)) [some (tr n T), some (.int (S : Nat)), some (.lst [.int 0]), none, none] s = okQ (rg n fun i => .int ((n - 1 - i : Nat) : Int)) s := jv _ _ _ n (by omega) (by simp -implicitDefEqProofs [tr_len])
  have i0 : ([Q.int 0] : List Q) = rg (0 + 1) fun k => Q.int (E T S n (n - k) : Nat) := by
    simp [rg, R11.E_end]
  rw [z_For, e0, toSq_ok]
  refine wf_forI (fun done ρ s' => s' = s ∧ ∃ a b, ρ = [some (tr n T), some (.int (S : Nat)), some (.lst (rg (done.length + 1) fun k => .int (E T S n (n - k) : Nat))), a, b]) ?_ ⟨rfl, none, none, by rw [i0]; rfl⟩ ?_
  · rintro done x rest ρ s' he ⟨rfl, a, b, rfl⟩
    obtain ⟨rfl, hi⟩ := rg_split' he
    refine ⟨_, rfl, ?_⟩
    have hdl : (done ++ [Q.int ((n - 1 - done.length : Nat) : Int)]).length = done.length + 1 := by simp
    rw [hdl]
    generalize done.length = i at hi ⊢
    have hf : n - 1 - i < n := by omega
    show WF (qSeq _ _ [some (tr n T), some (.int (S : Nat)), some (.lst (rg (i + 1) fun k => .int (E T S n (n - k) : Nat))), some (.int ((n - 1 - i : Nat) : Int)), b] s') _
    rw [wf_seq]
    have a2 : uIx (runQ T S n (n - 1 - i)) (.int 2) = some (.int (cnt T S n (n - 1 - i) : Nat)) := rfl
    refine wf_setv (s1 := s') (v := .int (cnt T S n (n - 1 - i) : Nat)) (by simp -implicitDefEqProofs [hB _ _ hf, a2]) ?_
    rw [thenF_nx]
    have hc := R11.cnt_pos (T := T) (S := S) hf
    have hl := R11.cnt_le (T := T) (S := S) hf
    have ee : E T S n (n - (i + 1)) = 1 + down (E T S n) (n - 1 - i) (cnt T S n (n - 1 - i) - 1) := by
      rw [show n - (i + 1) = n - 1 - i by omega, R11.E_eq hf]
    generalize hcn : cnt T S n (n - 1 - i) = c at hc hl ee ⊢
    have cut : cutD (rg (i + 1) fun k => Q.int (E T S n (n - k) : Nat)) (some (-(c : Int))) none = rg c fun j => Q.int (E T S n (n - (n - (n - 1 - i) - c + j)) : Nat) := by
      rw [c_cutM hc (by omega), show n - (n - 1 - i) = i + 1 by omega]
    have um : uSeq uMin (.lst (rg c fun j => Q.int (E T S n (n - (n - (n - 1 - i) - c + j)) : Nat))) = some (.int (down (E T S n) (n - 1 - i) (c - 1) : Nat)) := down_min hl hc
    have ad : uAdd (.int 1) (.int (down (E T S n) (n - 1 - i) (c - 1) : Nat)) = some (.int (E T S n (n - (i + 1)) : Nat)) := by
      rw [ee]; simp
    have ap : (rg (i + 1) fun k => Q.int (E T S n (n - k) : Nat)) ++ [Q.int (E T S n (n - (i + 1)) : Nat)] = rg (i + 1 + 1) fun k => .int (E T S n (n - k) : Nat) := rg_succ
    have ng : uNeg (.int (c : Nat)) = some (.int (-(c : Int))) := rfl
    have lz : i + 1 < 16777216 := by omega
    refine ⟨.nx [some (tr n T), some (.int (S : Nat)), some (.lst (rg (i + 1 + 1) fun k => .int (E T S n (n - k) : Nat))), some (.int ((n - 1 - i : Nat) : Int)), some (.int (c : Nat))], s', ?_, rfl, _, _, rfl⟩
    simp -implicitDefEqProofs [ng, cut, um, ad, lz, -uAdd_int, ap]
  · rintro ρ s' ⟨rfl, a, b, rfl⟩
    rw [thenF_nx]
    refine c_ret (s1 := s') (v := .tup (rg (n + 1) fun i => .int (E T S n i : Nat))) ?_ ⟨rfl, rfl⟩
    have rv : (rg (n + 1) fun k => Q.int (E T S n (n - k) : Nat)).reverse = rg (n + 1) fun i => .int (E T S n i : Nat) := by
      rw [rg_rev11]
      refine rg_congr fun i hi => ?_
      rw [show n - (n + 1 - 1 - i) = i by omega]
    simp -implicitDefEqProofs [rv]
end
end Dn

set_option Elab.async false
set_option linter.all false
set_option maxRecDepth 100000
set_option maxHeartbeats 4000000
set_option autoImplicit false
namespace Dn
open PySem L2 Sh
open R11 (wn wn_cast wn_lt wn_self wn_add Run IsLen len cnt E down)
/-! ### the three words -/
inductive Wd11 : Str → Int → Prop
  | up : Wd11 "up" 1
  | down : Wd11 "down" (-1)
  | same : Wd11 "same" 0
theorem step_up (s : Sq) : p__law_step_k11 [.str "up"] s = okQ (.int 1) s := by kernel_rfl
theorem step_down (s : Sq) : p__law_step_k11 [.str "down"] s = okQ (.int (-1)) s := by kernel_rfl
theorem step_same (s : Sq) : p__law_step_k11 [.str "same"] s = okQ (.int 0) s := by kernel_rfl
theorem law_step_ok {w : Str} {st : Int} (h : Wd11 w st) (s : Sq) : p__law_step_k11 [.str w] s = okQ (.int st) s := by
  cases h
  · exact step_up s
  · exact step_down s
  · exact step_same s
theorem Wd11.st {w : Str} {st : Int} (h : Wd11 w st) : -1 ≤ st ∧ st ≤ 1 := by cases h <;> omega
theorem nil_eq {xs : List Q} {ds : List PyData} (h : pyQ 60 (.lst xs) = some (.list ds)) (hl : ds.length = xs.length) : uEq (.lst xs) (.lst []) = some (.bl (decide (xs = []))) ∧ uNe (.lst xs) (.lst []) = some (.bl (decide (xs ≠ []))) := by
  have e0 : pyQ 60 (.lst []) = some (.list []) := rfl
  have e1 : uEq (.lst xs) (.lst []) = (eqQ (.lst xs) (.lst [])).map .bl := rfl
  have e2 : uNe (.lst xs) (.lst []) = (eqQ (.lst xs) (.lst [])).map fun z => .bl (!z) := rfl
  rw [e1, e2]
  unfold eqQ
  rw [h, e0]
  cases xs with
  | nil =>
    have : ds = [] := List.length_eq_zero_iff.mp hl
    subst this
    exact ⟨rfl, rfl⟩
  | cons x xs =>
    cases ds with
    | nil => simp at hl
    | cons d ds => exact ⟨rfl, rfl⟩
theorem nil_nats (l : List Nat) : uEq (.lst (l.map fun i : Nat => Q.int (i : Nat))) (.lst []) = some (.bl (decide (l = []))) ∧ uNe (.lst (l.map fun i : Nat => Q.int (i : Nat))) (.lst []) = some (.bl (decide (l ≠ []))) := by
  have := nil_eq (xs := l.map fun i : Nat => Q.int (i : Nat)) c_pyInts (by simp)
  simpa using this
theorem ne_nn11 (a b : Nat) : uNe (.int (a : Nat)) (.int (b : Nat)) = some (.bl (decide (a ≠ b))) := by
  by_cases h : a = b
  · subst h; simp
  · have h2 : ¬ ((a : Int) = (b : Int)) := by omega
    simp [h, h2]
theorem filter_nil {n : Nat} {b : Nat → Bool} : (List.range n).filter b = [] ↔ ∀ k, k < n → b k = false := by
  rw [List.filter_eq_nil_iff]
  constructor
  · intro h k hk
    simpa using h k (List.mem_range.mpr hk)
  · intro h k hk
    simpa using h k (List.mem_range.mp hk)
theorem law_is_run_ok {m S : Nat} {U : Nat → Nat} {w : Str} {st : Int} (hm : 1 ≤ m ∧ m ≤ 24) (hS : 1 ≤ S) (hw : Wd11 w st) (s : Sq) : ∃ b : Bool, p__law_is_run [tr m U, .str w, .int (S : Nat)] s = okQ (.bl b) s ∧ (b = true ↔ Run U S st 0 m) := by
  obtain ⟨A, eA, hA⟩ := shut p__law_step_k11 (fun A => ∀ s, A [.str w] s = okQ (.int st) s) fun s => law_step_ok hw s
  obtain ⟨J, R, hJ, j1, j2, j3⟩ := r1x
  have hS0 : (S : Int) ≠ 0 := by omega
  obtain ⟨bb, hbb⟩ : ∃ b : Bool, b = decide ((List.range (m - 1)).filter (fun k => decide (wn ((U k : Nat) + st) S ≠ U (k + 1))) = []) := ⟨_, rfl⟩
  refine ⟨bb, ?_, ?_⟩
  · unfold p__law_is_run r__law_is_run
    rw [eA, hJ]
    have sb : uI2 gSub (.int (m : Nat)) (.int 1) = some (.int ((m - 1 : Nat) : Int)) := by
      show some (Q.int ((m : Int) - 1)) = _
      congr 2; omega
    have e2 := (nil_nats ((List.range (m - 1)).filter (fun k => decide (wn ((U k : Nat) + st) S ≠ U (k + 1))))).1
    rw [← hbb] at e2
    have lm : m - 1 ≤ 16777216 := by omega
    simp -implicitDefEqProofs [z_mOf, tr_len, sb, j1, j2 (m - 1) _ (by omega), lm]
    rw [comp_rgf (fun k => decide (wn ((U k : Nat) + st) S ≠ U (k + 1))) (fun i => Q.int (i : Nat))]
    · simp -implicitDefEqProofs only [bindQ_ok, e2, liftQ_some, toSq_ok]
    · intro i hi
      refine ⟨_, rfl, fun s => ?_⟩
      have a0 := tr_at (T := U) (show i < m by omega)
      have a1 := tr_at (T := U) (show i + 1 < m by omega)
      have ad : uAdd (.int (i : Nat)) (.int 1) = some (.int ((i + 1 : Nat) : Int)) := by simp
      have ad2 : uAdd (.int (U i : Nat)) (.int st) = some (.int ((U i : Int) + st)) := rfl
      have m1 : uI2 gMod (.int ((U i : Int) + st)) (.int (S : Nat)) = some (.int ((wn ((U i : Nat) + st) S : Nat) : Int)) := by rw [u_mod hS0, fmod_wn hS]
      have n1 := ne_nn11 (wn ((U i : Nat) + st) S) (U (i + 1))
      constructor
      · simp -implicitDefEqProofs [a0, a1, ad, ad2, hA, m1, n1, -Int.natCast_add, -uAdd_int]
      · intro _
        simp -implicitDefEqProofs
  · rw [hbb, decide_eq_true_eq, filter_nil]
    constructor
    · intro h k hk
      have := h k (by omega)
      simp only [decide_eq_false_iff_not, ne_eq, Classical.not_not] at this
      rw [Nat.zero_add]; exact this
    · intro h k hk
      have := h k (by omega)
      rw [Nat.zero_add] at this
      simp only [decide_eq_false_iff_not, ne_eq, Classical.not_not]
      exact this
end Dn

set_option Elab.async false
set_option linter.all false
set_option maxRecDepth 100000
set_option maxHeartbeats 4000000
set_option autoImplicit false
namespace Dn
open PySem L2 Sh
open R11 (wn wn_cast wn_lt wn_self wn_add Run IsLen len cnt E down)
theorem run_shift {T : Nat → Nat} {S f m : Nat} {st : Int} : Run (fun k => T (f + k)) S st 0 m ↔ Run T S st f m := by
  unfold R11.Run
  constructor
  · intro h k hk
    have := h k hk
    simp only [Nat.zero_add] at this
    rw [Nat.add_assoc]; exact this
  · intro h k hk
    have := h k hk
    simp only [Nat.zero_add]
    rw [Nat.add_assoc] at this; exact this
section
variable {n S : Nat} {T : Nat → Nat} {s : Sq}
/-- a part of a threading -/
def IR (S : Nat) (A : QM) : Prop := ∀ (m : Nat) (U : Nat → Nat) (w : Str) (st : Int) (s : Sq), 1 ≤ m ∧ m ≤ 24 → Wd11 w st → ∃ b : Bool, A [tr m U, .str w, .int (S : Nat)] s = okQ (.bl b) s ∧ (b = true ↔ Run U S st 0 m)
theorem iR (hS : 1 ≤ S) : IR S p__law_is_run := fun m U w st s hm hw => law_is_run_ok hm hS hw s
theorem tr_cut {a h : Nat} (hn : a + h ≤ n) : cutD (rg n fun i => Q.int (T i : Nat)) (some (a : Int)) (some ((a + h : Nat) : Int)) = rg h fun i => .int (T (a + i) : Nat) := c_cut hn
noncomputable def fewB (A : QM) : SFq := qSeq (qSet (qC (.int 1)) 6)
    (qSeq (qWhile (qAndF (qT (qBin (uI2 gLt) (qBin uAdd (qVar 3) (qVar 6)) (qCall (u1L uLen) (qCons (qVar 0) qNil)))) (qTru (qApp 3 A (qCons (qSl (qVar 0) (qoS (qVar 3)) (qoS (qBin uAdd (qBin uAdd (qVar 3) (qVar 6)) (qC (.int 1))))) (qCons (qVar 5) (qCons (qVar 1) qNil)))))) (qSet (qBin uAdd (qVar 6) (qC (.int 1))) 6))
    (qIfS (qT (qBin (uI2 gGt) (qVar 6) (qBin uIx (qVar 4) (qC (.int 0))))) (qSet (qTup (qCons (qVar 6) (qCons (qVar 5) qNil))) 4) qNilS))
theorem fewB_ok {A : QM} (hA : IR S A) (h : Th11 n S T) {f : Nat} (hf : f < n) {w : Str} {st : Int} (hw : Wd11 w st) (x : Option Q) (b : Nat) (bw : Str) (y : Option Q) (s : Sq) :
    fewB A [some (tr n T), some (.int (S : Nat)), x, some (.int (f : Nat)), some (.tup [.int (b : Nat), .str bw]), some (.str w), y] s = some (.nx [some (tr n T), some (.int (S : Nat)), x, some (.int (f : Nat)), some (.tup [.int ((if b < len T S n st f then len T S n st f else b : Nat) : Int), .str (if b < len T S n st f then w else bw)]), some (.str w), some (.int (len T S n st f : Nat))], s) := by
  have L := R11.len_is (T := T) (S := S) (st := st) hf
  have n2 := h.n2
  have hle := L.le
  suffices key : WF (fewB A [some (tr n T), some (.int (S : Nat)), x, some (.int (f : Nat)), some (.tup [.int (b : Nat), .str bw]), some (.str w), y] s) fun fl s' => fl = .nx [some (tr n T), some (.int (S : Nat)), x, some (.int (f : Nat)), some (.tup [.int ((if b < len T S n st f then len T S n st f else b : Nat) : Int), .str (if b < len T S n st f then w else bw)]), some (.str w), some (.int (len T S n st f : Nat))] ∧ s' = s by
    obtain ⟨fl, s', e, rfl, rfl⟩ := key
    exact e
  unfold fewB
  rw [wf_seq]
  refine wf_setv (s1 := s) (v := .int ((1 : Nat) : Int)) rfl ?_
  rw [thenF_nx, wf_seq]
  show WF (qWhile _ _ [some (tr n T), some (.int (S : Nat)), x, some (.int (f : Nat)), some (.tup [.int (b : Nat), .str bw]), some (.str w), some (.int ((1 : Nat) : Int))] s) _
  refine wf_while (fun k ρ s' => s' = s ∧ ∃ c : Nat, ρ = [some (tr n T), some (.int (S : Nat)), x, some (.int (f : Nat)), some (.tup [.int (b : Nat), .str bw]), some (.str w), some (.int (c : Nat))] ∧ 1 ≤ c ∧ c ≤ len T S n st f ∧ k = len T S n st f - c) ?_ (len T S n st f - 1) ⟨rfl, 1, rfl, Nat.le_refl _, L.pos, rfl⟩
  rintro k ρ s' ⟨rfl, c, rfl, hc1, hc2, rfl⟩
  have ad : uAdd (.int (f : Nat)) (.int (c : Nat)) = some (.int ((f + c : Nat) : Int)) := by simp
  have a1 : uAdd (.int ((f + c : Nat) : Int)) (.int 1) = some (.int ((f + (c + 1) : Nat) : Int)) := by simp; omega
  have fin : c = len T S n st f → WF (qIfS (qT (qBin (uI2 gGt) (qVar 6) (qBin uIx (qVar 4) (qC (.int 0))))) (qSet (qTup (qCons (qVar 6) (qCons (qVar 5) qNil))) 4) qNilS [some (tr n T), some (.int (S : Nat)), x, some (.int (f : Nat)), some (.tup [.int (b : Nat), .str bw]), some (.str w), some (.int (c : Nat))] s') fun fl s2 => fl = .nx [some (tr n T), some (.int (S : Nat)), x, some (.int (f : Nat)), some (.tup [.int ((if b < len T S n st f then len T S n st f else b : Nat) : Int), .str (if b < len T S n st f then w else bw)]), some (.str w), some (.int (len T S n st f : Nat))] ∧ s2 = s' := by
    intro hcl
    rw [← hcl]
    by_cases hb : b < c
    · refine wf_ifT (s1 := s') (by simp -implicitDefEqProofs [hb]) (wf_setv (s1 := s') (v := .tup [.int (c : Nat), .str w]) rfl ?_)
      rw [if_pos hb, if_pos hb]
      exact ⟨rfl, rfl⟩
    · refine wf_ifF (s1 := s') (by simp -implicitDefEqProofs [hb]) ?_
      rw [if_neg hb, if_neg hb]
      exact ⟨rfl, rfl⟩
  by_cases hfc : f + c < n
  · obtain ⟨bb, e1, hb⟩ := hA (c + 1) (fun k => T (f + k)) w st s' (by omega) hw
    have ct : cutD (rg n fun i => Q.int (T i : Nat)) (some (f : Int)) (some ((f + (c + 1) : Nat) : Int)) = rg (c + 1) fun i => .int (T (f + i) : Nat) := tr_cut (by omega)
    have e1' : A [.tup (rg (c + 1) fun i => Q.int (T (f + i) : Nat)), .str w, .int (S : Nat)] s' = okQ (.bl bb) s' := e1
    rw [run_shift, L.iff (by omega)] at hb
    have tl := tr_len (n := n) (T := T)
    unfold tr at tl
    have hlt : uI2 gLt (.int ((f + c : Nat) : Int)) (.int (n : Nat)) = some (.bl true) := by
      have : ((f + c : Nat) : Int) < (n : Int) := by omega
      simp [this]
      omega
    cases bb with
    | true =>
      right
      have := hb.mp rfl
      refine ⟨s', ?_, ?_⟩
      · unfold tr
        simp -implicitDefEqProofs [tl, ad, a1, hlt, ct, e1', -Int.natCast_add, -uAdd_int]
      · exact ⟨.nx [some (tr n T), some (.int (S : Nat)), x, some (.int (f : Nat)), some (.tup [.int (b : Nat), .str bw]), some (.str w), some (.int ((c + 1 : Nat) : Int))], s', by simp -implicitDefEqProofs, len T S n st f - (c + 1), by omega, rfl, c + 1, rfl, by omega, by omega, rfl⟩
    | false =>
      left
      have hcl : c = len T S n st f := by
        apply Classical.byContradiction
        intro hn
        have := hb.mpr (by omega)
        cases this
      refine ⟨s', ?_, ?_⟩
      · unfold tr
        simp -implicitDefEqProofs [tl, ad, a1, hlt, ct, e1', -Int.natCast_add, -uAdd_int]
      · rw [thenF_nx]
        exact fin hcl
  · left
    have hcl : c = len T S n st f := by omega
    have hlt : uI2 gLt (.int ((f + c : Nat) : Int)) (.int (n : Nat)) = some (.bl false) := by
      have : ¬ ((f + c : Nat) : Int) < (n : Int) := by omega
      simp [this]
      omega
    refine ⟨s', by simp -implicitDefEqProofs [tr_len, ad, hlt, -Int.natCast_add, -uAdd_int], ?_⟩
    rw [thenF_nx]
    exact fin hcl
theorem few3 {A : QM} (hA : IR S A) (h : Th11 n S T) {f : Nat} (hf : f < n) (x y z : Option Q) (s : Sq) :
    qFor (qLst (qCons (qC (.str "up")) (qCons (qC (.str "down")) (qCons (qC (.str "same")) qNil)))) (uN 5) (fewB A) [some (tr n T), some (.int (S : Nat)), x, some (.int (f : Nat)), some (.tup [.int 0, .str ""]), y, z] s = some (.nx [some (tr n T), some (.int (S : Nat)), x, some (.int (f : Nat)), some (.tup [.int (cnt T S n f : Nat), .str (wdf T S n f)]), some (.str "same"), some (.int (len T S n 0 f : Nat))], s) := by
  have e : qLst (qCons (qC (.str "up")) (qCons (qC (.str "down")) (qCons (qC (.str "same")) qNil))) [some (tr n T), some (.int (S : Nat)), x, some (.int (f : Nat)), some (.tup [.int 0, .str ""]), y, z] s = okQ [.str "up", .str "down", .str "same"] s := rfl
  have g1 : uN 5 (.str "up") [some (tr n T), some (.int (S : Nat)), x, some (.int (f : Nat)), some (.tup [.int ((0 : Nat) : Int), .str ""]), y, z] = some [some (tr n T), some (.int (S : Nat)), x, some (.int (f : Nat)), some (.tup [.int ((0 : Nat) : Int), .str ""]), some (.str "up"), z] := rfl
  have g2 : ∀ (b : Nat) bw y z, uN 5 (.str "down") [some (tr n T), some (.int (S : Nat)), x, some (.int (f : Nat)), some (.tup [.int (b : Nat), .str bw]), y, z] = some [some (tr n T), some (.int (S : Nat)), x, some (.int (f : Nat)), some (.tup [.int (b : Nat), .str bw]), some (.str "down"), z] := fun _ _ _ _ => rfl
  have g3 : ∀ (b : Nat) bw y z, uN 5 (.str "same") [some (tr n T), some (.int (S : Nat)), x, some (.int (f : Nat)), some (.tup [.int (b : Nat), .str bw]), y, z] = some [some (tr n T), some (.int (S : Nat)), x, some (.int (f : Nat)), some (.tup [.int (b : Nat), .str bw]), some (.str "same"), z] := fun _ _ _ _ => rfl
  have l1 := (R11.len_is (T := T) (S := S) (st := 1) hf).pos
  have l2 := (R11.len_is (T := T) (S := S) (st := -1) hf).pos
  have l3 := (R11.len_is (T := T) (S := S) (st := 0) hf).pos
  rw [z_For, e, toSq_ok]
  show qForGo (uN 5) (fewB A) [.str "up", .str "down", .str "same"] [some (tr n T), some (.int (S : Nat)), x, some (.int (f : Nat)), some (.tup [.int ((0 : Nat) : Int), .str ""]), y, z] s = _
  rw [z_ForGo, g1]
  simp only []
  rw [fewB_ok hA h hf .up]
  simp only []
  rw [z_ForGo, g2]
  simp only []
  rw [fewB_ok hA h hf .down]
  simp only []
  rw [z_ForGo, g3]
  simp only []
  rw [fewB_ok hA h hf .same]
  simp only [z_ForGo0]
  have c0 : (0 : Nat) < len T S n 1 f := by omega
  simp only [if_pos c0]
  unfold wdf cnt
  generalize len T S n 1 f = a at l1 ⊢
  generalize len T S n (-1) f = b at l2 ⊢
  generalize len T S n 0 f = c at l3 ⊢
  by_cases h1 : a < b
  · simp only [if_pos h1]
    by_cases h2 : b < c
    · simp only [if_pos h2]
      rw [show max (max a b) c = c by omega, if_neg (by omega), if_neg (by omega)]
    · simp only [if_neg h2]
      rw [show max (max a b) c = b by omega, if_neg (by omega), if_pos rfl]
  · simp only [if_neg h1]
    by_cases h2 : a < c
    · simp only [if_pos h2]
      rw [show max (max a b) c = c by omega, if_neg (by omega), if_neg (by omega)]
    · simp only [if_neg h2]
      rw [show max (max a b) c = a by omega, if_pos rfl]
theorem law_fewest_ok (h : Th11 n S T) (s : Sq) : p__law_fewest [tr n T, .int (S : Nat)] s = okQ (.tup (grQ T S n 0)) s := by
  obtain ⟨A, eA, hA⟩ := shut p__law_is_run (IR S) (iR h.s1)
  have n2 := h.n2
  unfold p__law_fewest r__law_fewest
  rw [eA]
  apply WX.eq
  rw [wx_mOf]
  refine ⟨rfl, ?_⟩
  show WF (qSeq _ _ [some (tr n T), some (.int (S : Nat)), none, none, none, none, none] s) _
  rw [wf_seq]
  refine wf_setv (s1 := s) (v := .lst []) rfl ?_
  rw [thenF_nx, wf_seq]
  refine wf_setv (s1 := s) (v := .int ((0 : Nat) : Int)) rfl ?_
  rw [thenF_nx, wf_seq]
  show WF (qWhile _ _ [some (tr n T), some (.int (S : Nat)), some (.lst []), some (.int ((0 : Nat) : Int)), none, none, none] s) _
  refine wf_while (fun k ρ s' => s' = s ∧ ∃ f xs a b c, Got T S n f xs ∧ ρ = [some (tr n T), some (.int (S : Nat)), some (.lst (xs.map (runQ T S n))), some (.int (f : Nat)), a, b, c] ∧ k = n - f) ?_ n ⟨rfl, 0, [], _, _, _, Got.zero, rfl, rfl⟩
  rintro k ρ s' ⟨rfl, f, xs, a, b, c, g, rfl, rfl⟩
  by_cases hf : f < n
  · right
    have hc := R11.cnt_pos (T := T) (S := S) hf
    refine ⟨s', by simp -implicitDefEqProofs [tr_len, hf], ?_⟩
    have lz : xs.length < 16777216 := by have := g.ln; omega
    rw [wf_seq]
    refine wf_setv (s1 := s') (v := .tup [.int 0, .str ""]) rfl ?_
    rw [thenF_nx, wf_seq]
    refine ⟨_, s', few3 hA h hf _ _ _ s', ?_⟩
    rw [thenF_nx, wf_seq]
    have a0 := tr_at (T := T) hf
    have a1 : uIx (.tup [.int (cnt T S n f : Nat), .str (wdf T S n f)]) (.int 0) = some (.int (cnt T S n f : Nat)) := rfl
    have a2 : uIx (.tup [.int (cnt T S n f : Nat), .str (wdf T S n f)]) (.int 1) = some (.str (wdf T S n f)) := rfl
    have ad : uAdd (.int (f : Nat)) (.int (cnt T S n f : Nat)) = some (.int ((f + cnt T S n f : Nat) : Int)) := by simp
    refine ⟨.nx [some (tr n T), some (.int (S : Nat)), some (.lst ((xs ++ [f]).map (runQ T S n))), some (.int (f : Nat)), some (.tup [.int (cnt T S n f : Nat), .str (wdf T S n f)]), some (.str "same"), some (.int (len T S n 0 f : Nat))], s', ?_, ?_⟩
    · simp -implicitDefEqProofs [a0, a1, a2, lz]
      rfl
    rw [thenF_nx]
    refine wf_setv (s1 := s') (v := .int ((f + cnt T S n f : Nat) : Int)) ?_ ?_
    · simp -implicitDefEqProofs [a1, ad, -uAdd_int, -Int.natCast_add]
    exact ⟨n - (f + cnt T S n f), by omega, rfl, _, _, _, _, _, g.next hf, rfl, rfl⟩
  · left
    refine ⟨s', by simp -implicitDefEqProofs [tr_len, hf], ?_⟩
    rw [thenF_nx]
    refine c_ret (s1 := s') (v := .tup (grQ T S n 0)) ?_ ⟨rfl, rfl⟩
    have := g.last (by omega)
    simp -implicitDefEqProofs
    unfold grQ
    rw [← this]
end
end Dn

set_option Elab.async false
set_option linter.all false
set_option maxRecDepth 100000
set_option maxHeartbeats 4000000
set_option autoImplicit false
namespace Dn
open PySem L2 Sh
open R11 (wn wn_cast wn_lt wn_self wn_add Run IsLen len cnt E down Any)
theorem rgOk_down : ((List.range 25).all fun n => n == 0 || (rgOk ((n : Int) - 1) (-1) (-1) && rgN ((n : Int) - 1) (-1) (-1) == n)) = true := by decide +kernel
theorem r3down : ∃ J : EQ (List Q) → EQ (List Q), jR3 = J ∧ ∀ (f g k : EQ Q) (ρ : RhoQ) (s : Sq) (n : Nat), 1 ≤ n → n ≤ 24 → f ρ s = okQ (.int ((n : Int) - 1)) s → g ρ s = okQ (.int (-1)) s → k ρ s = okQ (.int (-1)) s → J (qCons f (qCons g (qCons k qNil))) ρ s = okQ (rg n fun i => .int ((n - 1 - i : Nat) : Int)) s := by
  refine ⟨jR3, rfl, fun f g k ρ s n h1 hn e1 e2 e3 => ?_⟩
  have := List.all_eq_true.mp rgOk_down n (List.mem_range.mpr (by omega))
  simp only [Bool.or_eq_true, Bool.and_eq_true, beq_iff_eq] at this
  obtain ⟨o1, o2⟩ : rgOk ((n : Int) - 1) (-1) (-1) = true ∧ rgN ((n : Int) - 1) (-1) (-1) = n := by
    rcases this with h | h
    · omega
    · exact h
  unfold jR3
  simp only [z_Cons, z_Nil, e1, e2, e3, bindQ_ok, r3q]
  rw [if_pos o1, o2]
  congr 1
  unfold qStepI rg
  refine List.map_congr_left fun i hi => ?_
  have := List.mem_range.mp hi
  simp only [Q.int.injEq]
  omega
section
variable {n S : Nat} {T : Nat → Nat} {s : Sq}
theorem uEq_nilS (l : List Str) (h : ∀ y ∈ l, okStr y = true) : uNe (.lst (l.map Q.str)) (.lst []) = some (.bl (decide (l ≠ []))) := by
  have e2 : pyQ 60 (.lst (l.map Q.str)) = some (.list (l.map PyData.str)) := by
    show ((l.map Q.str).mapM (pyQ 59)).map PyData.list = _
    rw [show (l.map Q.str).mapM (pyQ 59) = some (l.map PyData.str) from by
      induction l with
      | nil => rfl
      | cons y l ih =>
        have e : pyQ 59 (.str y) = some (.str y) := pyQ_up (k := 0) (by omega) (nice_str (k := 0) (h y List.mem_cons_self)).rd
        rw [List.map_cons, List.mapM_cons, e, ih fun z hz => h z (List.mem_cons_of_mem _ hz)]
        rfl]
    rfl
  have := (nil_eq e2 (by simp)).2
  simpa using this
def wl (b1 b2 b3 : Bool) : List Str := (if b1 then [Str.ofString "up"] else []) ++ (if b2 then [Str.ofString "down"] else []) ++ (if b3 then [Str.ofString "same"] else [])
noncomputable def wdsE (A : QM) : EQ Q := qAl (qComp (qLst (qCons (qC (.str "up")) (qCons (qC (.str "down")) (qCons (qC (.str "same")) qNil)))) [7] (uN 7) (qTru (qApp 3 A (qCons (qVar 6) (qCons (qVar 7) (qCons (qVar 1) qNil))))) (qVar 7))
theorem wds_ok {A : QM} (hA : IR S A) {x0 x2 x3 x4 x5 x7 : Option Q} {m : Nat} {U : Nat → Nat} (hm : 1 ≤ m ∧ m ≤ 24) (s : Sq) : ∃ b : Bool, qT (qBin uNe (wdsE A) (qAl (qLst qNil))) [x0, some (.int (S : Nat)), x2, x3, x4, x5, some (tr m U), x7] s = okQ b s ∧ (b = true ↔ Any U S 0 m) := by
  obtain ⟨b1, e1, h1⟩ : ∃ b : Bool, (∀ s, A [tr m U, .str "up", .int (S : Nat)] s = okQ (.bl b) s) ∧ (b = true ↔ Run U S 1 0 m) := by
    obtain ⟨b, e, h⟩ := hA m U "up" 1 s hm .up
    refine ⟨b, fun s => ?_, h⟩
    obtain ⟨b', e', h'⟩ := hA m U "up" 1 s hm .up
    rw [e', show b' = b from Bool.eq_iff_iff.mpr (h'.trans h.symm)]
  obtain ⟨b2, e2, h2⟩ : ∃ b : Bool, (∀ s, A [tr m U, .str "down", .int (S : Nat)] s = okQ (.bl b) s) ∧ (b = true ↔ Run U S (-1) 0 m) := by
    obtain ⟨b, e, h⟩ := hA m U "down" (-1) s hm .down
    refine ⟨b, fun s => ?_, h⟩
    obtain ⟨b', e', h'⟩ := hA m U "down" (-1) s hm .down
    rw [e', show b' = b from Bool.eq_iff_iff.mpr (h'.trans h.symm)]
  obtain ⟨b3, e3, h3⟩ : ∃ b : Bool, (∀ s, A [tr m U, .str "same", .int (S : Nat)] s = okQ (.bl b) s) ∧ (b = true ↔ Run U S 0 0 m) := by
    obtain ⟨b, e, h⟩ := hA m U "same" 0 s hm .same
    refine ⟨b, fun s => ?_, h⟩
    obtain ⟨b', e', h'⟩ := hA m U "same" 0 s hm .same
    rw [e', show b' = b from Bool.eq_iff_iff.mpr (h'.trans h.symm)]
  refine ⟨b1 || b2 || b3, ?_, ?_⟩
  · have k1 : okStr "up" = true := by decide +kernel
    have k2 : okStr "down" = true := by decide +kernel
    have k3 : okStr "same" = true := by decide +kernel
    have es : wdsE A [x0, some (.int (S : Nat)), x2, x3, x4, x5, some (tr m U), x7] s = okQ (.lst ((wl b1 b2 b3).map Q.str)) s := by
      unfold wdsE
      cases b1 <;> cases b2 <;> cases b3 <;> simp -implicitDefEqProofs [qCompGo, e1, e2, e3, wl]
    have ne := uEq_nilS (wl b1 b2 b3) (by cases b1 <;> cases b2 <;> cases b3 <;> simp [k1, k2, k3, wl])
    have nn : qAl (qLst qNil) [x0, some (.int (S : Nat)), x2, x3, x4, x5, some (tr m U), x7] s = okQ (.lst []) s := rfl
    rw [z_T, z_Bin, es]
    simp -implicitDefEqProofs only [bindQ_ok, nn, ne, liftQ_some]
    cases b1 <;> cases b2 <;> cases b3 <;> rfl
  · unfold Any
    rw [← h1, ← h2, ← h3]
    cases b1 <;> cases b2 <;> cases b3 <;> simp
noncomputable def tabB (A : QM) : SFq := qSeq (qSet (qSl (qVar 0) (qoS (qVar 3)) (qoS (qBin uAdd (qVar 3) (qVar 5)))) 6)
    (qIfS (qT (qBin uNe (wdsE A) (qAl (qLst qNil)))) (qApd 4 (qBin uIx (qVar 2) (qBin (uI2 gSub) (qVar 5) (qC (.int 1))))) qNilS)
/-- the table from f on -/
noncomputable def tbQ (T : Nat → Nat) (S n f : Nat) : Q := .lst (rg (n - f + 1) fun k => .int (E T S n (f + k) : Nat))
theorem tabB_ok {A : QM} (hA : IR S A) (h : Th11 n S T) {f : Nat} (hf : f < n) {k : Nat} (hk : f + k < n) (x y : Option Q) (s : Sq) :
    ∃ x' y', tabB A [some (tr n T), some (.int (S : Nat)), some (tbQ T S n (f + 1)), some (.int (f : Nat)), some (.lst (rg (min k (cnt T S n f)) fun j => .int (E T S n (f + 1 + j) : Nat))), some (.int ((1 + k : Nat) : Int)), x, y] s = some (.nx [some (tr n T), some (.int (S : Nat)), some (tbQ T S n (f + 1)), some (.int (f : Nat)), some (.lst (rg (min (k + 1) (cnt T S n f)) fun j => .int (E T S n (f + 1 + j) : Nat))), some (.int ((1 + k : Nat) : Int)), x', y'], s) := by
  have n2 := h.n2
  obtain ⟨bb, e1, hb⟩ := wds_ok hA (x0 := some (tr n T)) (x2 := some (tbQ T S n (f + 1))) (x3 := some (.int (f : Nat))) (x4 := some (.lst (rg (min k (cnt T S n f)) fun j => .int (E T S n (f + 1 + j) : Nat)))) (x5 := some (.int ((1 + k : Nat) : Int))) (x7 := y) (m := 1 + k) (U := fun i => T (f + i)) (by omega) s
  have ha : Any (fun i => T (f + i)) S 0 (1 + k) ↔ 1 + k ≤ cnt T S n f := by
    rw [← R11.any_iff hf (by omega)]
    unfold Any
    rw [run_shift, run_shift, run_shift]
  rw [ha] at hb
  have ad : uAdd (.int (f : Nat)) (.int ((1 + k : Nat) : Int)) = some (.int ((f + (1 + k) : Nat) : Int)) := by simp
  have ct : cutD (rg n fun i => Q.int (T i : Nat)) (some (f : Int)) (some ((f + (1 + k) : Nat) : Int)) = rg (1 + k) fun i => .int (T (f + i) : Nat) := tr_cut (by omega)
  suffices key : WF (tabB A [some (tr n T), some (.int (S : Nat)), some (tbQ T S n (f + 1)), some (.int (f : Nat)), some (.lst (rg (min k (cnt T S n f)) fun j => .int (E T S n (f + 1 + j) : Nat))), some (.int ((1 + k : Nat) : Int)), x, y] s) fun fl s' => (∃ x' y', fl = .nx [some (tr n T), some (.int (S : Nat)), some (tbQ T S n (f + 1)), some (.int (f : Nat)), some (.lst (rg (min (k + 1) (cnt T S n f)) fun j => .int (E T S n (f + 1 + j) : Nat))), some (.int ((1 + k : Nat) : Int)), x', y']) ∧ s' = s by
    obtain ⟨fl, s', e, ⟨x', y', rfl⟩, rfl⟩ := key
    exact ⟨x', y', e⟩
  unfold tabB
  rw [wf_seq]
  refine wf_setv (s1 := s) (v := tr (1 + k) fun i => T (f + i)) ?_ ?_
  · have e0 : qVar 0 [some (tr n T), some (.int (S : Nat)), some (tbQ T S n (f + 1)), some (.int (f : Nat)), some (.lst (rg (min k (cnt T S n f)) fun j => .int (E T S n (f + 1 + j) : Nat))), some (.int ((1 + k : Nat) : Int)), x, y] s = okQ (.tup (rg n fun i => Q.int (T i : Nat))) s := rfl
    have e3 : qBin uAdd (qVar 3) (qVar 5) [some (tr n T), some (.int (S : Nat)), some (tbQ T S n (f + 1)), some (.int (f : Nat)), some (.lst (rg (min k (cnt T S n f)) fun j => .int (E T S n (f + 1 + j) : Nat))), some (.int ((1 + k : Nat) : Int)), x, y] s = okQ (.int ((f + (1 + k) : Nat) : Int)) s := by
      simp -implicitDefEqProofs [ad, -uAdd_int, -Int.natCast_add]
    have e4 : qVar 3 [some (tr n T), some (.int (S : Nat)), some (tbQ T S n (f + 1)), some (.int (f : Nat)), some (.lst (rg (min k (cnt T S n f)) fun j => .int (E T S n (f + 1 + j) : Nat))), some (.int ((1 + k : Nat) : Int)), x, y] s = okQ (.int (f : Nat)) s := rfl
    simp -implicitDefEqProofs only [z_Sl, z_oS, e0, e3, e4, bindQ_ok, ct]
    rfl
  rw [thenF_nx]
  show WF (qIfS _ _ _ [some (tr n T), some (.int (S : Nat)), some (tbQ T S n (f + 1)), some (.int (f : Nat)), some (.lst (rg (min k (cnt T S n f)) fun j => .int (E T S n (f + 1 + j) : Nat))), some (.int ((1 + k : Nat) : Int)), some (tr (1 + k) fun i => T (f + i)), y] s) _
  cases bb with
  | true =>
    have hc := hb.mp rfl
    have m1 : min k (cnt T S n f) = k := by omega
    have m2 : min (k + 1) (cnt T S n f) = k + 1 := by omega
    rw [m1, m2]
    rw [m1] at e1
    refine wf_ifT (s1 := s) e1 ?_
    have lz : k < 16777216 := by omega
    have sb : uI2 gSub (.int ((1 + k : Nat) : Int)) (.int 1) = some (.int (k : Nat)) := by
      show some (Q.int (((1 + k : Nat) : Int) - 1)) = _
      congr 2; omega
    have ix : uIx (tbQ T S n (f + 1)) (.int (k : Nat)) = some (.int (E T S n (f + 1 + k) : Nat)) := by
      have a : atI (rg (n - (f + 1) + 1) fun k => Q.int (E T S n (f + 1 + k) : Nat)) (k : Int) = some (.int (E T S n (f + 1 + k) : Nat)) := rg_at (by omega)
      unfold tbQ
      simp [a]
    have ap : (rg k fun j => Q.int (E T S n (f + 1 + j) : Nat)) ++ [Q.int (E T S n (f + 1 + k) : Nat)] = rg (k + 1) fun j => .int (E T S n (f + 1 + j) : Nat) := rg_succ
    refine ⟨.nx [some (tr n T), some (.int (S : Nat)), some (tbQ T S n (f + 1)), some (.int (f : Nat)), some (.lst (rg (k + 1) fun j => .int (E T S n (f + 1 + j) : Nat))), some (.int ((1 + k : Nat) : Int)), some (tr (1 + k) fun i => T (f + i)), y], s, ?_, ⟨_, _, rfl⟩, rfl⟩
    simp -implicitDefEqProofs [sb, ix, lz, ap, -Int.natCast_add]
  | false =>
    have hc : ¬ 1 + k ≤ cnt T S n f := fun z => by cases hb.mpr z
    refine wf_ifF (s1 := s) e1 ⟨⟨some (tr (1 + k) fun i => T (f + i)), y, ?_⟩, rfl⟩
    rw [show min (k + 1) (cnt T S n f) = min k (cnt T S n f) by omega]
theorem law_table_ok (h : Th11 n S T) (s : Sq) : p__law_table [tr n T, .int (S : Nat)] s = okQ (.tup (rg (n + 1) fun i => .int (E T S n i : Nat))) s := by
  obtain ⟨A, eA, hA⟩ := shut p__law_is_run (IR S) (iR h.s1)
  obtain ⟨J3, hJ3, j3⟩ := r3down
  obtain ⟨J2, hJ2, j2⟩ := c_r2
  have n1 := h.n1
  have n2 := h.n2
  unfold p__law_table r__law_table
  rw [eA, hJ3, hJ2]
  apply WX.eq
  rw [wx_mOf]
  refine ⟨rfl, ?_⟩
  show WF (qSeq _ _ [some (tr n T), some (.int (S : Nat)), none, none, none, none, none, none] s) _
  rw [wf_seq]
  refine wf_setv (s1 := s) (v := tbQ T S n n) (by
    have : tbQ T S n n = .lst [.int 0] := by unfold tbQ; simp [rg, R11.E_end]
    rw [this]; rfl) ?_
  rw [thenF_nx, wf_seq]
  show WF (qFor _ _ _ [some (tr n T), some (.int (S : Nat)), some (tbQ T S n n), none, none, none, none, none] s) _
  have ng : uNeg (.int 1) = some (.int (-1)) := rfl
  have sb : uI2 gSub (.int (n : Nat)) (.int 1) = some (.int ((n : Int) - 1)) := rfl
  have e0 : J3 (qCons (qBin (uI2 gSub) (qCall (u1L uLen) (qCons (qVar 0) qNil)) (qC (.int 1))) (qCons (qUn uNeg (qC (.int 1))) (qCons (qUn uNeg (qC (.int 1))) qNil))) [some (tr n T), some (.int (S : Nat)), some (tbQ T S n n), none, none, none, none, none] s = okQ (rg n fun i => .int ((n - 1 - i : Nat) : Int)) s := j3 _ _ _ _ _ n n1 n2 (by simp -implicitDefEqProofs [tr_len, sb]) (by simp -implicitDefEqProofs [ng]) (by simp -implicitDefEqProofs [ng])
  rw [z_For, e0, toSq_ok]
  refine wf_forI (fun done ρ s' => s' = s ∧ ∃ a b c d e, ρ = [some (tr n T), some (.int (S : Nat)), some (tbQ T S n (n - done.length)), a, b, c, d, e]) ?_ ⟨rfl, none, none, none, none, none, rfl⟩ ?_
  · rintro done x rest ρ s' he ⟨rfl, a, b, c, d, e, rfl⟩
    obtain ⟨rfl, hi⟩ := rg_split' he
    refine ⟨_, rfl, ?_⟩
    have hdl : (done ++ [Q.int ((n - 1 - done.length : Nat) : Int)]).length = done.length + 1 := by simp
    rw [hdl]
    generalize done.length = i at hi ⊢
    have e1 : n - i = n - 1 - i + 1 := by omega
    have e2 : n - (i + 1) = n - 1 - i := by omega
    rw [e1, e2]
    have hf : n - 1 - i < n := by omega
    generalize n - 1 - i = f at hf ⊢
    show WF (qSeq _ _ [some (tr n T), some (.int (S : Nat)), some (tbQ T S n (f + 1)), some (.int (f : Nat)), b, c, d, e] s') _
    rw [wf_seq]
    refine wf_setv (s1 := s') (v := .lst (rg (min 0 (cnt T S n f)) fun j => .int (E T S n (f + 1 + j) : Nat))) (by rw [Nat.zero_min]; rfl) ?_
    rw [thenF_nx, wf_seq]
    show WF (qFor _ _ (tabB A) [some (tr n T), some (.int (S : Nat)), some (tbQ T S n (f + 1)), some (.int (f : Nat)), some (.lst (rg (min 0 (cnt T S n f)) fun j => .int (E T S n (f + 1 + j) : Nat))), c, d, e] s') _
    have sb2 : uI2 gSub (.int (n : Nat)) (.int (f : Nat)) = some (.int ((n - f : Nat) : Int)) := by
      show some (Q.int ((n : Int) - (f : Int))) = _
      congr 2; omega
    have ad : uAdd (.int ((n - f : Nat) : Int)) (.int 1) = some (.int ((1 + (n - f) : Nat) : Int)) := by
      have : ((n - f : Nat) : Int) + 1 = ((1 + (n - f) : Nat) : Int) := by omega
      simp [this]
    have e3 : J2 (qCons (qC (.int 1)) (qCons (qBin uAdd (qBin (uI2 gSub) (qCall (u1L uLen) (qCons (qVar 0) qNil)) (qVar 3)) (qC (.int 1))) qNil)) [some (tr n T), some (.int (S : Nat)), some (tbQ T S n (f + 1)), some (.int (f : Nat)), some (.lst (rg (min 0 (cnt T S n f)) fun j => .int (E T S n (f + 1 + j) : Nat))), c, d, e] s' = okQ (rg (n - f) fun i => .int ((1 + i : Nat) : Int)) s' := by
      refine j2 _ _ _ _ 1 (n - f) rfl ?_ (by omega) (by omega)
      simp -implicitDefEqProofs [tr_len, sb2, ad, -uAdd_int, -Int.natCast_add]
    rw [z_For, e3, toSq_ok]
    refine wf_forI (fun done ρ s2 => s2 = s' ∧ ∃ c d e, ρ = [some (tr n T), some (.int (S : Nat)), some (tbQ T S n (f + 1)), some (.int (f : Nat)), some (.lst (rg (min done.length (cnt T S n f)) fun j => .int (E T S n (f + 1 + j) : Nat))), c, d, e]) ?_ ⟨rfl, c, d, e, rfl⟩ ?_
    · rintro done x rest ρ s2 he ⟨rfl, c, d, e, rfl⟩
      obtain ⟨rfl, hi⟩ := rg_split' he
      refine ⟨_, rfl, ?_⟩
      obtain ⟨x', y', e4⟩ := tabB_ok hA h hf (k := done.length) (by omega) d e s2
      refine ⟨_, s2, e4, rfl, ?_⟩
      have hdl : (done ++ [Q.int ((1 + done.length : Nat) : Int)]).length = done.length + 1 := by simp
      rw [hdl]
      exact ⟨_, _, _, rfl⟩
    · rintro ρ s2 ⟨rfl, c, d, e, rfl⟩
      rw [rg_len, thenF_nx]
      have hc := R11.cnt_pos (T := T) (S := S) hf
      have hl := R11.cnt_le (T := T) (S := S) hf
      have mn : min (n - f) (cnt T S n f) = cnt T S n f := by omega
      rw [mn]
      have um : uSeq uMin (.lst (rg (cnt T S n f) fun j => Q.int (E T S n (f + 1 + j) : Nat))) = some (.int (down (E T S n) f (cnt T S n f - 1) : Nat)) := by
        have e : (rg (cnt T S n f) fun j => Q.int (E T S n (f + 1 + j) : Nat)) = (rg (cnt T S n f) fun j => E T S n (f + 1 + j)).map fun x : Nat => Q.int (x : Nat) := by rw [rg_map]
        rw [e]
        refine uMin_of ?_ ?_
        · obtain ⟨j, h1, h2⟩ := R11.down_ex (E T S n) f (cnt T S n f - 1)
          rw [h2]
          refine List.mem_map.mpr ⟨j, List.mem_range.mpr (by omega), ?_⟩
          congr 1; omega
        · intro x hx
          obtain ⟨j, hj, rfl⟩ := List.mem_map.mp hx
          have := List.mem_range.mp hj
          have h2 := R11.down_le (E T S n) f (cnt T S n f - 1) j (by omega)
          rw [show f + j + 1 = f + 1 + j by omega] at h2
          exact h2
      have ee : E T S n f = 1 + down (E T S n) f (cnt T S n f - 1) := R11.E_eq hf
      have ad : uAdd (.int 1) (.int (down (E T S n) f (cnt T S n f - 1) : Nat)) = some (.int (E T S n f : Nat)) := by
        rw [ee]; simp
      have ap : [Q.int (E T S n f : Nat)] ++ (rg (n - (f + 1) + 1) fun k => Q.int (E T S n (f + 1 + k) : Nat)) = rg (n - f + 1) fun k => .int (E T S n (f + k) : Nat) := by
        have e1 : [Q.int (E T S n f : Nat)] = rg 1 fun _ => Q.int (E T S n f : Nat) := rfl
        rw [e1, rg_app, show 1 + (n - (f + 1) + 1) = n - f + 1 by omega]
        refine rg_congr fun i hi => ?_
        by_cases h0 : i < 1
        · rw [if_pos h0, show f + i = f by omega]
        · rw [if_neg h0, show f + 1 + (i - 1) = f + i by omega]
      have lz : (rg (n - (f + 1) + 1) fun k => Q.int (E T S n (f + 1 + k) : Nat)).length + 1 ≤ 16777216 := by rw [rg_len]; omega
      refine wf_setv (s1 := s2) (v := tbQ T S n f) ?_ ⟨rfl, _, _, _, _, _, rfl⟩
      unfold tbQ
      rw [← ap]
      have lz2 : 1 + (n - (f + 1) + 1) ≤ 16777216 := by omega
      simp -implicitDefEqProofs [um, ad, -uAdd_int, lz2]
  · rintro ρ s' ⟨rfl, a, b, c, d, e, rfl⟩
    rw [thenF_nx, rg_len, Nat.sub_self]
    refine c_ret (s1 := s') (v := .tup (rg (n + 1) fun i => .int (E T S n i : Nat))) ?_ ⟨rfl, rfl⟩
    unfold tbQ
    simp -implicitDefEqProofs
end
end Dn

set_option Elab.async false
set_option linter.all false
set_option maxRecDepth 100000
set_option maxHeartbeats 4000000
set_option autoImplicit false
namespace Dn
open PySem L2 Sh
/-! ### k09: the units -/
end Dn

set_option Elab.async false
set_option linter.all false
set_option maxRecDepth 100000
set_option maxHeartbeats 4000000
set_option autoImplicit false
namespace Dn
open PySem L2 Sh
/-! ### k09: the nearest shade -/
def pr (x : Int × Nat) : Q := .tup [.int x.1, .int (x.2 : Nat)]
end Dn

set_option Elab.async false
set_option linter.all false
set_option maxRecDepth 100000
set_option maxHeartbeats 4000000
set_option autoImplicit false
namespace Dn
open PySem L2 Sh
/-! ### k09: pictures, greys carried along -/
section
variable {n p e : Nat} {c : Nat → Nat → Nat}
def wantI (x : Int) : Int := if x < 0 then 0 else if 255 < x then 255 else x
def shI (n : Nat) (x : Int) : Int := (wantI x * (n : Int) + 127).fdiv 255
def lk (n : Nat) (g : Nat → Nat) : Nat → Int
  | 0 => 0
  | m + 1 => (g m : Int) + lk n g m - (shI n ((g m : Int) + lk n g m) * 255).fdiv (n : Int)
end
end Dn

set_option Elab.async false
set_option linter.all false
set_option maxRecDepth 100000
set_option maxHeartbeats 4000000
set_option autoImplicit false
namespace Dn
open PySem L2 Sh
/-! ### k09: units joined, blocks measured -/
section
variable {n t p e : Nat} {S : Nat → Nat → Nat} {c : Nat → Nat → Bool}
end
end Dn

set_option Elab.async false
set_option linter.all false
set_option maxRecDepth 100000
set_option maxHeartbeats 4000000
set_option autoImplicit false
namespace Dn
open PySem L2 Sh
/-! ### k09: blocks measured -/
def bI (b : Bool) : Int := if b then 1 else 0
def S1 (w : Nat) (c : Nat → Bool) : Int := (rg w fun j => bI (c j)).sum
def S2 (h w : Nat) (c : Nat → Nat → Bool) : Int := (rg h fun i => S1 w (c i)).sum
section
variable {p e h w : Nat} {c : Nat → Nat → Bool}
def blk (h w : Nat) (c : Nat → Nat → Bool) (a b : Nat) : Nat → Nat → Bool := fun i j => c (a * h + i) (b * w + j)
end
end Dn

set_option Elab.async false
set_option linter.all false
set_option maxRecDepth 100000
set_option maxHeartbeats 4000000
set_option autoImplicit false
namespace Dn
open PySem L2 Sh
/-! ### k09: what is told -/
theorem lkr {v : Q} : List.lookup ("reason" : Str) [("reason", v)] = some v := by simp [List.lookup]
section
variable {k : Int} {a b c x : Q} {s : Sq} {y : Str}
end
end Dn

set_option Elab.async false
set_option linter.all false
set_option maxRecDepth 100000
set_option maxHeartbeats 4000000
set_option autoImplicit false
namespace Dn
open PySem L2 Sh
open R11 (wn wn_cast wn_lt wn_self wn_add Run IsLen len cnt E down)
/-! ### runs -/
/-- a loop over typed items -/
theorem wf_forL11 {α : Type} {g : GQ} {b : SFq} {P : FlQ → Sq → Prop} {ρ : RhoQ} {s : Sq} (e : α → Q) {xs : List α} (I : List α → RhoQ → Sq → Prop)
    (h : ∀ done d rest ρ s, done ++ d :: rest = xs → I done ρ s → ∃ ρ2, g (e d) ρ = some ρ2 ∧ WF (b ρ2 s) fun fl s' => match fl with | .nx ρ' => I (done ++ [d]) ρ' s' | .ct ρ' => I (done ++ [d]) ρ' s' | .bk ρ' => P (.nx ρ') s' | x => P x s')
    (h0 : I [] ρ s) (hE : ∀ ρ s, I xs ρ s → P (.nx ρ) s) : WF (qForGo g b (xs.map e) ρ s) P := by
  have key : ∀ (rest done : List α) (ρ : RhoQ) (s : Sq), done ++ rest = xs → I done ρ s → WF (qForGo g b (rest.map e) ρ s) P := by
    intro rest
    induction rest with
    | nil => intro done ρ s e hI; rw [List.append_nil] at e; subst e; exact ⟨_, _, rfl, hE _ _ hI⟩
    | cons d rest ih =>
      intro done ρ s e hI
      obtain ⟨ρ2, h1, fl, s', h2, h3⟩ := h done d rest ρ s e hI
      have e' : done ++ [d] ++ rest = xs := by rw [List.append_assoc]; exact e
      unfold WF
      rw [List.map_cons, z_ForGo, h1]
      cases fl with
      | nx ρ' => simp only [h2]; exact ih _ _ _ e' h3
      | ct ρ' => simp only [h2]; exact ih _ _ _ e' h3
      | bk ρ' => simp only [h2]; exact ⟨_, _, rfl, h3⟩
      | ret v => simp only [h2]; exact ⟨_, _, rfl, h3⟩
      | exn e ρ' => simp only [h2]; exact ⟨_, _, rfl, h3⟩
  exact key xs [] ρ s rfl h0
theorem len_flat11 {α β : Type} {F : α → List β} {c : Nat} : ∀ {l : List α}, (∀ a ∈ l, (F a).length ≤ c) → (l.flatMap F).length ≤ l.length * c
  | [], _ => by simp
  | a :: l, h => by
    have h1 := h a List.mem_cons_self
    have h2 := len_flat11 (F := F) (c := c) (l := l) fun b hb => h b (List.mem_cons_of_mem _ hb)
    rw [List.flatMap_cons, List.length_append, List.length_cons, Nat.succ_mul]
    omega
def wof : Fin 3 → Str
  | 0 => "up"
  | 1 => "down"
  | 2 => "same"
theorem wd_of : ∀ k : Fin 3, Wd11 (wof k) (R11.stp k)
  | 0 => .up
  | 1 => .down
  | 2 => .same
abbrev Rn := Nat × Fin 3 × Nat
def rnQ (x : Rn) : Q := .tup [.int (x.1 : Nat), .str (wof x.2.1), .int (x.2.2 : Nat)]
def mkR (S : Nat) (x : Rn) : List Nat := rg x.2.2 fun j => wn ((x.1 : Nat) + (j : Nat) * R11.stp x.2.1) S
def mk11 (S : Nat) (l : List Rn) : List Nat := l.flatMap (mkR S)
structure RnOk (S : Nat) (x : Rn) : Prop where
  lt : x.1 < S
  c1 : 1 ≤ x.2.2
  c2 : x.2.2 ≤ 24
abbrev nats (l : List Nat) : List Q := l.map fun x : Nat => Q.int (x : Nat)
theorem mk_len (S : Nat) : ∀ l : List Rn, (mk11 S l).length = (l.map fun x => x.2.2).sum
  | [] => rfl
  | x :: l => by
    have := mk_len S l
    unfold mk11 at this ⊢
    rw [List.flatMap_cons, List.length_append, this, List.map_cons, List.sum_cons]
    unfold mkR
    rw [rg_len]
theorem mk_le {S : Nat} {c : Nat} : ∀ {l : List Rn}, (∀ x ∈ l, x.2.2 ≤ c) → (mk11 S l).length ≤ l.length * c := fun {l} h => by
  unfold mk11
  exact len_flat11 fun x hx => by unfold mkR; rw [rg_len]; exact h x hx
theorem mk_pos {S : Nat} {l : List Rn} (hl : l ≠ []) (h : ∀ x ∈ l, RnOk S x) : 1 ≤ (mk11 S l).length := by
  cases l with
  | nil => exact absurd rfl hl
  | cons x l =>
    rw [mk_len, List.map_cons, List.sum_cons]
    have := (h x (by simp)).c1
    omega
theorem mk_lt {S : Nat} (hS : 1 ≤ S) {l : List Rn} : ∀ y ∈ mk11 S l, y < S := fun y hy => by
  obtain ⟨x, _, hx⟩ := List.mem_flatMap.mp hy
  obtain ⟨j, _, rfl⟩ := List.mem_map.mp hx
  exact wn_lt hS
theorem mul11 : ∃ X : Q2, uMulA = X ∧ ∀ i j : Int, -1000 ≤ i ∧ i ≤ 1000 ∨ -1000 ≤ j ∧ j ≤ 1000 → X (.int i) (.int j) = some (.int (i * j)) := ⟨uMulA, rfl, fun _ _ h => c_mulI h⟩
section
variable {S : Nat} {s : Sq}
theorem nats_mkR {x : Rn} : nats (mkR S x) = rg x.2.2 fun j => Q.int ((wn ((x.1 : Nat) + (j : Nat) * R11.stp x.2.1) S : Nat) : Int) := by
  unfold nats mkR
  rw [rg_map]
theorem law_made_ok (hS : 1 ≤ S ∧ S ≤ 16) {l : List Rn} (h : ∀ x ∈ l, RnOk S x) (hl : l.length ≤ 24) (s : Sq) : p__law_made [.tup (l.map rnQ), .int (S : Nat)] s = okQ (.lst (nats (mk11 S l))) s := by
  obtain ⟨A, eA, hA⟩ := shut p__law_step_k11 (fun A => ∀ (k : Fin 3) s, A [.str (wof k)] s = okQ (.int (R11.stp k)) s) fun k s => law_step_ok (wd_of k) s
  obtain ⟨J, R, hJ, j1, j2, j3⟩ := r1x
  obtain ⟨X, hX, xm⟩ := mul11
  have hS0 : (S : Int) ≠ 0 := by omega
  unfold p__law_made r__law_made
  rw [eA, hJ, hX]
  apply WX.eq
  rw [wx_mOf]
  refine ⟨rfl, ?_⟩
  show WF (qSeq _ _ [some (.tup (l.map rnQ)), some (.int (S : Nat)), none, none, none, none, none] s) _
  rw [wf_seq]
  refine wf_setv (s1 := s) (v := .lst []) rfl ?_
  rw [thenF_nx, wf_seq]
  show WF (qFor _ _ _ [some (.tup (l.map rnQ)), some (.int (S : Nat)), some (.lst []), none, none, none, none] s) _
  have e0 : jE (qVar 0) [some (.tup (l.map rnQ)), some (.int (S : Nat)), some (.lst []), none, none, none, none] s = okQ (l.map rnQ) s := rfl
  rw [z_For, e0, toSq_ok]
  refine wf_forL11 rnQ (fun done ρ s' => s' = s ∧ ∃ a b c, ρ = [some (.tup (l.map rnQ)), some (.int (S : Nat)), some (.lst (nats (mk11 S done))), a, b, c, none]) ?_ ⟨rfl, none, none, none, rfl⟩ ?_
  · rintro done x rest ρ s' he ⟨rfl, a, b, c, rfl⟩
    have hx := h x (by rw [← he]; simp)
    have hd : done.length ≤ 24 := by
      have := congrArg List.length he
      simp at this
      omega
    refine ⟨_, rfl, ?_⟩
    show WF (qSet _ 2 [some (.tup (l.map rnQ)), some (.int (S : Nat)), some (.lst (nats (mk11 S done))), some (.int (x.1 : Nat)), some (.str (wof x.2.1)), some (.int (x.2.2 : Nat)), none] s') _
    have c1 : qComp (J (qCons (qVar 5) qNil)) [6] (uN 6) qTrue (qBin (uI2 gMod) (qCall (u1L uInt) (qCons (qBin uAdd (qVar 3) (qBin X (qApp 1 A (qCons (qVar 4) qNil)) (qVar 6))) qNil)) (qVar 1)) [some (.tup (l.map rnQ)), some (.int (S : Nat)), some (.lst (nats (mk11 S done))), some (.int (x.1 : Nat)), some (.str (wof x.2.1)), some (.int (x.2.2 : Nat)), none] s' = okQ (nats (mkR S x)) s' := by
      have c2 := hx.c2
      have l1 : x.2.2 ≤ 16777216 := by omega
      have e1 : J (qCons (qVar 5) qNil) [some (.tup (l.map rnQ)), some (.int (S : Nat)), some (.lst (nats (mk11 S done))), some (.int (x.1 : Nat)), some (.str (wof x.2.1)), some (.int (x.2.2 : Nat)), none] s' = okQ (rg x.2.2 fun i => .int (i : Nat)) s' := by
        rw [j1]
        exact j2 _ _ (by omega)
      rw [z_Comp, e1]
      simp only [bindQ_ok, rg_len, if_pos l1]
      rw [comp_rg (fun j => Q.int ((wn ((x.1 : Nat) + (j : Nat) * R11.stp x.2.1) S : Nat) : Int)), nats_mkR]
      intro j hj
      refine ⟨_, rfl, fun s => ?_⟩
      have hw := (wd_of x.2.1).st
      have x1 := xm (R11.stp x.2.1) (j : Nat) (.inr (by omega))
      have ad : uAdd (.int (x.1 : Nat)) (.int (R11.stp x.2.1 * (j : Nat))) = some (.int ((x.1 : Nat) + (j : Nat) * R11.stp x.2.1)) := by rw [uAdd_int, Int.mul_comm]
      have m1 : uI2 gMod (.int ((x.1 : Nat) + (j : Nat) * R11.stp x.2.1)) (.int (S : Nat)) = some (.int ((wn ((x.1 : Nat) + (j : Nat) * R11.stp x.2.1) S : Nat) : Int)) := by rw [u_mod hS0, fmod_wn hS.1]
      have ui : uInt (.int ((x.1 : Nat) + (j : Nat) * R11.stp x.2.1)) = some (.int ((x.1 : Nat) + (j : Nat) * R11.stp x.2.1)) := rfl
      simp -implicitDefEqProofs [hA, x1, ad, m1, ui, -uAdd_int]
    have c2 : (nats (mk11 S done)).length + (nats (mkR S x)).length ≤ 16777216 := by
      have h1 := mk_le (S := S) (c := 24) (l := done) fun y hy => (h y (by rw [← he]; simp [hy])).c2
      have h2 := hx.c2
      unfold mkR
      rw [List.length_map, List.length_map, rg_len]
      omega
    have ap : nats (mk11 S done) ++ nats (mkR S x) = nats (mk11 S (done ++ [x])) := by
      unfold nats mk11
      simp
    refine wf_setv (s1 := s') (v := .lst (nats (mk11 S (done ++ [x])))) ?_ ⟨rfl, _, _, _, rfl⟩
    have v2 : qVar 2 [some (.tup (l.map rnQ)), some (.int (S : Nat)), some (.lst (nats (mk11 S done))), some (.int (x.1 : Nat)), some (.str (wof x.2.1)), some (.int (x.2.2 : Nat)), none] s' = okQ (.lst (nats (mk11 S done))) s' := rfl
    rw [z_Al, z_CatE, v2]
    simp only [bindQ_ok, z_Al, c1, if_pos c2]
    rw [ap]
  · rintro ρ s' ⟨rfl, a, b, c, rfl⟩
    rw [thenF_nx]
    exact c_ret (s1 := s') (v := .lst (nats (mk11 S l))) rfl ⟨rfl, rfl⟩
theorem gd_of : ∀ k : Fin 3, gdVal [("up", 1), ("down", -1), ("same", 0)] (wof k) = some (R11.stp k)
  | 0 => by decide +kernel
  | 1 => by decide +kernel
  | 2 => by decide +kernel
theorem isi_str11 {x : Str} : uIsi "str" (.str x) = some (.bl true) := rfl
theorem is_run_ok (hS : 1 ≤ S ∧ S ≤ 16) {x : Rn} (h : RnOk S x) (s : Sq) : p__is_run [rnQ x, .int (S : Nat)] s = okQ (.bl true) s := by
  obtain ⟨N, eN, hN⟩ := shut p_is_number (fun N => ∀ (i a b : Int) s, N [.int i, .int a, .int b] s = okQ (.bl (decide (a ≤ i ∧ i ≤ b))) s) fun i a b s => is_number_ok s
  obtain ⟨Rw, eR, hR⟩ := shut p_is_row (fun M => ∀ s, M [rnQ x, .int 3] s = okQ (.bl true) s) fun s => is_row_ok s
  have h1 := h.lt
  have h2 := h.c1
  have h3 := h.c2
  have d1 : decide ((0 : Int) ≤ (x.1 : Int) ∧ (x.1 : Int) ≤ (S : Int) - 1) = true := by simp; omega
  have d2 : decide ((1 : Int) ≤ (x.2.2 : Int) ∧ (x.2.2 : Int) ≤ 24) = true := by simp; omega
  have us : uIsi "str" (.str (wof x.2.1)) = some (.bl true) := isi_str11
  have un : uNotInGd (.str (wof x.2.1)) (.gd [("up", 1), ("down", -1), ("same", 0)]) = some (.bl false) := by
    unfold uNotInGd
    simp only [gd_of]
    rfl
  unfold p__is_run r__is_run
  rw [eN, eR]
  apply WX.eq
  rw [wx_mOf]
  refine ⟨rfl, ?_⟩
  show WF (qSeq _ _ [some (rnQ x), some (.int (S : Nat)), none, none, none] s) _
  rw [wf_seq]
  refine wf_ifF (s1 := s) (by simp -implicitDefEqProofs [hR]) ?_
  rw [thenF_nx, wf_seq]
  refine ⟨.nx [some (rnQ x), some (.int (S : Nat)), some (.int (x.1 : Nat)), some (.str (wof x.2.1)), some (.int (x.2.2 : Nat))], s, rfl, ?_⟩
  rw [thenF_nx, wf_seq]
  refine wf_ifF (s1 := s) (by simp -implicitDefEqProofs [us, un]) ?_
  rw [thenF_nx]
  refine c_ret (s1 := s) (v := .bl true) ?_ ⟨rfl, rfl⟩
  have sb : uI2 gSub (.int (S : Nat)) (.int 1) = some (.int ((S : Int) - 1)) := rfl
  simp -implicitDefEqProofs only [z_And, z_App, z_Cons, z_Nil, z_Var, z_C, z_Bin, List.getElem?_cons_succ, List.getElem?_cons_zero, bindQ_ok, sb, liftQ_some, List.length_cons, List.length_nil, hN, d1, d2, if_true]
  rfl
theorem all_true11 {α : Type} : ∀ l : List α, uAll (l.map fun _ => Q.bl true) = some (.bl true) := fun l => by
  have : Sh.uB (l.map fun _ => Q.bl true) = some (l.map fun _ => true) := by
    induction l with
    | nil => rfl
    | cons x l ih => simp only [List.map_cons, Sh.uB, ih]; rfl
  unfold uAll
  rw [this]
  simp
theorem sumI {α : Type} (f : α → Nat) (l : List α) : uI (l.map fun x => Q.int (f x : Nat)) = some (l.map fun x => ((f x : Nat) : Int)) := by
  induction l with
  | nil => rfl
  | cons x l ih => simp only [List.map_cons, uI, ih]; rfl
theorem sumN {α : Type} (f : α → Nat) (l : List α) : (l.map fun x => ((f x : Nat) : Int)).sum = ((l.map f).sum : Nat) := by
  induction l with
  | nil => rfl
  | cons x l ih => simp only [List.map_cons, List.sum_cons, ih]; omega
theorem sum_nats {α : Type} (f : α → Nat) (l : List α) : uSum (l.map fun x => Q.int (f x : Nat)) = some (.int ((l.map f).sum : Nat)) := by
  unfold uSum
  rw [sumI, Option.map_some, sumN]
theorem comp2_flat {α : Type} {g : GQ} {it1 : EQ (List Q)} {vs1 : List Nat} {g1 : GQ} {f : EQ Q} {ρ : RhoQ} (e : α → Q) (l1 z : α → List Q) : ∀ {xs : List α}, (∀ x ∈ xs, ∃ ρ2, g (e x) ρ = some ρ2 ∧ ∀ s, it1 ρ2 s = okQ (l1 x) s ∧ qCompGo g1 qTrue f (wipeQ ρ2 vs1) (l1 x) s = okQ (z x) s) → ∀ s, qComp2Go g qTrue it1 vs1 g1 qTrue f ρ (xs.map e) s = okQ (xs.flatMap z) s
  | [], _, s => rfl
  | x :: xs, h, s => by
    obtain ⟨ρ2, h1, h2⟩ := h x (by simp)
    obtain ⟨h3, h4⟩ := h2 s
    have ih := comp2_flat (g := g) (it1 := it1) (vs1 := vs1) (g1 := g1) (f := f) (ρ := ρ) e l1 z (xs := xs) (fun y hy => h y (List.mem_cons_of_mem _ hy)) s
    simp only [List.map_cons, qComp2Go, h1, z_True, noQ_ok, bindQ_ok, if_true, h3, h4, ih, List.flatMap_cons]
theorem threaded_pre (hS : 1 ≤ S ∧ S ≤ 16) {l : List Rn} (h : ∀ x ∈ l, RnOk S x) (hl : l ≠ []) (hl2 : l.length ≤ 24) (s : Sq) :
    p_threaded [.tup (l.map rnQ), .int (S : Nat)] s = if (mk11 S l).length ≤ 24 then okQ (.tup (nats (mk11 S l))) s else some (.error (arg11 "runs"), s) := by
  obtain ⟨C, eC, hC⟩ := shut p__check_shafts (fun C => ∀ s, C [.int (S : Nat)] s = okQ .non s) fun s => check_shafts_ok hS s
  obtain ⟨I, eI, hI⟩ := shut p__is_run (fun I => ∀ x s, RnOk S x → I [rnQ x, .int (S : Nat)] s = okQ (.bl true) s) fun x s hx => is_run_ok hS hx s
  obtain ⟨J, R, hJ, j1, j2, j3⟩ := r1x
  obtain ⟨X, hX, xm⟩ := mul11
  have hS0 : (S : Int) ≠ 0 := by omega
  have lz : l.length ≤ 16777216 := by omega
  have ml := mk_le (S := S) (c := 24) (l := l) fun y hy => (h y hy).c2
  have mp := mk_pos hl h
  have me := mk_len S l
  have ut : uIsi "tuple" (.tup (l.map rnQ)) = some (.bl true) := isi_tup (q := .tup (l.map rnQ)) rfl
  unfold p_threaded r_threaded
  rw [eC, eI, hJ, hX]
  have e0 : ∀ s, jE (qVar 0) [some (.tup (l.map rnQ)), some (.int (S : Nat)), none, none, none, none, none, none] s = okQ (l.map rnQ) s := fun s => rfl
  have c1 : ∀ s, qComp (jE (qVar 0)) [6] (uN 6) qTrue (qApp 2 I (qCons (qVar 6) (qCons (qVar 1) qNil))) [some (.tup (l.map rnQ)), some (.int (S : Nat)), none, none, none, none, none, none] s = okQ (l.map fun _ => Q.bl true) s := fun s => by
    rw [z_Comp, e0]
    simp only [bindQ_ok, List.length_map, if_pos lz]
    rw [comp_all' rnQ (fun _ => Q.bl true)]
    intro x hx
    exact ⟨_, rfl, fun s => by simp -implicitDefEqProofs [hI x _ (h x hx)]⟩
  have c2 : ∀ s, qComp (jE (qVar 0)) [7, 5] (uTp 3 (uCn (uN 7) (uCn (uN 7) (uCn (uN 5) uNl)))) qTrue (qVar 5) [some (.tup (l.map rnQ)), some (.int (S : Nat)), none, none, none, none, none, none] s = okQ (l.map fun x => Q.int (x.2.2 : Nat)) s := fun s => by
    rw [z_Comp, e0]
    simp only [bindQ_ok, List.length_map, if_pos lz]
    rw [comp_all' rnQ (fun x => Q.int (x.2.2 : Nat))]
    intro x hx
    exact ⟨_, rfl, fun s => rfl⟩
  have su := sum_nats (fun x : Rn => x.2.2) l
  rw [← me] at su
  have at1 := all_true11 l
  have c3 : ∀ s, qComp2 (jE (qVar 0)) [3, 4, 5, 2] (uTp 3 (uCn (uN 3) (uCn (uN 4) (uCn (uN 5) uNl)))) qTrue (J (qCons (qVar 5) qNil)) [2] (uN 2) qTrue (qBin (uI2 gMod) (qBin uAdd (qVar 3) (qBin X (qVar 2) (qGdGet (qC (.gd [("up", 1), ("down", -1), ("same", 0)])) (qVar 4)))) (qVar 1)) [some (.tup (l.map rnQ)), some (.int (S : Nat)), none, none, none, none, none, none] s = okQ (.lst (nats (mk11 S l))) s := fun s => by
    have key := comp2_flat (g := uTp 3 (uCn (uN 3) (uCn (uN 4) (uCn (uN 5) uNl)))) (it1 := J (qCons (qVar 5) qNil)) (vs1 := [2]) (g1 := uN 2) (f := qBin (uI2 gMod) (qBin uAdd (qVar 3) (qBin X (qVar 2) (qGdGet (qC (.gd [("up", 1), ("down", -1), ("same", 0)])) (qVar 4)))) (qVar 1)) (ρ := wipeQ [some (.tup (l.map rnQ)), some (.int (S : Nat)), none, none, none, none, none, none] [3, 4, 5, 2]) rnQ (fun x => rg x.2.2 fun i => Q.int (i : Nat)) (fun x => nats (mkR S x)) (xs := l) ?_ s
    · unfold qComp2
      rw [e0]
      have e3 : (l.flatMap fun x => nats (mkR S x)) = nats (mk11 S l) := by unfold nats mk11; rw [List.map_flatMap]
      have l3 : (nats (mk11 S l)).length ≤ 16777216 := by rw [List.length_map]; omega
      simp only [bindQ_ok, key, noQ_ok, e3, if_pos l3]
    · intro x hx
      have hx := h x hx
      refine ⟨_, rfl, fun s => ⟨?_, ?_⟩⟩
      · rw [j1]
        have := hx.c2
        exact j2 x.2.2 _ (by omega)
      · rw [comp_rg (fun j => Q.int ((wn ((x.1 : Nat) + (j : Nat) * R11.stp x.2.1) S : Nat) : Int)), nats_mkR]
        intro j hj
        refine ⟨_, rfl, fun s => ?_⟩
        have hw := (wd_of x.2.1).st
        have x1 := xm (j : Nat) (R11.stp x.2.1) (.inr (by omega))
        have ad : uAdd (.int (x.1 : Nat)) (.int ((j : Nat) * R11.stp x.2.1)) = some (.int ((x.1 : Nat) + (j : Nat) * R11.stp x.2.1)) := by rw [uAdd_int]
        have m1 : uI2 gMod (.int ((x.1 : Nat) + (j : Nat) * R11.stp x.2.1)) (.int (S : Nat)) = some (.int ((wn ((x.1 : Nat) + (j : Nat) * R11.stp x.2.1) S : Nat) : Int)) := by rw [u_mod hS0, fmod_wn hS.1]
        have gg : uGdGet (.gd [("up", 1), ("down", -1), ("same", 0)]) (.str (wof x.2.1)) = some (.int (R11.stp x.2.1)) := by
          unfold uGdGet
          simp only [gd_of]
          rfl
        have v4 : ∀ s, qGdGet (qC (.gd [("up", 1), ("down", -1), ("same", 0)])) (qVar 4) (([none, none, some (.int (j : Nat)), some (.int (x.1 : Nat)), some (.str (wof x.2.1)), some (.int (x.2.2 : Nat)), none, none] : RhoQ).set 0 (some (.tup (l.map rnQ))) |>.set 1 (some (.int (S : Nat)))) s = okQ (.int (R11.stp x.2.1)) s := fun s => by
          rw [z_GdGet]
          show bindQ (okQ (.gd [("up", 1), ("down", -1), ("same", 0)]) s) (fun d s1 => bindQ (okQ (.str (wof x.2.1)) s1) fun e s2 => liftQ (uGdGet d e) s2) = _
          simp only [bindQ_ok, gg, liftQ_some]
        show qBin (uI2 gMod) (qBin uAdd (qVar 3) (qBin X (qVar 2) (qGdGet (qC (.gd [("up", 1), ("down", -1), ("same", 0)])) (qVar 4)))) (qVar 1) [some (.tup (l.map rnQ)), some (.int (S : Nat)), some (.int (j : Nat)), some (.int (x.1 : Nat)), some (.str (wof x.2.1)), some (.int (x.2.2 : Nat)), none, none] s = _
        have v4' : ∀ s, qGdGet (qC (.gd [("up", 1), ("down", -1), ("same", 0)])) (qVar 4) [some (.tup (l.map rnQ)), some (.int (S : Nat)), some (.int (j : Nat)), some (.int (x.1 : Nat)), some (.str (wof x.2.1)), some (.int (x.2.2 : Nat)), none, none] s = okQ (.int (R11.stp x.2.1)) s := v4
        simp -implicitDefEqProofs only [z_Bin, z_Var, List.getElem?_cons_succ, List.getElem?_cons_zero, bindQ_ok, v4', x1, liftQ_some, ad, m1]
  generalize hres : (if (mk11 S l).length ≤ 24 then okQ (Q.tup (nats (mk11 S l))) s else some (Except.error (arg11 "runs"), s)) = res
  obtain ⟨xr, hxr⟩ : ∃ xr, res = some (xr, s) := by
    by_cases hm : (mk11 S l).length ≤ 24
    · rw [if_pos hm] at hres; exact ⟨_, hres.symm⟩
    · rw [if_neg hm] at hres; exact ⟨_, hres.symm⟩
  subst hxr
  apply WX.eq
  rw [wx_mOf]
  refine ⟨rfl, ?_⟩
  show WF (qSeq _ _ [some (.tup (l.map rnQ)), some (.int (S : Nat)), none, none, none, none, none, none] s) _
  rw [wf_seq]
  refine ⟨.nx [some (.tup (l.map rnQ)), some (.int (S : Nat)), none, none, none, none, none, none], s, by simp -implicitDefEqProofs [hC], ?_⟩
  rw [thenF_nx, wf_seq]
  refine wf_ifF (s1 := s) ?_ ?_
  · have v0 : qVar 0 [some (.tup (l.map rnQ)), some (.int (S : Nat)), none, none, none, none, none, none] s = okQ (.tup (l.map rnQ)) s := rfl
    simp -implicitDefEqProofs only [z_OrF, z_NotF, z_Tru, z_Un, v0, bindQ_ok, ut, liftQ_some, z_Call, c1, at1]
    rfl
  rw [thenF_nx, wf_seq]
  by_cases hm : (mk11 S l).length ≤ 24
  · rw [if_pos hm] at hres
    cases hres
    have g1 : uI2 gLe (.int 1) (.int ((mk11 S l).length : Nat)) = some (.bl true) := by
      have : (1 : Int) ≤ ((mk11 S l).length : Nat) := by omega
      simp [this]
    have g2 : uI2 gLe (.int ((mk11 S l).length : Nat)) (.int 24) = some (.bl true) := by
      have : (((mk11 S l).length : Nat) : Int) ≤ 24 := by omega
      simp [this]
    refine wf_ifF (s1 := s) ?_ ?_
    · have k1 : ∀ ρ s, qC (.int 1) ρ s = okQ (.int 1) s := fun _ _ => rfl
      have k2 : ∀ ρ s, qC (.int 24) ρ s = okQ (.int 24) s := fun _ _ => rfl
      simp -implicitDefEqProofs only [z_NotF, z_T, z_Chain, z_Call, c2, su, bindQ_ok, liftQ_some, k1, k2, g1, g2]
      rfl
    rw [thenF_nx]
    refine c_ret (s1 := s) (v := .tup (nats (mk11 S l))) ?_ ⟨rfl, rfl⟩
    simp -implicitDefEqProofs only [z_Call, z_Cons, z_Nil, c3, bindQ_ok]
    rfl
  · rw [if_neg hm] at hres
    cases hres
    have g1 : uI2 gLe (.int 1) (.int ((mk11 S l).length : Nat)) = some (.bl true) := by
      have : (1 : Int) ≤ ((mk11 S l).length : Nat) := by omega
      simp [this]
    have g2 : uI2 gLe (.int ((mk11 S l).length : Nat)) (.int 24) = some (.bl false) := by
      have : ¬ (((mk11 S l).length : Nat) : Int) ≤ 24 := by omega
      simp [this]
    refine wf_ifT (s1 := s) ?_ ⟨.exn (arg11 "runs") _, s, rfl, ⟨rfl, rfl⟩⟩
    have k1 : ∀ ρ s, qC (.int 1) ρ s = okQ (.int 1) s := fun _ _ => rfl
    have k2 : ∀ ρ s, qC (.int 24) ρ s = okQ (.int 24) s := fun _ _ => rfl
    simp -implicitDefEqProofs only [z_NotF, z_T, z_Chain, z_Call, c2, su, bindQ_ok, liftQ_some, k1, k2, g1, g2]
    rfl
end
end Dn

set_option Elab.async false
set_option linter.all false
set_option maxRecDepth 100000
set_option maxHeartbeats 4000000
set_option autoImplicit false
namespace Dn
open PySem L2 Sh
open R11 (wn wn_cast wn_lt wn_self wn_add Run IsLen len cnt E down)
/-! ### the fewest runs make the threading -/
section
variable {n S : Nat} {T : Nat → Nat} {s : Sq}
noncomputable def kf (T : Nat → Nat) (S n f : Nat) : Fin 3 := if len T S n 1 f = cnt T S n f then 0 else if len T S n (-1) f = cnt T S n f then 1 else 2
noncomputable def rnOf (T : Nat → Nat) (S n f : Nat) : Rn := (T f, kf T S n f, cnt T S n f)
theorem rnQ_of (f : Nat) : rnQ (rnOf T S n f) = runQ T S n f := by
  unfold rnQ rnOf runQ
  have : wof (kf T S n f) = wdf T S n f := by
    unfold kf wdf
    split
    · rfl
    · split <;> rfl
  rw [this]
theorem kf_run {f : Nat} (hf : f < n) : Run T S (R11.stp (kf T S n f)) f (cnt T S n f) := by
  unfold kf
  by_cases h1 : len T S n 1 f = cnt T S n f
  · rw [if_pos h1, ← h1]
    exact (R11.len_is (T := T) (S := S) (st := 1) hf).run
  · rw [if_neg h1]
    by_cases h2 : len T S n (-1) f = cnt T S n f
    · rw [if_pos h2, ← h2]
      exact (R11.len_is (T := T) (S := S) (st := -1) hf).run
    · rw [if_neg h2]
      have h3 : cnt T S n f = len T S n 0 f := by
        unfold cnt at h1 h2 ⊢
        omega
      rw [h3]
      exact (R11.len_is (T := T) (S := S) (st := 0) hf).run
theorem mkR_of (h : Th11 n S T) {f : Nat} (hf : f < n) : mkR S (rnOf T S n f) = rg (cnt T S n f) fun j => T (f + j) := by
  unfold mkR rnOf
  refine rg_congr fun j hj => ?_
  exact ((kf_run hf).at h.s1 (h.lt f hf) j hj).symm
theorem gy_mk (h : Th11 n S T) (d : Nat) : ∀ f, n - f = d → f ≤ n → mk11 S ((gy T S n f).map (rnOf T S n)) = rg (n - f) fun i => T (f + i) := by
  induction d using Nat.strongRecOn with
  | ind d ih =>
    intro f hd hfn
    by_cases hf : f < n
    · have hc := R11.cnt_pos (T := T) (S := S) hf
      have hl := R11.cnt_le (T := T) (S := S) hf
      have ih := ih (n - (f + cnt T S n f)) (by omega) _ rfl hl
      rw [gy_lt hf]
      unfold mk11 at ih ⊢
      rw [List.map_cons, List.flatMap_cons, ih, mkR_of h hf, rg_app, show cnt T S n f + (n - (f + cnt T S n f)) = n - f by omega]
      refine rg_congr fun i hi => ?_
      by_cases h2 : i < cnt T S n f
      · rw [if_pos h2]
      · rw [if_neg h2, show f + cnt T S n f + (i - cnt T S n f) = f + i by omega]
    · rw [gy_ge (by omega), show n - f = 0 by omega]
      rfl
theorem gy_mem (d : Nat) : ∀ f, n - f = d → ∀ x ∈ gy T S n f, x < n := by
  induction d using Nat.strongRecOn with
  | ind d ih =>
    intro f hd x hx
    by_cases hf : f < n
    · have hc := R11.cnt_pos (T := T) (S := S) hf
      rw [gy_lt hf] at hx
      rcases List.mem_cons.mp hx with rfl | hx
      · exact hf
      · exact ih _ (by omega) _ rfl x hx
    · rw [gy_ge (by omega)] at hx
      cases hx
theorem grQ_eq (f : Nat) : grQ T S n f = ((gy T S n f).map (rnOf T S n)).map rnQ := by
  unfold grQ
  rw [List.map_map]
  refine List.map_congr_left fun x _ => ?_
  exact (rnQ_of x).symm
theorem gy_ok (h : Th11 n S T) : ∀ x ∈ (gy T S n 0).map (rnOf T S n), RnOk S x := fun x hx => by
  obtain ⟨f, hf, rfl⟩ := List.mem_map.mp hx
  have hf := gy_mem _ 0 rfl f hf
  have hc := R11.cnt_pos (T := T) (S := S) hf
  have hl := R11.cnt_le (T := T) (S := S) hf
  have := h.n2
  exact ⟨h.lt f hf, hc, by show cnt T S n f ≤ 24; omega⟩
theorem threaded_gr (h : Th11 n S T) (s : Sq) : p_threaded [.tup (grQ T S n 0), .int (S : Nat)] s = okQ (tr n T) s := by
  have n1 := h.n1
  have n2 := h.n2
  obtain ⟨g1, g2⟩ := gy_len (T := T) (S := S) (n := n) _ 0 rfl
  have hne : (gy T S n 0).map (rnOf T S n) ≠ [] := by rw [gy_lt (by omega)]; simp
  rw [grQ_eq, threaded_pre ⟨h.s1, h.s2⟩ (gy_ok h) hne (by rw [List.length_map]; omega)]
  have e := gy_mk h _ 0 rfl (by omega)
  rw [e, if_pos (by rw [rg_len]; omega)]
  unfold nats tr
  rw [rg_map]
  simp only [Nat.zero_add, Nat.sub_zero]
theorem E_le_n (f : Nat) : E T S n f ≤ n - f := by
  obtain ⟨g1, g2⟩ := gy_len (T := T) (S := S) (n := n) _ f rfl
  omega
/-! ### what is told -/
def L11 : List Clq := (jhCons [("ArgumentError", false), ("PaperError", true)] 4 (qFld ["ArgumentError", "PaperError"] "reason") (jhCons [("ArgumentError", true), ("PaperError", false)] 4 (fun x => qTup ((fun x => qCons ((fun _ => (qC (.str "argument"))) x) ((fun x => qCons ((qFld ["ArgumentError", "PaperError"] "reason") x) ((fun _ => qNil) x)) x)) x)) jhNil))
theorem lk11a : List.lookup ("ArgumentError" : Str) [("ArgumentError", false), ("PaperError", true)] = some false := by decide +kernel
theorem lk11b : List.lookup ("ArgumentError" : Str) [("ArgumentError", true), ("PaperError", false)] = some true := by decide +kernel
theorem lk11c : List.lookup ("PaperError" : Str) [("ArgumentError", false), ("PaperError", true)] = some true := by decide +kernel
theorem mem11a : ("ArgumentError" : Str) ∈ (["ArgumentError", "PaperError"] : List Str) := by decide +kernel
theorem mem11b : ("PaperError" : Str) ∈ (["ArgumentError", "PaperError"] : List Str) := by decide +kernel
inductive Told11 : Rq Q → Q → Sq → Prop
  | ok (x : Q) (s : Sq) : Told11 (okQ x s) x s
  | arg (y : Str) (s : Sq) : Told11 (some (.error (arg11 y), s)) (.tup [.str "argument", .str y]) s
  | pap (y : Str) (s : Sq) : Told11 (some (.error (pap11 y), s)) (.str y) s
theorem told_try11 {b : SFq} {v0 v1 v2 v3 v4 : Option Q} {r : Rq Q} {v : Q} {s s' : Sq} (h : Told11 r v s') (hb : ∀ P : FlQ → Sq → Prop, WF (toSq [v0, v1, v2, v3, v4] r fun v s1 => some (.ret v, s1)) P → WF (b [v0, v1, v2, v3, v4] s) P) :
    WF (qTryM b L11 [v0, v1, v2, v3, v4] s) fun fl s2 => fl = .ret v ∧ s2 = s' := by
  cases h with
  | ok x s' => exact wf_tryM (hb _ ⟨_, _, rfl, rfl, rfl⟩)
  | arg y s' =>
    refine wf_tryM (hb _ ⟨_, _, rfl, ?_⟩)
    unfold L11
    rw [tryMF_exn, hdl_no lk11a, hdl_yes (d := .tup [.str "argument", .str y]) (s2 := s') lk11b (by simp) (by simp [mem11a, lkr])]
    exact ⟨_, _, rfl, rfl, rfl⟩
  | pap y s' =>
    refine wf_tryM (hb _ ⟨_, _, rfl, ?_⟩)
    unfold L11
    rw [tryMF_exn, hdl_yes (d := .str y) (s2 := s') lk11c (by simp) (by simp [mem11b, lkr])]
    exact ⟨_, _, rfl, rfl, rfl⟩
noncomputable def call11 (k : Int) (a b : Q) (s : Sq) : Rq Q := if k = 0 then p_fewest_runs [a, b] s else if k = 1 then p_run_table [a, b] s else p_threaded [a, b] s
theorem told11 {k : Int} {a b c v : Q} {s s' : Sq} (hk : k = 0 ∨ k = 1 ∨ k = 2) (h : Told11 (call11 k a b s) v s') : p__law_told_k11 [.int k, a, b, c] s = okQ v s' := by
  generalize hr : call11 k a b s = r at h
  unfold call11 at hr
  obtain ⟨M0, e0, _⟩ := shut p_fewest_runs (fun M => True) trivial
  obtain ⟨M1, e1, _⟩ := shut p_run_table (fun M => True) trivial
  obtain ⟨M2, e2, _⟩ := shut p_threaded (fun M => True) trivial
  obtain ⟨M3, e3, _⟩ := shut p_accept_run_table (fun M => True) trivial
  rw [e0, e1, e2] at hr
  unfold p__law_told_k11 r__law_told_k11
  rw [e0, e1, e2, e3]
  apply WX.eq
  rw [wx_mOf]
  refine ⟨rfl, ?_⟩
  show WF (qSeq (qTryM _ L11) _ [some (.int k), some a, some b, some c, none] s) _
  rw [wf_seq]
  refine WF.mono (told_try11 h fun P hP => ?_) ?_
  · rcases hk with rfl | rfl | rfl
    · simp at hr; simp -implicitDefEqProofs [hr]; exact c_thenRet hP
    · simp at hr; simp -implicitDefEqProofs [hr]; exact c_thenRet hP
    · simp at hr; simp -implicitDefEqProofs [hr]; exact c_thenRet hP
  · rintro fl s2 ⟨rfl, rfl⟩
    exact ⟨rfl, rfl⟩
theorem told11_acc {a b c v : Q} {s s' : Sq} (h : (∃ x, p_accept_run_table [a, b, c] s = okQ x s' ∧ v = .non) ∨ (∃ y, p_accept_run_table [a, b, c] s = some (.error (arg11 y), s') ∧ v = .tup [.str "argument", .str y]) ∨ ∃ y, p_accept_run_table [a, b, c] s = some (.error (pap11 y), s') ∧ v = .str y) : p__law_told_k11 [.int 3, a, b, c] s = okQ v s' := by
  obtain ⟨M0, e0, _⟩ := shut p_fewest_runs (fun M => True) trivial
  obtain ⟨M1, e1, _⟩ := shut p_run_table (fun M => True) trivial
  obtain ⟨M2, e2, _⟩ := shut p_threaded (fun M => True) trivial
  obtain ⟨M3, e3, _⟩ := shut p_accept_run_table (fun M => True) trivial
  rw [e3] at h
  unfold p__law_told_k11 r__law_told_k11
  rw [e0, e1, e2, e3]
  apply WX.eq
  rw [wx_mOf]
  refine ⟨rfl, ?_⟩
  show WF (qSeq (qTryM _ L11) _ [some (.int 3), some a, some b, some c, none] s) _
  rw [wf_seq]
  refine wf_tryM ?_
  rcases h with ⟨x, h, rfl⟩ | ⟨y, h, rfl⟩ | ⟨y, h, rfl⟩
  · refine ⟨.nx [some (.int 3), some a, some b, some c, none], s', by simp -implicitDefEqProofs [z_Seq, h], ?_⟩
    rw [tryMF_nx, thenF_nx]
    exact c_ret (s1 := s') (v := .non) rfl ⟨rfl, rfl⟩
  · refine ⟨.exn (arg11 y) [some (.int 3), some a, some b, some c, none], s', by simp -implicitDefEqProofs [z_Seq, h], ?_⟩
    unfold L11
    rw [tryMF_exn, hdl_no lk11a, hdl_yes (d := .tup [.str "argument", .str y]) (s2 := s') lk11b (by simp) (by simp [mem11a, lkr])]
    exact ⟨_, _, rfl, rfl, rfl⟩
  · refine ⟨.exn (pap11 y) [some (.int 3), some a, some b, some c, none], s', by simp -implicitDefEqProofs [z_Seq, h], ?_⟩
    unfold L11
    rw [tryMF_exn, hdl_yes (d := .str y) (s2 := s') lk11c (by simp) (by simp [mem11b, lkr])]
    exact ⟨_, _, rfl, rfl, rfl⟩
end
end Dn

set_option Elab.async false
set_option linter.all false
set_option maxRecDepth 100000
set_option maxHeartbeats 4000000
set_option autoImplicit false
namespace Dn
open PySem L2 Sh
open R11 (wn wn_cast wn_lt wn_self wn_add Run IsLen len cnt E down)
/-! ### tables, bent ones -/
def isBq : Q → Bool
  | .bl _ => true
  | _ => false
abbrev Smp (x : Q) : Prop := Nice 0 13 x
theorem smp_isi {x : Q} (h : Smp x) : uIsi "int" x = some (.bl (isI x || isBq x)) ∧ uIsi "bool" x = some (.bl (isBq x)) := by
  have hr := h.rd
  cases x with
  | atr => simp [pyQ] at hr
  | drs _ => simp [pyQ] at hr
  | scr => simp [pyQ] at hr
  | rng _ _ _ => simp [pyQ] at hr
  | dic _ _ => simp [pyQ] at hr
  | gd _ => simp [pyQ] at hr
  | tup _ => simp [pyQ] at hr
  | lst _ => simp [pyQ] at hr
  | non => exact ⟨rfl, rfl⟩
  | bl _ => exact ⟨rfl, rfl⟩
  | int _ => exact ⟨rfl, rfl⟩
  | str _ => exact ⟨rfl, rfl⟩
theorem isI_not {x : Q} : (!(isI x || isBq x) || isBq x) = !isI x := by cases x <;> rfl
theorem all_bl {α : Type} (f : α → Bool) (l : List α) : uAll (l.map fun x => Q.bl (f x)) = some (.bl (l.all f)) := by
  have : Sh.uB (l.map fun x => Q.bl (f x)) = some (l.map f) := by
    induction l with
    | nil => rfl
    | cons x l ih => simp only [List.map_cons, Sh.uB, ih]; rfl
  unfold uAll
  rw [this]
  simp [List.all_map, Function.comp_def]
theorem pyTs_len : ∀ xs : List Q, (pyTs xs).length = xs.length
  | [] => rfl
  | x :: xs => by simp [pyTs, pyTs_len xs]
theorem nil_smp {xs : List Q} (h : ∀ x ∈ xs, Smp x) : uNe (.lst xs) (.lst []) = some (.bl (decide (xs ≠ []))) := by
  have e : pyQ 1 (.lst xs) = some (.list (pyTs xs)) := (nice_lst (k := 0) (w := 13) (n := xs.length) h (Nat.le_refl _)).rd
  exact (nil_eq (pyQ_up (by omega) e) (pyTs_len xs)).2
section
variable {n S : Nat} {T : Nat → Nat} {s : Sq}
noncomputable def tabQ (T : Nat → Nat) (S n : Nat) : Q := .tup (rg (n + 1) fun i => .int (E T S n i : Nat))
theorem nice_tab (h : Th11 n S T) : Nice 1 (25 * 14) (tabQ T S n) := nice_tup (k := 0) (w := 13) (n := 25) (fun q hq => by
  obtain ⟨i, _, rfl⟩ := List.mem_map.mp hq
  have := E_le_n (T := T) (S := S) (n := n) i
  have := h.n2
  exact nice_nat (by omega)) (by rw [rg_len]; have := h.n2; omega)
def formB (n : Nat) (xs : List Q) : Bool := decide (xs.length = n + 1) && xs.all isI
theorem smp_kind {x : Q} (h : Smp x) : ∃ t, uKind x = some t := kindQ h
theorem all_int (xs : List Q) (h : ∀ x ∈ xs, Smp x) (hl : xs.length ≤ 1000) (x0 x1 x3 : Option Q) (s : Sq) : qCall uAll (qComp (jE (qVar 2)) [3] (uN 3) qTrue (qApp 1 p_is_integer (qCons (qVar 3) qNil))) [x0, x1, some (.tup xs), x3] s = okQ (.bl (xs.all isI)) s := by
  obtain ⟨I, eI, hI⟩ := shut p_is_integer (fun I => ∀ x s, Smp x → I [x] s = okQ (.bl (isI x)) s) fun x s hx => by
    obtain ⟨t, ht⟩ := smp_kind hx
    exact is_integer_ok ht s
  rw [eI]
  have lz : xs.length ≤ 16777216 := by omega
  have e0 : jE (qVar 2) [x0, x1, some (.tup xs), x3] s = okQ (xs.map id) s := by rw [List.map_id]; rfl
  rw [z_Call, z_Comp, e0]
  simp only [bindQ_ok, List.length_map, if_pos lz]
  rw [comp_all' id (fun x => Q.bl (isI x))]
  · rw [bindQ_ok, all_bl]; rfl
  · intro x hx
    exact ⟨_, rfl, fun s => by simp -implicitDefEqProofs [hI x _ (h x hx)]⟩
theorem acc_ok (h : Th11 n S T) (xs : List Q) (hx : ∀ x ∈ xs, Smp x) (hl : xs.length ≤ 1000) (s : Sq) :
    p_accept_run_table [tr n T, .int (S : Nat), .tup xs] s = if formB n xs = true then (if PyData.eqv (pyT (.tup xs)) (pyT (tabQ T S n)) = true then okQ .non s else some (.error (pap11 "entry"), s)) else some (.error (pap11 "form"), s) := by
  obtain ⟨A, eA, hA⟩ := shut p__check_threading (fun A => ∀ s, A [tr n T, .int (S : Nat)] s = okQ .non s) fun s => check_threading_ok h s
  obtain ⟨Rw, eR, hR⟩ := shut p_is_row (fun M => ∀ s, M [.tup xs, .int ((n + 1 : Nat) : Int)] s = okQ (.bl ((xs.length : Int) == ((n + 1 : Nat) : Int))) s) fun s => is_row_ok s
  obtain ⟨Tb, eT, hT⟩ := shut p_run_table (fun M => ∀ s, M [tr n T, .int (S : Nat)] s = okQ (tabQ T S n) s) fun s => table_ok h s
  have ai := all_int xs hx hl (some (tr n T)) (some (.int (S : Nat))) none
  have hn : Nice 1 (xs.length * 14) (.tup xs) := nice_tup (k := 0) (w := 13) hx (Nat.le_refl _)
  have un := uNe_nice hn (nice_tab h)
  have ad : uAdd (.int (n : Nat)) (.int 1) = some (.int ((n + 1 : Nat) : Int)) := by simp
  have fb : formB n xs = (((xs.length : Int) == ((n + 1 : Nat) : Int)) && xs.all isI) := by
    unfold formB
    congr 1
    rw [Bool.eq_iff_iff, decide_eq_true_eq, beq_iff_eq]
    omega
  rw [fb]
  generalize PyData.eqv (pyT (.tup xs)) (pyT (tabQ T S n)) = tt at un ⊢
  generalize ((xs.length : Int) == ((n + 1 : Nat) : Int)) = b1 at hR ⊢
  generalize xs.all isI = b2 at ai ⊢
  have v0 : ∀ s, qCall (u1L uLen) (qCons (qVar 0) qNil) [some (tr n T), some (.int (S : Nat)), some (.tup xs), none] s = okQ (.int (n : Nat)) s := fun s => by simp -implicitDefEqProofs [tr_len]
  generalize hres : (if (b1 && b2) = true then (if tt = true then okQ Q.non s else some (Except.error (pap11 "entry"), s)) else some (Except.error (pap11 "form"), s)) = res
  obtain ⟨xr, hxr⟩ : ∃ xr, res = some (xr, s) := by
    rw [← hres]
    cases b1 <;> cases b2 <;> cases tt <;> exact ⟨_, rfl⟩
  subst hxr
  unfold p_accept_run_table r_accept_run_table
  rw [eA, eR, eT]
  apply WX.eq
  rw [wx_mOf]
  refine ⟨rfl, ?_⟩
  show WF (qSeq _ _ [some (tr n T), some (.int (S : Nat)), some (.tup xs), none] s) _
  rw [wf_seq]
  refine ⟨.nx [some (tr n T), some (.int (S : Nat)), some (.tup xs), none], s, by simp -implicitDefEqProofs [hA], ?_⟩
  rw [thenF_nx, wf_seq]
  have c1 : ∀ s, qOrF (qNotF (qTru (qApp 2 Rw (qCons (qVar 2) (qCons (qBin uAdd (qCall (u1L uLen) (qCons (qVar 0) qNil)) (qC (.int 1))) qNil))))) (qNotF (qTru (qCall uAll (qComp (jE (qVar 2)) [3] (uN 3) qTrue (qApp 1 p_is_integer (qCons (qVar 3) qNil)))))) [some (tr n T), some (.int (S : Nat)), some (.tup xs), none] s = okQ (!(b1 && b2)) s := fun s => by
    have k1 : ∀ ρ s, qC (.int 1) ρ s = okQ (.int 1) s := fun _ _ => rfl
    have v2 : ∀ s, qVar 2 [some (tr n T), some (.int (S : Nat)), some (.tup xs), none] s = okQ (.tup xs) s := fun s => rfl
    simp -implicitDefEqProofs only [z_OrF, z_NotF, z_Tru, z_App, z_Cons, z_Nil, z_Bin, v0, v2, k1, bindQ_ok, ad, liftQ_some, List.length_cons, List.length_nil, hR, ai, if_true]
    cases b1 <;> cases b2 <;> rfl
  cases hb : (b1 && b2) with
  | false =>
    rw [hb, if_neg (by simp)] at hres
    cases hres
    exact wf_ifT (s1 := s) (by rw [c1, hb]; rfl) ⟨.exn (pap11 "form") _, s, rfl, ⟨rfl, rfl⟩⟩
  | true =>
    rw [hb, if_pos rfl] at hres
    refine wf_ifF (s1 := s) (by rw [c1, hb]; rfl) ?_
    rw [thenF_nx]
    have c2 : ∀ s, qT (qBin uNe (qVar 2) (qApp 2 Tb (qCons (qVar 0) (qCons (qVar 1) qNil)))) [some (tr n T), some (.int (S : Nat)), some (.tup xs), none] s = okQ (!tt) s := fun s => by
      simp -implicitDefEqProofs [hT, un]
    cases tt with
    | true =>
      rw [if_pos rfl] at hres
      cases hres
      exact wf_ifF (s1 := s) (c2 s) ⟨rfl, rfl⟩
    | false =>
      rw [if_neg (by simp)] at hres
      cases hres
      exact wf_ifT (s1 := s) (c2 s) ⟨.exn (pap11 "entry") _, s, rfl, ⟨rfl, rfl⟩⟩
theorem acc_none11 (h : Th11 n S T) (s : Sq) : p_accept_run_table [tr n T, .int (S : Nat), .non] s = some (.error (pap11 "form"), s) := by
  obtain ⟨A, eA, hA⟩ := shut p__check_threading (fun A => ∀ s, A [tr n T, .int (S : Nat)] s = okQ .non s) fun s => check_threading_ok h s
  obtain ⟨Rw, eR, hR⟩ := shut p_is_row (fun M => ∀ (i : Int) s, M [.non, .int i] s = okQ (.bl false) s) fun i s => is_row_no (t := "NoneType") rfl rfl s
  have ad : uAdd (.int (n : Nat)) (.int 1) = some (.int ((n + 1 : Nat) : Int)) := by simp
  unfold p_accept_run_table r_accept_run_table
  rw [eA, eR]
  apply WX.eq
  rw [wx_mOf]
  refine ⟨rfl, ?_⟩
  show WF (qSeq _ _ [some (tr n T), some (.int (S : Nat)), some .non, none] s) _
  rw [wf_seq]
  refine ⟨.nx [some (tr n T), some (.int (S : Nat)), some .non, none], s, by simp -implicitDefEqProofs [hA], ?_⟩
  rw [thenF_nx, wf_seq]
  exact wf_ifT (s1 := s) (by simp -implicitDefEqProofs [tr_len, ad, hR, -uAdd_int, -Int.natCast_add]) ⟨.exn (pap11 "form") _, s, rfl, ⟨rfl, rfl⟩⟩
theorem reason_non (h : Th11 n S T) (s : Sq) : p__law_reason_k11 [.non, tabQ T S n] s = okQ (.str "form") s := by
  have ui : uIsi "tuple" .non = some (.bl false) := rfl
  unfold p__law_reason_k11 r__law_reason_k11
  apply WX.eq
  rw [wx_mOf]
  refine ⟨rfl, ?_⟩
  show WF (qSeq _ _ [some .non, some (tabQ T S n), none] s) _
  rw [wf_seq]
  exact wf_ifT (s1 := s) (by simp -implicitDefEqProofs [ui]) (c_ret (s1 := s) (v := .str "form") rfl ⟨rfl, rfl⟩)
theorem reason_ok (h : Th11 n S T) (xs : List Q) (hx : ∀ x ∈ xs, Smp x) (hl : xs.length ≤ 1000) (s : Sq) :
    p__law_reason_k11 [.tup xs, tabQ T S n] s = okQ (if formB n xs = true then (if PyData.eqv (pyT (.tup xs)) (pyT (tabQ T S n)) = true then .non else .str "entry") else .str "form") s := by
  have hn : Nice 1 (xs.length * 14) (.tup xs) := nice_tup (k := 0) (w := 13) hx (Nat.le_refl _)
  have ue := uEq_nice hn (nice_tab h)
  have ut : uIsi "tuple" (.tup xs) = some (.bl true) := isi_tup (q := .tup xs) rfl
  have lz : xs.length ≤ 16777216 := by omega
  have ul : uLen (.tup xs) = some (.int (xs.length : Nat)) := by simp
  have ul2 : uLen (tabQ T S n) = some (.int ((n + 1 : Nat) : Int)) := by
    have : uLen (tabQ T S n) = some (.int ((rg (n + 1) fun i => Q.int (E T S n i : Nat)).length : Nat)) := by unfold tabQ; simp
    rw [this, rg_len]
  have nn := ne_nn11 xs.length (n + 1)
  have c1 : ∀ s, qComp (jE (qVar 0)) [2] (uN 2) (qOrF (qNotF (qTru (qUn (uIsi "int") (qVar 2)))) (qTru (qUn (uIsi "bool") (qVar 2)))) (qVar 2) [some (.tup xs), some (tabQ T S n), none] s = okQ (xs.filter fun x => !isI x) s := fun s => by
    have e0 : jE (qVar 0) [some (.tup xs), some (tabQ T S n), none] s = okQ (xs.map id) s := by rw [List.map_id]; rfl
    rw [z_Comp, e0]
    simp only [bindQ_ok, List.length_map, if_pos lz]
    rw [comp_map' id (fun x => !isI x) id]
    · rw [List.map_id]
    · intro x hx'
      obtain ⟨i1, i2⟩ := smp_isi (hx x hx')
      refine ⟨_, rfl, fun s => ⟨?_, fun _ => by simp -implicitDefEqProofs⟩⟩
      have v2 : ∀ s, qVar 2 ((wipeQ [some (.tup xs), some (tabQ T S n), none] [2]).set 2 (some (id x))) s = okQ x s := fun s => rfl
      rw [← isI_not]
      simp -implicitDefEqProofs only [z_OrF, z_NotF, z_Tru, z_Un, v2, bindQ_ok, i1, i2, liftQ_some]
      cases isI x <;> cases isBq x <;> rfl
  have ne := nil_smp (xs := xs.filter fun x => !isI x) fun x hx' => hx x (List.mem_filter.mp hx').1
  have fe : decide ((xs.filter fun x => !isI x) ≠ []) = !xs.all isI := by
    rw [Bool.eq_iff_iff, decide_eq_true_eq]
    cases ha : xs.all isI with
    | true =>
      have ha := List.all_eq_true.mp ha
      simp only [Bool.not_true, Bool.false_eq_true, iff_false, ne_eq, Classical.not_not]
      rw [List.filter_eq_nil_iff]
      intro x hx'
      rw [ha x hx']
      simp
    | false =>
      obtain ⟨x, h1, h2⟩ := List.all_eq_false.mp ha
      simp only [Bool.not_false, iff_true]
      intro hc
      have := List.filter_eq_nil_iff.mp hc x h1
      apply h2
      cases hi : isI x with
      | true => rfl
      | false => rw [hi] at this; simp at this
  rw [fe] at ne
  unfold p__law_reason_k11 r__law_reason_k11
  apply WX.eq
  rw [wx_mOf]
  refine ⟨rfl, ?_⟩
  show WF (qSeq _ _ [some (.tup xs), some (tabQ T S n), none] s) _
  rw [wf_seq]
  have c2 : ∀ s, qOrF (qNotF (qTru (qUn (uIsi "tuple") (qVar 0)))) (qOrF (qT (qBin uNe (qCall (u1L uLen) (qCons (qVar 0) qNil)) (qCall (u1L uLen) (qCons (qVar 1) qNil)))) (qT (qBin uNe (qAl (qComp (jE (qVar 0)) [2] (uN 2) (qOrF (qNotF (qTru (qUn (uIsi "int") (qVar 2)))) (qTru (qUn (uIsi "bool") (qVar 2)))) (qVar 2))) (qAl (qLst qNil))))) [some (.tup xs), some (tabQ T S n), none] s = okQ (!formB n xs) s := fun s => by
    have v0 : ∀ s, qVar 0 [some (.tup xs), some (tabQ T S n), none] s = okQ (.tup xs) s := fun s => rfl
    have v1 : ∀ s, qVar 1 [some (.tup xs), some (tabQ T S n), none] s = okQ (tabQ T S n) s := fun s => rfl
    have nl : ∀ ρ s, qLst qNil ρ s = okQ [] s := fun _ _ => rfl
    simp -implicitDefEqProofs only [z_OrF, z_NotF, z_Tru, z_T, z_Un, z_Bin, z_Call, z_Cons, z_Nil, z_Al, v0, v1, bindQ_ok, ut, liftQ_some, u1L, ul, ul2, nn, c1, nl, ne]
    unfold formB
    by_cases he : xs.length = n + 1
    · simp [he]
    · simp [he]
  cases hf : formB n xs with
  | false =>
    rw [if_neg (by simp)]
    exact wf_ifT (s1 := s) (by rw [c2, hf]; rfl) (c_ret (s1 := s) (v := .str "form") rfl ⟨rfl, rfl⟩)
  | true =>
    rw [if_pos rfl]
    refine wf_ifF (s1 := s) (by rw [c2, hf]; rfl) ?_
    rw [thenF_nx]
    generalize PyData.eqv (pyT (.tup xs)) (pyT (tabQ T S n)) = tt at ue ⊢
    refine c_ret (s1 := s) (v := if tt = true then .non else .str "entry") ?_ ⟨rfl, rfl⟩
    cases tt <;> simp -implicitDefEqProofs [ue]
/-- a bent table -/
def Bent (q : Q) : Prop := q = .non ∨ ∃ xs : List Q, q = .tup xs ∧ (∀ x ∈ xs, Smp x) ∧ xs.length ≤ 1000
theorem bent_told (h : Th11 n S T) {q : Q} (hq : Bent q) : ∃ v, (∀ s, p__law_told_k11 [.int 3, tr n T, .int (S : Nat), q] s = okQ v s) ∧ (∀ s, p__law_reason_k11 [q, tabQ T S n] s = okQ v s) ∧ uNe v v = some (.bl false) := by
  rcases hq with rfl | ⟨xs, rfl, hx, hl⟩
  · exact ⟨.str "form", fun s => told11_acc (.inr (.inr ⟨_, acc_none11 h s, rfl⟩)), fun s => reason_non h s, by simp⟩
  · refine ⟨if formB n xs = true then (if PyData.eqv (pyT (.tup xs)) (pyT (tabQ T S n)) = true then .non else .str "entry") else .str "form", fun s => ?_, fun s => reason_ok h xs hx hl s, ?_⟩
    · have := acc_ok h xs hx hl s
      refine told11_acc ?_
      by_cases h1 : formB n xs = true
      · by_cases h2 : PyData.eqv (pyT (.tup xs)) (pyT (tabQ T S n)) = true
        · rw [if_pos h1, if_pos h2] at this
          rw [if_pos h1, if_pos h2]
          exact .inl ⟨_, this, rfl⟩
        · rw [if_pos h1, if_neg h2] at this
          rw [if_pos h1, if_neg h2]
          exact .inr (.inr ⟨_, this, rfl⟩)
      · rw [if_neg h1] at this
        rw [if_neg h1]
        exact .inr (.inr ⟨_, this, rfl⟩)
    · split
      · split
        · rfl
        · simp
      · simp
theorem bent_tab (h : Th11 n S T) : Bent (tabQ T S n) := .inr ⟨_, rfl, fun x hx => by
  obtain ⟨i, _, rfl⟩ := List.mem_map.mp hx
  have := E_le_n (T := T) (S := S) (n := n) i
  have := h.n2
  exact nice_nat (by omega), by rw [rg_len]; have := h.n2; omega⟩
end
end Dn

set_option Elab.async false
set_option linter.all false
set_option maxRecDepth 100000
set_option maxHeartbeats 4000000
set_option autoImplicit false
namespace Dn
open PySem L2 Sh
open R11 (wn wn_cast wn_lt wn_self wn_add Run IsLen len cnt E down)
section
variable {ns : List Int} {n S : Nat} {T : Nat → Nat} {s : Sq}
noncomputable abbrev tabR (T : Nat → Nat) (S n : Nat) : List Q := rg (n + 1) fun i => .int (E T S n i : Nat)
theorem smp_tabR (h : Th11 n S T) : ∀ x ∈ tabR T S n, Smp x := fun x hx => by
  obtain ⟨i, _, rfl⟩ := List.mem_map.mp hx
  have := E_le_n (T := T) (S := S) (n := n) i
  have := h.n2
  exact nice_nat (by omega)
noncomputable def six11 (T : Nat → Nat) (S n m : Nat) : List Q := [.int ((E T S n m : Int) + 1), .int ((E T S n m : Int) - 1), .int 0, .bl true, .non, .str "1"]
theorem smp_six (h : Th11 n S T) (m : Nat) : ∀ x ∈ six11 T S n m, Smp x := fun x hx => by
  have := E_le_n (T := T) (S := S) (n := n) m
  have := h.n2
  simp only [six11, List.mem_cons, List.not_mem_nil, or_false] at hx
  rcases hx with rfl | rfl | rfl | rfl | rfl | rfl
  · exact nice_int (by omega)
  · exact nice_int (by omega)
  · exact nice_int (by omega)
  · exact nice_bl
  · exact nice_non
  · exact nice_str (by decide +kernel)
theorem tup1 {f : EQ Q} {ρ : RhoQ} {s s1 : Sq} {x : Q} (h : f ρ s = okQ x s1) : qTup (qCons f qNil) ρ s = okQ (.tup [x]) s1 := by
  rw [z_Tup, z_Cons, h]
  rfl
theorem bent_ok (h : Th11 n S T) (s : Sq) : ∃ q s', p__law_bent [tabQ T S n, .drs ns, .atr] s = okQ q s' ∧ Bent q := by
  obtain ⟨M, eM, hM⟩ := shut p__law_take (TakeP ns) (takeP ns)
  obtain ⟨O, eO, hO⟩ := shut p__law_one (fun O => ∀ (xs : List Q) (s : Sq), xs ≠ [] → xs.length ≤ 1000 → ∃ x s', O [.lst xs, .drs ns, .atr] s = okQ x s' ∧ x ∈ xs) fun xs s hx hl => one_ok hx hl s
  have n2 := h.n2
  suffices key : WX (p__law_bent [tabQ T S n, .drs ns, .atr] s) fun x s' => ∃ q, x = .ok q ∧ Bent q by
    obtain ⟨x, s', e1, v, rfl, hv⟩ := key
    exact ⟨_, s', e1, hv⟩
  unfold p__law_bent r__law_bent
  rw [eM, eO, wx_mOf]
  refine ⟨rfl, ?_⟩
  show WF (qSeq _ _ [some (tabQ T S n), some (.drs ns), some .atr, none, none, none] s) _
  have ul2 : uLen (tabQ T S n) = some (.int ((n + 1 : Nat) : Int)) := by
    have : uLen (tabQ T S n) = some (.int ((tabR T S n).length : Nat)) := by unfold tabQ; simp
    rw [this, rg_len]
  obtain ⟨k, s1, e1, k0, k1⟩ := hM ((n + 1 : Nat) : Int) s (by omega)
  obtain ⟨m, rfl⟩ : ∃ m : Nat, k = (m : Nat) := ⟨k.toNat, by omega⟩
  have hm : m < n + 1 := by omega
  rw [wf_seq]
  refine wf_setv (s1 := s1) (v := .int (m : Nat)) (by simp -implicitDefEqProofs [ul2, e1, -Int.natCast_add]) ?_
  rw [thenF_nx, wf_seq]
  show WF (qSet _ 4 [some (tabQ T S n), some (.drs ns), some .atr, some (.int (m : Nat)), none, none] s1) _
  have ix : uIx (tabQ T S n) (.int (m : Nat)) = some (.int (E T S n m : Nat)) := by
    have a : atI (tabR T S n) (m : Int) = some (.int (E T S n m : Nat)) := rg_at hm
    unfold tabQ
    simp [a]
  have ad1 : uAdd (.int (m : Nat)) (.int 1) = some (.int ((m + 1 : Nat) : Int)) := by simp
  have sb1 : uI2 gSub (.int (E T S n m : Nat)) (.int 1) = some (.int ((E T S n m : Int) - 1)) := rfl
  have c1 : cutD (tabR T S n) none (some (m : Int)) = (tabR T S n).take m := c_cutTo _ _ (by rw [rg_len]; omega)
  have c2 : cutD (tabR T S n) (some ((m + 1 : Nat) : Int)) none = (tabR T S n).drop (m + 1) := c_cutFrom _ _
  have sm := smp_tabR h
  have smT : ∀ x ∈ (tabR T S n).take m, Smp x := fun x hx => sm x (List.mem_of_mem_take hx)
  have smD : ∀ k, ∀ x ∈ (tabR T S n).drop k, Smp x := fun k x hx => sm x (List.mem_of_mem_drop hx)
  have lT : ((tabR T S n).take m).length ≤ 25 := by rw [List.length_take, rg_len]; omega
  have lD : ∀ k, ((tabR T S n).drop k).length ≤ 25 := fun k => by rw [List.length_drop, rg_len]; omega
  have vt : ∀ x4 x5 s, qVar 0 [some (tabQ T S n), some (.drs ns), some .atr, some (.int (m : Nat)), x4, x5] s = okQ (.tup (tabR T S n)) s := fun _ _ _ => rfl
  have sl1 : ∀ x4 x5 s, qSl (qVar 0) qoN (qoS (qVar 3)) [some (tabQ T S n), some (.drs ns), some .atr, some (.int (m : Nat)), x4, x5] s = okQ (.tup ((tabR T S n).take m)) s := fun x4 x5 s => by
    have v3 : ∀ s, qVar 3 [some (tabQ T S n), some (.drs ns), some .atr, some (.int (m : Nat)), x4, x5] s = okQ (.int (m : Nat)) s := fun _ => rfl
    simp -implicitDefEqProofs only [z_Sl, z_oN, z_oS, vt, v3, bindQ_ok, c1]
  have sl2 : ∀ x4 x5 s, qSl (qVar 0) (qoS (qBin uAdd (qVar 3) (qC (.int 1)))) qoN [some (tabQ T S n), some (.drs ns), some .atr, some (.int (m : Nat)), x4, x5] s = okQ (.tup ((tabR T S n).drop (m + 1))) s := fun x4 x5 s => by
    have v3 : ∀ s, qVar 3 [some (tabQ T S n), some (.drs ns), some .atr, some (.int (m : Nat)), x4, x5] s = okQ (.int (m : Nat)) s := fun _ => rfl
    have k1 : ∀ ρ s, qC (.int 1) ρ s = okQ (.int 1) s := fun _ _ => rfl
    simp -implicitDefEqProofs only [z_Sl, z_oN, z_oS, z_Bin, vt, v3, k1, bindQ_ok, ad1, liftQ_some, c2]
  have l6 : (six11 T S n m).length ≤ 16777216 := by simp [six11]
  refine wf_setv (s1 := s1) (v := .lst ((six11 T S n m).map fun x => .tup ((tabR T S n).take m ++ [x] ++ (tabR T S n).drop (m + 1)))) ?_ ?_
  · have e0 : qLst (qCons (qBin uAdd (qBin uIx (qVar 0) (qVar 3)) (qC (.int 1))) (qCons (qBin (uI2 gSub) (qBin uIx (qVar 0) (qVar 3)) (qC (.int 1))) (qCons (qC (.int 0)) (qCons (qC (.bl true)) (qCons (qC .non) (qCons (qC (.str "1")) qNil)))))) [some (tabQ T S n), some (.drs ns), some .atr, some (.int (m : Nat)), none, none] s1 = okQ ((six11 T S n m).map id) s1 := by
      rw [List.map_id]
      simp -implicitDefEqProofs [ix, sb1]
      rfl
    rw [z_Al, z_Comp, e0]
    simp only [bindQ_ok, List.length_map, if_pos l6]
    rw [comp_all' id (fun x => Q.tup ((tabR T S n).take m ++ [x] ++ (tabR T S n).drop (m + 1)))]
    · rfl
    · intro x hx
      refine ⟨[some (tabQ T S n), some (.drs ns), some .atr, some (.int (m : Nat)), none, some x], rfl, fun s => ?_⟩
      have v5 : ∀ s, qVar 5 [some (tabQ T S n), some (.drs ns), some .atr, some (.int (m : Nat)), none, some x] s = okQ x s := fun _ => rfl
      have a1 := uAdd_tup (xs := (tabR T S n).take m) (ys := [x]) (by simp; omega)
      have a2 := uAdd_tup (xs := (tabR T S n).take m ++ [x]) (ys := (tabR T S n).drop (m + 1)) (by have := lD (m + 1); rw [List.length_append]; simp only [List.length_singleton]; omega)
      have t1 : ∀ s, qTup (qCons (qVar 5) qNil) [some (tabQ T S n), some (.drs ns), some .atr, some (.int (m : Nat)), none, some x] s = okQ (.tup [x]) s := fun s => tup1 (v5 s)
      simp -implicitDefEqProofs only [z_Bin, t1, sl1, sl2, bindQ_ok, a1, a2, liftQ_some]
  rw [thenF_nx]
  show WF (qRet _ [some (tabQ T S n), some (.drs ns), some .atr, some (.int (m : Nat)), some (.lst ((six11 T S n m).map fun x => .tup ((tabR T S n).take m ++ [x] ++ (tabR T S n).drop (m + 1)))), none] s1) _
  obtain ⟨q, s2, e2, hq⟩ := hO (((six11 T S n m).map fun x => Q.tup ((tabR T S n).take m ++ [x] ++ (tabR T S n).drop (m + 1))) ++ [.tup ((tabR T S n).drop 1), .tup (tabR T S n ++ [.int 0]), .non, .tup (tabR T S n).reverse, .tup ((tabR T S n).take m ++ (tabR T S n).drop (m + 1))]) s1 (by simp) (by simp [six11])
  refine c_ret (s1 := s2) (v := q) ?_ ⟨q, rfl, ?_⟩
  · have c3 : cutD (tabR T S n) (some 1) none = (tabR T S n).drop 1 := c_cutFrom _ 1
    have k1 : ∀ ρ s, qC (.int 1) ρ s = okQ (.int 1) s := fun _ _ => rfl
    have k0 : ∀ ρ s, qC (.int 0) ρ s = okQ (.int 0) s := fun _ _ => rfl
    have kn : ∀ ρ s, qC .non ρ s = okQ .non s := fun _ _ => rfl
    have a1 := uAdd_tup (xs := tabR T S n) (ys := [.int 0]) (by rw [rg_len]; simp; omega)
    have a2 := uAdd_tup (xs := (tabR T S n).take m) (ys := (tabR T S n).drop (m + 1)) (by have := lD (m + 1); omega)
    have v4 : ∀ s, qVar 4 [some (tabQ T S n), some (.drs ns), some .atr, some (.int (m : Nat)), some (.lst ((six11 T S n m).map fun x => .tup ((tabR T S n).take m ++ [x] ++ (tabR T S n).drop (m + 1)))), none] s = okQ (.lst ((six11 T S n m).map fun x => .tup ((tabR T S n).take m ++ [x] ++ (tabR T S n).drop (m + 1)))) s := fun _ => rfl
    have v1 : ∀ x s, qVar 1 [some (tabQ T S n), some (.drs ns), some .atr, some (.int (m : Nat)), x, none] s = okQ (.drs ns) s := fun _ _ => rfl
    have v2 : ∀ x s, qVar 2 [some (tabQ T S n), some (.drs ns), some .atr, some (.int (m : Nat)), x, none] s = okQ .atr s := fun _ _ => rfl
    have sl3 : ∀ x4 x5 s, qSl (qVar 0) (qoS (qC (.int 1))) qoN [some (tabQ T S n), some (.drs ns), some .atr, some (.int (m : Nat)), x4, x5] s = okQ (.tup ((tabR T S n).drop 1)) s := fun x4 x5 s => by
      simp -implicitDefEqProofs only [z_Sl, z_oN, z_oS, vt, k1, bindQ_ok, c3]
    have t0 : ∀ ρ s, qTup (qCons (qC (.int 0)) qNil) ρ s = okQ (.tup [.int 0]) s := fun ρ s => tup1 (k0 ρ s)
    have l7 : ((six11 T S n m).map fun x => Q.tup ((tabR T S n).take m ++ [x] ++ (tabR T S n).drop (m + 1))).length + [Q.tup ((tabR T S n).drop 1), .tup (tabR T S n ++ [.int 0]), .non, .tup (tabR T S n).reverse, .tup ((tabR T S n).take m ++ (tabR T S n).drop (m + 1))].length ≤ 16777216 := by simp [six11]
    have l5 : [Q.tup ((tabR T S n).drop 1), .tup (tabR T S n ++ [.int 0]), .non, .tup (tabR T S n).reverse, .tup ((tabR T S n).take m ++ (tabR T S n).drop (m + 1))].length ≤ 16777216 := by simp
    simp -implicitDefEqProofs only [z_App, z_Cons, z_Nil, z_Al, z_CatE, z_Lst, z_Rev, t0, z_Bin, vt, v4, v1, v2, kn, bindQ_ok, liftQ_some, a1, a2, sl1, sl2, sl3]
    rw [if_pos l5]
    simp -implicitDefEqProofs only [bindQ_ok]
    rw [if_pos l7]
    simp -implicitDefEqProofs only [bindQ_ok, List.length_cons, List.length_nil, if_true, e2]
  · rcases List.mem_append.mp hq with hq | hq
    · obtain ⟨x, hx, rfl⟩ := List.mem_map.mp hq
      refine .inr ⟨_, rfl, fun y hy => ?_, ?_⟩
      · rcases List.mem_append.mp hy with hy | hy
        · rcases List.mem_append.mp hy with hy | hy
          · exact smT y hy
          · cases List.mem_singleton.mp hy
            exact smp_six h m _ hx
        · exact smD _ y hy
      · have := lD (m + 1)
        rw [List.length_append, List.length_append, List.length_singleton]; omega
    · simp only [List.mem_cons, List.not_mem_nil, or_false] at hq
      rcases hq with rfl | rfl | rfl | rfl | rfl
      · exact .inr ⟨_, rfl, smD 1, by have := lD 1; omega⟩
      · refine .inr ⟨_, rfl, fun y hy => ?_, by rw [List.length_append, rg_len]; simp; omega⟩
        rcases List.mem_append.mp hy with hy | hy
        · exact sm y hy
        · cases List.mem_singleton.mp hy; exact nice_int (by omega)
      · exact .inl rfl
      · exact .inr ⟨_, rfl, fun y hy => sm y (List.mem_reverse.mp hy), by rw [List.length_reverse, rg_len]; omega⟩
      · refine .inr ⟨_, rfl, fun y hy => ?_, by have := lD (m + 1); rw [List.length_append]; omega⟩
        rcases List.mem_append.mp hy with hy | hy
        · exact smT y hy
        · exact smD _ y hy
/-! ### drawn runs -/
theorem runs_ok (hS : 1 ≤ S ∧ S ≤ 16) (s : Sq) : ∃ (l : List Rn) (s' : Sq), p__law_runs [.int (S : Nat), .drs ns, .atr] s = okQ (.tup (l.map rnQ)) s' ∧ l ≠ [] ∧ l.length ≤ 6 ∧ ∀ x ∈ l, RnOk S x := by
  obtain ⟨M, eM, hM⟩ := shut p__law_take (TakeP ns) (takeP ns)
  obtain ⟨O, eO, hO⟩ := shut p__law_one (fun O => ∀ (xs : List Q) (s : Sq), xs ≠ [] → xs.length ≤ 1000 → ∃ x s', O [.lst xs, .drs ns, .atr] s = okQ x s' ∧ x ∈ xs) fun xs s hx hl => one_ok hx hl s
  obtain ⟨J, R, hJ, j1, j2, j3⟩ := r1x
  unfold p__law_runs r__law_runs
  rw [eM, eO, hJ]
  obtain ⟨k, s1, e1, k0, k1⟩ := hM 6 s (by decide)
  have e0 : J (qCons (qBin uAdd (qC (.int 1)) (qApp 3 M (qCons (qVar 1) (qCons (qVar 2) (qCons (qC (.int 6)) qNil))))) qNil) [some (.int (S : Nat)), some (.drs ns), some .atr, none] s = okQ (rg (1 + k).toNat fun i => .int (i : Nat)) s1 := by
    rw [j1]
    simp -implicitDefEqProofs [e1, j3 (1 + k) s1 (by omega)]
  obtain ⟨vs, s2, e2, l2, hv⟩ := comp_draw (g := uN 3) (f := qTup (qCons (qApp 3 M (qCons (qVar 1) (qCons (qVar 2) (qCons (qVar 0) qNil)))) (qCons (qApp 3 O (qCons (qAl (qLst (qCons (qC (.str "up")) (qCons (qC (.str "down")) (qCons (qC (.str "same")) qNil))))) (qCons (qVar 1) (qCons (qVar 2) qNil)))) (qCons (qBin uAdd (qC (.int 1)) (qApp 3 M (qCons (qVar 1) (qCons (qVar 2) (qCons (qC (.int 6)) qNil))))) qNil)))) (ρ := wipeQ [some (.int (S : Nat)), some (.drs ns), some .atr, none] [3]) (fun v => ∃ x : Rn, v = rnQ x ∧ RnOk S x) (xs := rg (1 + k).toNat fun i => .int (i : Nat)) (by
    intro d hd
    refine ⟨[some (.int (S : Nat)), some (.drs ns), some .atr, some d], rfl, fun s => ?_⟩
    obtain ⟨a, t1, f1, a0, a1⟩ := hM (S : Nat) s (by omega)
    obtain ⟨w, t2, f2, hw⟩ := hO [.str "up", .str "down", .str "same"] t1 (by simp) (by simp)
    obtain ⟨c, t3, f3, c0, c1⟩ := hM 6 t2 (by decide)
    obtain ⟨wk, rfl⟩ : ∃ wk : Fin 3, w = .str (wof wk) := by
      simp only [List.mem_cons, List.not_mem_nil, or_false] at hw
      rcases hw with rfl | rfl | rfl
      · exact ⟨0, rfl⟩
      · exact ⟨1, rfl⟩
      · exact ⟨2, rfl⟩
    refine ⟨rnQ (a.toNat, wk, (1 + c).toNat), t3, ?_, _, rfl, ⟨by show a.toNat < S; omega, by show 1 ≤ (1 + c).toNat; omega, by show (1 + c).toNat ≤ 24; omega⟩⟩
    have ea : (a.toNat : Int) = a := by omega
    have ec : ((1 + c).toNat : Int) = 1 + c := by omega
    simp -implicitDefEqProofs [f1, f2, f3, rnQ, ea, ec]) s1
  have hl : ∃ l : List Rn, vs = l.map rnQ ∧ ∀ x ∈ l, RnOk S x := by
    clear e2 l2
    induction vs with
    | nil => exact ⟨[], rfl, fun x hx => by cases hx⟩
    | cons v vs ih =>
      obtain ⟨l, e, h⟩ := ih fun v hv' => hv v (by simp [hv'])
      obtain ⟨x, rfl, hx⟩ := hv v (by simp)
      exact ⟨x :: l, by rw [e]; rfl, fun y hy => by
        rcases List.mem_cons.mp hy with rfl | hy
        · exact hx
        · exact h y hy⟩
  obtain ⟨l, rfl, hl⟩ := hl
  rw [List.length_map, rg_len] at l2
  refine ⟨l, s2, ?_, fun e => by subst e; simp at l2; omega, by omega, hl⟩
  have lz : (1 + k).toNat ≤ 16777216 := by omega
  apply WX.eq
  rw [wx_mOf]
  refine ⟨rfl, ?_⟩
  refine c_ret (s1 := s2) (v := .tup (l.map rnQ)) ?_ ⟨rfl, rfl⟩
  show qCall uTup _ [some (.int (S : Nat)), some (.drs ns), some .atr, none] s = _
  rw [z_Call, z_Comp, e0]
  simp only [bindQ_ok, rg_len, if_pos lz]
  rw [e2]
  rfl
end
end Dn

set_option Elab.async false
set_option linter.all false
set_option maxRecDepth 100000
set_option maxHeartbeats 4000000
set_option autoImplicit false
namespace Dn
open PySem L2 Sh
open R11 (wn wn_cast wn_lt wn_self wn_add Run IsLen len cnt E down)
/-! ### refusals -/
def numG (lo hi : Int) : Q → Bool
  | .int i => decide (lo ≤ i ∧ i ≤ hi)
  | _ => false
theorem num_smp {x : Q} (h : Smp x) (lo hi : Int) (s : Sq) : p_is_number [x, .int lo, .int hi] s = okQ (.bl (numG lo hi x)) s := by
  obtain ⟨t, ht⟩ := smp_kind h
  cases hi' : isI x with
  | true =>
    cases x with
    | int i => exact is_number_ok s
    | _ => cases hi'
  | false =>
    rw [is_number_no ht hi' s]
    cases x with
    | int i => cases hi'
    | _ => rfl
def odds : List Q := [.non, .int 0, .int 17, .bl true, .str "2"]
theorem smp_odds : ∀ x ∈ odds, Smp x ∧ numG 1 16 x = false := fun x hx => by
  simp only [odds, List.mem_cons, List.not_mem_nil, or_false] at hx
  rcases hx with rfl | rfl | rfl | rfl | rfl
  · exact ⟨nice_non, rfl⟩
  · exact ⟨nice_int (by omega), by decide⟩
  · exact ⟨nice_int (by omega), by decide⟩
  · exact ⟨nice_bl, rfl⟩
  · exact ⟨nice_str (by decide +kernel), rfl⟩
section
variable {ns : List Int} {n S : Nat} {T : Nat → Nat} {s : Sq}
theorem shafts_no {o : Q} (ho : o ∈ odds) (s : Sq) : p__check_shafts [o] s = some (.error (arg11 "shafts"), s) := by
  obtain ⟨h1, h2⟩ := smp_odds o ho
  obtain ⟨N, eN, hN⟩ := shut p_is_number (fun N => ∀ s, N [o, .int 1, .int 16] s = okQ (.bl (numG 1 16 o)) s) fun s => num_smp h1 1 16 s
  unfold p__check_shafts r__check_shafts
  rw [eN]
  simp -implicitDefEqProofs [z_mOf, hN, h2]
theorem ct_shafts {a o : Q} (ho : o ∈ odds) (s : Sq) : p__check_threading [a, o] s = some (.error (arg11 "shafts"), s) := by
  obtain ⟨A, eA, hA⟩ := shut p__check_shafts (fun A => ∀ s, A [o] s = some (.error (arg11 "shafts"), s)) fun s => shafts_no ho s
  unfold p__check_threading r__check_threading
  rw [eA]
  simp -implicitDefEqProofs [z_mOf, z_Seq, hA]
theorem ct_thr {a : Q} (hS : 1 ≤ S ∧ S ≤ 16) (ha : ∀ s, p_is_threading [a, .int (S : Nat)] s = okQ (.bl false) s) (s : Sq) : p__check_threading [a, .int (S : Nat)] s = some (.error (arg11 "threading"), s) := by
  obtain ⟨A, eA, hA⟩ := shut p__check_shafts (fun A => ∀ s, A [.int (S : Nat)] s = okQ .non s) fun s => check_shafts_ok hS s
  obtain ⟨B, eB, hB⟩ := shut p_is_threading (fun B => ∀ s, B [a, .int (S : Nat)] s = okQ (.bl false) s) ha
  unfold p__check_threading r__check_threading
  rw [eA, eB]
  simp -implicitDefEqProofs [z_mOf, z_Seq, hA, hB]
theorem three_no {a b : Q} {y : Str} (h : ∀ s, p__check_threading [a, b] s = some (.error (arg11 y), s)) {k : Int} (hk : k = 0 ∨ k = 1 ∨ k = 3) (s : Sq) : p__law_told_k11 [.int k, a, b, .non] s = okQ (.tup [.str "argument", .str y]) s := by
  obtain ⟨A, eA, hA⟩ := shut p__check_threading (fun A => ∀ s, A [a, b] s = some (.error (arg11 y), s)) h
  have e0 : p_fewest_runs [a, b] s = some (.error (arg11 y), s) := by
    unfold p_fewest_runs r_fewest_runs
    rw [eA]
    simp -implicitDefEqProofs [z_mOf, z_Seq, hA]
  have e1 : p_run_table [a, b] s = some (.error (arg11 y), s) := by
    unfold p_run_table r_run_table
    rw [eA]
    simp -implicitDefEqProofs [z_mOf, z_Seq, hA]
  have e3 : p_accept_run_table [a, b, .non] s = some (.error (arg11 y), s) := by
    unfold p_accept_run_table r_accept_run_table
    rw [eA]
    simp -implicitDefEqProofs [z_mOf, z_Seq, hA]
  rcases hk with rfl | rfl | rfl
  · refine told11 (.inl rfl) ?_
    unfold call11
    rw [if_pos rfl, e0]
    exact .arg y s
  · refine told11 (.inr (.inl rfl)) ?_
    unfold call11
    rw [if_neg (by omega), if_pos rfl, e1]
    exact .arg y s
  · exact told11_acc (.inr (.inl ⟨y, e3, rfl⟩))
/-- threadings of anything -/
theorem thr_items (xs : List Q) (hx : ∀ x ∈ xs, Smp x) (h1 : 1 ≤ xs.length) (h2 : xs.length ≤ 24) (s : Sq) : p_is_threading [.tup xs, .int (S : Nat)] s = okQ (.bl (xs.all (numG 0 ((S : Int) - 1)))) s := by
  obtain ⟨N, eN, hN⟩ := shut p_is_number (fun N => ∀ (x : Q) (a b : Int) s, Smp x → N [x, .int a, .int b] s = okQ (.bl (numG a b x)) s) fun x a b s h => num_smp h a b s
  have l1 : xs.length ≤ 16777216 := by omega
  have ut : uIsi "tuple" (.tup xs) = some (.bl true) := isi_tup (q := .tup xs) rfl
  have ul : uLen (.tup xs) = some (.int (xs.length : Nat)) := by simp
  have c1 : ((1 : Int) ≤ (xs.length : Int)) := by omega
  have c2 : ((xs.length : Int) ≤ 24) := by omega
  have uw : uwalk (.tup xs) = some (xs.map id) := by rw [List.map_id]; rfl
  have al := all_bl (numG 0 ((S : Int) - 1)) xs
  generalize xs.all (numG 0 ((S : Int) - 1)) = bb at al ⊢
  unfold p_is_threading r_is_threading
  rw [eN]
  simp -implicitDefEqProofs [z_mOf, z_Seq, ut, c1, c2, uw, l1]
  have cc := comp_all' (g := uN 2) (f := qApp 3 N (qCons (qVar 2) (qCons (qC (.int 0)) (qCons (qBin (uI2 gSub) (qVar 1) (qC (.int 1))) qNil)))) (ρ := [some (.tup xs), some (.int (S : Nat)), none]) id (fun x => Q.bl (numG 0 ((S : Int) - 1) x)) (xs := xs) (fun x hx' => ⟨_, rfl, fun s => by simp -implicitDefEqProofs [hN x _ _ _ (hx x hx')]⟩) s
  rw [List.map_id] at cc
  rw [cc]
  simp only [bindQ_ok, al]
  rfl
theorem thr_long (xs : List Q) (h : xs.length = 0 ∨ 24 < xs.length) (s : Sq) : p_is_threading [.tup xs, .int (S : Nat)] s = okQ (.bl false) s := by
  have ut : uIsi "tuple" (.tup xs) = some (.bl true) := isi_tup (q := .tup xs) rfl
  have ul : uLen (.tup xs) = some (.int (xs.length : Nat)) := by simp
  unfold p_is_threading r_is_threading
  rcases h with h | h
  · have : xs = [] := List.length_eq_zero_iff.mp h
    subst this
    simp -implicitDefEqProofs [z_mOf, z_Seq, ut]
  · have c1 : ((1 : Int) ≤ (xs.length : Int)) := by omega
    have c2 : ¬ ((xs.length : Int) ≤ 24) := by omega
    simp -implicitDefEqProofs [z_mOf, z_Seq, ut, c1, c2]
theorem thr_not {q : Q} (h : uIsi "tuple" q = some (.bl false)) (s : Sq) : p_is_threading [q, .int (S : Nat)] s = okQ (.bl false) s := by
  unfold p_is_threading r_is_threading
  simp -implicitDefEqProofs [z_mOf, z_Seq, h]
def bads11 (n S : Nat) (T : Nat → Nat) : List Q := [.non, .tup [], .tup [.int (S : Nat)], .tup [.int (-1)], .tup [.bl true], .tup (List.replicate 25 [Q.int 0]).flatten, .str "0", .tup ((rg n fun i => Q.int (T i : Nat)).drop 1 ++ [.int (S : Nat)])]
theorem bads_no (h : Th11 n S T) {q : Q} (hq : q ∈ bads11 n S T) (s : Sq) : p_is_threading [q, .int (S : Nat)] s = okQ (.bl false) s := by
  have hs := h.s2
  simp only [bads11, List.mem_cons, List.not_mem_nil, or_false] at hq
  rcases hq with rfl | rfl | rfl | rfl | rfl | rfl | rfl | rfl
  · exact thr_not rfl s
  · exact thr_long _ (.inl rfl) s
  · rw [thr_items _ (fun x hx => by cases List.mem_singleton.mp hx; exact nice_nat (by omega)) (by simp) (by simp)]
    congr 2
    have : ¬ ((0 : Int) ≤ (S : Int) ∧ (S : Int) ≤ (S : Int) - 1) := by omega
    simp [numG]
    omega
  · rw [thr_items _ (fun x hx => by cases List.mem_singleton.mp hx; exact nice_int (by omega)) (by simp) (by simp)]
    rfl
  · rw [thr_items _ (fun x hx => by cases List.mem_singleton.mp hx; exact nice_bl) (by simp) (by simp)]
    rfl
  · exact thr_long _ (.inr (by decide)) s
  · exact thr_not rfl s
  · have n1 := h.n1
    have n2 := h.n2
    rw [thr_items _ (fun x hx => by
      rcases List.mem_append.mp hx with hx | hx
      · obtain ⟨i, hi, rfl⟩ := List.mem_map.mp (List.mem_of_mem_drop hx)
        have := h.lt i (List.mem_range.mp hi)
        exact nice_nat (by omega)
      · cases List.mem_singleton.mp hx; exact nice_nat (by omega)) (by simp) (by rw [List.length_append, List.length_drop, rg_len]; simp; omega)]
    congr 2
    rw [List.all_append]
    have : [Q.int (S : Nat)].all (numG 0 ((S : Int) - 1)) = false := by
      simp [numG]
      omega
    rw [this, Bool.and_false]
/-! runs -/
theorem is_run_row {x : Q} (h : ∀ s, p_is_row [x, .int 3] s = okQ (.bl false) s) (s : Sq) : p__is_run [x, .int (S : Nat)] s = okQ (.bl false) s := by
  obtain ⟨Rw, eR, hR⟩ := shut p_is_row (fun M => ∀ s, M [x, .int 3] s = okQ (.bl false) s) h
  unfold p__is_run r__is_run
  rw [eR]
  simp -implicitDefEqProofs [z_mOf, z_Seq, hR]
theorem is_run_w {a b c : Q} (h : qOrF (qNotF (qTru (qUn (uIsi "str") (qVar 3)))) (qT (qBin uNotInGd (qVar 3) (qC (.gd [("up", 1), ("down", -1), ("same", 0)])))) [some (.tup [a, b, c]), some (.int (S : Nat)), some a, some b, some c] s = okQ true s) : p__is_run [.tup [a, b, c], .int (S : Nat)] s = okQ (.bl false) s := by
  obtain ⟨Rw, eR, hR⟩ := shut p_is_row (fun M => ∀ s, M [.tup [a, b, c], .int 3] s = okQ (.bl true) s) fun s => is_row_ok s
  unfold p__is_run r__is_run
  rw [eR]
  apply WX.eq
  rw [wx_mOf]
  refine ⟨rfl, ?_⟩
  show WF (qSeq _ _ [some (.tup [a, b, c]), some (.int (S : Nat)), none, none, none] s) _
  rw [wf_seq]
  refine wf_ifF (s1 := s) (by simp -implicitDefEqProofs [hR]) ?_
  rw [thenF_nx, wf_seq]
  refine ⟨.nx [some (.tup [a, b, c]), some (.int (S : Nat)), some a, some b, some c], s, rfl, ?_⟩
  rw [thenF_nx, wf_seq]
  exact wf_ifT (s1 := s) h (c_ret (s1 := s) (v := .bl false) rfl ⟨rfl, rfl⟩)
theorem is_run_3 {a c : Q} {k : Fin 3} (ha : Smp a) (hc : Smp c) (s : Sq) : p__is_run [.tup [a, .str (wof k), c], .int (S : Nat)] s = okQ (.bl (numG 0 ((S : Int) - 1) a && numG 1 24 c)) s := by
  obtain ⟨N, eN, hN⟩ := shut p_is_number (fun N => ∀ (x : Q) (a b : Int) s, Smp x → N [x, .int a, .int b] s = okQ (.bl (numG a b x)) s) fun x a b s h => num_smp h a b s
  obtain ⟨Rw, eR, hR⟩ := shut p_is_row (fun M => ∀ s, M [.tup [a, .str (wof k), c], .int 3] s = okQ (.bl true) s) fun s => is_row_ok s
  have us : uIsi "str" (.str (wof k)) = some (.bl true) := isi_str11
  have un : uNotInGd (.str (wof k)) (.gd [("up", 1), ("down", -1), ("same", 0)]) = some (.bl false) := by
    unfold uNotInGd
    simp only [gd_of]
    rfl
  have n1 := hN a 0 ((S : Int) - 1) s ha
  have n2 := hN c 1 24 s hc
  generalize numG 0 ((S : Int) - 1) a = b1 at n1 ⊢
  generalize numG 1 24 c = b2 at n2 ⊢
  unfold p__is_run r__is_run
  rw [eN, eR]
  apply WX.eq
  rw [wx_mOf]
  refine ⟨rfl, ?_⟩
  show WF (qSeq _ _ [some (.tup [a, .str (wof k), c]), some (.int (S : Nat)), none, none, none] s) _
  rw [wf_seq]
  refine wf_ifF (s1 := s) (by simp -implicitDefEqProofs [hR]) ?_
  rw [thenF_nx, wf_seq]
  refine ⟨.nx [some (.tup [a, .str (wof k), c]), some (.int (S : Nat)), some a, some (.str (wof k)), some c], s, rfl, ?_⟩
  rw [thenF_nx, wf_seq]
  refine wf_ifF (s1 := s) (by simp -implicitDefEqProofs [us, un]) ?_
  rw [thenF_nx]
  refine c_ret (s1 := s) (v := .bl (b1 && b2)) ?_ ⟨rfl, rfl⟩
  have sb : uI2 gSub (.int (S : Nat)) (.int 1) = some (.int ((S : Int) - 1)) := rfl
  simp -implicitDefEqProofs only [z_And, z_App, z_Cons, z_Nil, z_Var, z_C, z_Bin, List.getElem?_cons_succ, List.getElem?_cons_zero, bindQ_ok, sb, liftQ_some, List.length_cons, List.length_nil, n1, n2, if_true]
  cases b1
  · rfl
  · rw [Bool.true_and]
    exact n2
theorem thrd_no (hS : 1 ≤ S ∧ S ≤ 16) (xs : List Q) (f : Q → Bool) (h : ∀ x ∈ xs, ∀ s, p__is_run [x, .int (S : Nat)] s = okQ (.bl (f x)) s) (hf : xs.all f = false) (hl : xs.length ≤ 1000) (s : Sq) : p_threaded [.tup xs, .int (S : Nat)] s = some (.error (arg11 "runs"), s) := by
  obtain ⟨C, eC, hC⟩ := shut p__check_shafts (fun C => ∀ s, C [.int (S : Nat)] s = okQ .non s) fun s => check_shafts_ok hS s
  obtain ⟨I, eI, hI⟩ := shut p__is_run (fun I => ∀ x ∈ xs, ∀ s, I [x, .int (S : Nat)] s = okQ (.bl (f x)) s) h
  have lz : xs.length ≤ 16777216 := by omega
  have ut : uIsi "tuple" (.tup xs) = some (.bl true) := isi_tup (q := .tup xs) rfl
  have al := all_bl f xs
  rw [hf] at al
  unfold p_threaded r_threaded
  rw [eC, eI]
  have c1 : ∀ s, qComp (jE (qVar 0)) [6] (uN 6) qTrue (qApp 2 I (qCons (qVar 6) (qCons (qVar 1) qNil))) [some (.tup xs), some (.int (S : Nat)), none, none, none, none, none, none] s = okQ (xs.map fun x => Q.bl (f x)) s := fun s => by
    have e0 : jE (qVar 0) [some (.tup xs), some (.int (S : Nat)), none, none, none, none, none, none] s = okQ (xs.map id) s := by rw [List.map_id]; rfl
    rw [z_Comp, e0]
    simp only [bindQ_ok, List.length_map, if_pos lz]
    rw [comp_all' id (fun x => Q.bl (f x))]
    intro x hx
    exact ⟨_, rfl, fun s => by simp -implicitDefEqProofs [hI x hx]⟩
  apply WX.eq
  rw [wx_mOf]
  refine ⟨rfl, ?_⟩
  show WF (qSeq _ _ [some (.tup xs), some (.int (S : Nat)), none, none, none, none, none, none] s) _
  rw [wf_seq]
  refine ⟨.nx [some (.tup xs), some (.int (S : Nat)), none, none, none, none, none, none], s, by simp -implicitDefEqProofs [hC], ?_⟩
  rw [thenF_nx, wf_seq]
  refine wf_ifT (s1 := s) ?_ ⟨.exn (arg11 "runs") _, s, rfl, ⟨rfl, rfl⟩⟩
  have v0 : qVar 0 [some (.tup xs), some (.int (S : Nat)), none, none, none, none, none, none] s = okQ (.tup xs) s := rfl
  simp -implicitDefEqProofs only [z_OrF, z_NotF, z_Tru, z_Un, v0, bindQ_ok, ut, liftQ_some, z_Call, c1, al]
  rfl
theorem thrd_non (hS : 1 ≤ S ∧ S ≤ 16) (s : Sq) : p_threaded [.non, .int (S : Nat)] s = some (.error (arg11 "runs"), s) := by
  obtain ⟨C, eC, hC⟩ := shut p__check_shafts (fun C => ∀ s, C [.int (S : Nat)] s = okQ .non s) fun s => check_shafts_ok hS s
  have ui : uIsi "tuple" .non = some (.bl false) := rfl
  unfold p_threaded r_threaded
  rw [eC]
  simp -implicitDefEqProofs [z_mOf, z_Seq, hC, ui]
theorem thrd_nil (hS : 1 ≤ S ∧ S ≤ 16) (s : Sq) : p_threaded [.tup [], .int (S : Nat)] s = some (.error (arg11 "runs"), s) := by
  obtain ⟨C, eC, hC⟩ := shut p__check_shafts (fun C => ∀ s, C [.int (S : Nat)] s = okQ .non s) fun s => check_shafts_ok hS s
  unfold p_threaded r_threaded
  rw [eC]
  have ut : uIsi "tuple" (.tup []) = some (.bl true) := rfl
  have e1 : uAll [] = some (.bl true) := rfl
  have e2 : uSum [] = some (.int 0) := rfl
  have uw : uwalk (.tup []) = some [] := rfl
  simp -implicitDefEqProofs [z_mOf, z_Seq, hC, ut, uw, qCompGo, e1, e2]
theorem thrd_odd {a o : Q} (ho : o ∈ odds) (s : Sq) : p_threaded [a, o] s = some (.error (arg11 "shafts"), s) := by
  obtain ⟨A, eA, hA⟩ := shut p__check_shafts (fun A => ∀ s, A [o] s = some (.error (arg11 "shafts"), s)) fun s => shafts_no ho s
  unfold p_threaded r_threaded
  rw [eA]
  simp -implicitDefEqProofs [z_mOf, z_Seq, hA]
def worses (S : Nat) : List Q := [.non, .tup [], .tup [.tup [.int (S : Nat), .str "up", .int 1]], .tup [.tup [.int 0, .str "UP", .int 1]], .tup [.tup [.int 0, .str "up", .int 0]], .tup [.tup [.int 0, .str "up", .int 25]], .tup [.tup [.int 0, .str "up"]], .tup [.tup [.bl true, .str "up", .int 1]], .tup [.tup [.int 0, .int 5, .int 1]], .tup [.tup [.int 0, .str "same", .int 20], .tup [.int 0, .str "up", .int 5]], .tup [.int 0, .str "up", .int 1], .tup [.tup [.int 0, .str "up", .bl true]], .tup [.tup [.int 0, .str "down", .int 1, .int 1]]]
theorem one_no (hS : 1 ≤ S ∧ S ≤ 16) {x : Q} (h : ∀ s, p__is_run [x, .int (S : Nat)] s = okQ (.bl false) s) (s : Sq) : p_threaded [.tup [x], .int (S : Nat)] s = some (.error (arg11 "runs"), s) :=
  thrd_no hS [x] (fun _ => false) (fun y hy s => by cases List.mem_singleton.mp hy; exact h s) rfl (by simp) s
theorem worses_no (hS : 1 ≤ S ∧ S ≤ 16) {q : Q} (hq : q ∈ worses S) (s : Sq) : p_threaded [q, .int (S : Nat)] s = some (.error (arg11 "runs"), s) := by
  simp only [worses, List.mem_cons, List.not_mem_nil, or_false] at hq
  rcases hq with rfl | rfl | rfl | rfl | rfl | rfl | rfl | rfl | rfl | rfl | rfl | rfl | rfl
  · exact thrd_non hS s
  · exact thrd_nil hS s
  · refine one_no hS (fun s => ?_) s
    have := is_run_3 (S := S) (a := .int (S : Nat)) (c := .int 1) (k := 0) (nice_nat (by omega)) (nice_int (by omega)) s
    rw [show (numG 0 ((S : Int) - 1) (.int (S : Nat)) && numG 1 24 (.int 1)) = false by simp [numG]; omega] at this
    exact this
  · exact one_no hS (fun s => is_run_w (by kernel_rfl)) s
  · refine one_no hS (fun s => ?_) s
    have := is_run_3 (S := S) (a := .int 0) (c := .int 0) (k := 0) (nice_int (by omega)) (nice_int (by omega)) s
    rw [show numG 1 24 (.int 0) = false from rfl, Bool.and_false] at this
    exact this
  · refine one_no hS (fun s => ?_) s
    have := is_run_3 (S := S) (a := .int 0) (c := .int 25) (k := 0) (nice_int (by omega)) (nice_int (by omega)) s
    rw [show numG 1 24 (.int 25) = false from rfl, Bool.and_false] at this
    exact this
  · exact one_no hS (fun s => is_run_row (fun s => is_row_ok s) s) s
  · refine one_no hS (fun s => ?_) s
    have := is_run_3 (S := S) (a := .bl true) (c := .int 1) (k := 0) nice_bl (nice_int (by omega)) s
    rw [show numG 0 ((S : Int) - 1) (.bl true) = false from rfl, Bool.false_and] at this
    exact this
  · exact one_no hS (fun s => is_run_w (by kernel_rfl)) s
  · have := threaded_pre hS (l := [(0, 2, 20), (0, 0, 5)]) (fun x hx => by
      simp only [List.mem_cons, List.not_mem_nil, or_false] at hx
      rcases hx with rfl | rfl
      · exact ⟨by show 0 < S; omega, by decide, by decide⟩
      · exact ⟨by show 0 < S; omega, by decide, by decide⟩) (by simp) (by simp) s
    rw [mk_len, if_neg (by decide)] at this
    exact this
  · refine thrd_no hS _ (fun _ => false) (fun y hy s => ?_) rfl (by simp) s
    simp only [List.mem_cons, List.not_mem_nil, or_false] at hy
    rcases hy with rfl | rfl | rfl
    · exact is_run_row (fun s => is_row_no (t := "int") rfl rfl s) s
    · exact is_run_row (fun s => is_row_no (t := "str") rfl rfl s) s
    · exact is_run_row (fun s => is_row_no (t := "int") rfl rfl s) s
  · refine one_no hS (fun s => ?_) s
    have := is_run_3 (S := S) (a := .int 0) (c := .bl true) (k := 0) (nice_int (by omega)) nice_bl s
    rw [show numG 1 24 (.bl true) = false from rfl, Bool.and_false] at this
    exact this
  · exact one_no hS (fun s => is_run_row (fun s => is_row_ok s) s) s
end
end Dn

set_option Elab.async false
set_option linter.all false
set_option maxRecDepth 100000
set_option maxHeartbeats 4000000
set_option autoImplicit false
namespace Dn
open PySem L2 Sh
open R11 (wn wn_cast wn_lt wn_self wn_add Run IsLen len cnt E down)
theorem nice_ar {y : Str} (h : okStr y = true) : Nice 1 28 (.tup [.str "argument", .str y]) := nice_tup (k := 0) (w := 13) (n := 2) (fun q hq => by
  simp only [List.mem_cons, List.not_mem_nil, or_false] at hq
  rcases hq with rfl | rfl
  · exact nice_str (by decide +kernel)
  · exact nice_str h)
section
variable {ns : List Int} {n S : Nat} {T : Nat → Nat} {s : Sq}
theorem ok_shafts : okStr "shafts" = true := by decide +kernel
theorem ok_threading : okStr "threading" = true := by decide +kernel
theorem ok_runs : okStr "runs" = true := by decide +kernel
theorem worse_told (hS : 1 ≤ S ∧ S ≤ 16) {q : Q} (hq : q ∈ worses S) (s : Sq) : p__law_told_k11 [.int 2, q, .int (S : Nat), .non] s = okQ (.tup [.str "argument", .str "runs"]) s := by
  refine told11 (.inr (.inr rfl)) ?_
  unfold call11
  rw [if_neg (by omega), if_neg (by omega), worses_no hS hq]
  exact .arg _ s
theorem odd_told {q o : Q} (ho : o ∈ odds) (s : Sq) : p__law_told_k11 [.int 2, q, o, .non] s = okQ (.tup [.str "argument", .str "shafts"]) s := by
  refine told11 (.inr (.inr rfl)) ?_
  unfold call11
  rw [if_neg (by omega), if_neg (by omega), thrd_odd ho]
  exact .arg _ s
theorem rep25 : uMulA (.tup [.int 0]) (.int 25) = some (.tup (List.replicate 25 [Q.int 0]).flatten) := by
  have h : ([Q.int 0] : List Q) ≠ [] ∧ (1 : Int) ≤ 25 ∧ (25 : Int) ≤ 1000 ∧ ([Q.int 0] : List Q).length ≤ 1000 := ⟨by simp, by omega, by omega, by simp⟩
  simp only [uMulA, if_pos h]
  rfl
theorem refusals_ok (h : Th11 n S T) (s : Sq) : ∃ s', p__law_refusals_k11 [tr n T, .int (S : Nat), .drs ns, .atr] s = okQ (.bl true) s' := by
  obtain ⟨O, eO, hO⟩ := shut p__law_one (fun O => ∀ (xs : List Q) (s : Sq), xs ≠ [] → xs.length ≤ 1000 → ∃ x s', O [.lst xs, .drs ns, .atr] s = okQ x s' ∧ x ∈ xs) fun xs s hx hl => one_ok hx hl s
  have hS : 1 ≤ S ∧ S ≤ 16 := ⟨h.s1, h.s2⟩
  have n1 := h.n1
  have n2 := h.n2
  obtain ⟨D, eD, d1, d2, d3, d4⟩ : ∃ D, p__law_told_k11 = D ∧ (∀ k a o s, o ∈ odds → (k = 0 ∨ k = 1 ∨ k = 3) → D [.int k, a, o, .non] s = okQ (.tup [.str "argument", .str "shafts"]) s) ∧ (∀ k a s, a ∈ bads11 n S T → (k = 0 ∨ k = 1 ∨ k = 3) → D [.int k, a, .int (S : Nat), .non] s = okQ (.tup [.str "argument", .str "threading"]) s) ∧ (∀ a o s, o ∈ odds → D [.int 2, a, o, .non] s = okQ (.tup [.str "argument", .str "shafts"]) s) ∧ (∀ a s, a ∈ worses S → D [.int 2, a, .int (S : Nat), .non] s = okQ (.tup [.str "argument", .str "runs"]) s) :=
    ⟨_, rfl, fun k a o s ho hk => three_no (fun s => ct_shafts ho s) hk s, fun k a s ha hk => three_no (fun s => ct_thr hS (fun s => bads_no h ha s) s) hk s, fun a o s ho => odd_told ho s, fun a s ha => worse_told hS ha s⟩
  obtain ⟨X, hX, xr⟩ : ∃ X : Q2, uMulA = X ∧ X (.tup [.int 0]) (.int 25) = some (.tup (List.replicate 25 [Q.int 0]).flatten) := ⟨_, rfl, rep25⟩
  suffices key : WX (p__law_refusals_k11 [tr n T, .int (S : Nat), .drs ns, .atr] s) fun x s' => x = .ok (.bl true) by
    obtain ⟨x, s', e1, rfl⟩ := key
    exact ⟨s', e1⟩
  unfold p__law_refusals_k11 r__law_refusals_k11
  rw [eO, eD, hX, wx_mOf]
  refine ⟨rfl, ?_⟩
  show WF (qSeq _ _ [some (tr n T), some (.int (S : Nat)), some (.drs ns), some .atr, none, none, none, none] s) _
  rw [wf_seq]
  obtain ⟨o, s1, e1, ho⟩ := hO odds s (by simp [odds]) (by simp [odds])
  refine wf_setv (s1 := s1) (v := o) ?_ ?_
  · unfold odds at e1
    simp -implicitDefEqProofs [e1]
  rw [thenF_nx, wf_seq]
  obtain ⟨b, s2, e2, hb⟩ := hO (bads11 n S T) s1 (by simp [bads11]) (by simp [bads11])
  refine wf_setv (s1 := s2) (v := b) ?_ ?_
  · have c3 : cutD (rg n fun i => Q.int (T i : Nat)) (some 1) none = (rg n fun i => Q.int (T i : Nat)).drop 1 := c_cutFrom _ 1
    have a1 := uAdd_tup (xs := (rg n fun i => Q.int (T i : Nat)).drop 1) (ys := [.int (S : Nat)]) (by rw [List.length_drop, rg_len]; simp; omega)
    have ng : uNeg (.int 1) = some (.int (-1)) := rfl
    unfold bads11 at e2
    unfold tr
    generalize (rg n fun i => Q.int (T i : Nat)).drop 1 = z1 at c3 a1 e2
    generalize (List.replicate 25 [Q.int 0]).flatten = z2 at xr e2
    simp -implicitDefEqProofs [ng, xr, c3, a1, e2]
  rw [thenF_nx, wf_seq]
  obtain ⟨w, s3, e3, hw⟩ := hO (worses S) s2 (by simp [worses]) (by simp [worses])
  refine wf_setv (s1 := s3) (v := w) ?_ ?_
  · unfold worses at e3
    simp -implicitDefEqProofs [e3]
  rw [thenF_nx, wf_seq]
  show WF (qFor _ _ _ [some (tr n T), some (.int (S : Nat)), some (.drs ns), some .atr, some o, some b, some w, none] s3) _
  have e4 : qLst (qCons (qC (.int 0)) (qCons (qC (.int 1)) (qCons (qC (.int 3)) qNil))) [some (tr n T), some (.int (S : Nat)), some (.drs ns), some .atr, some o, some b, some w, none] s3 = okQ [.int 0, .int 1, .int 3] s3 := rfl
  rw [z_For, e4, toSq_ok]
  have q1 := uNe_self (nice_ar ok_shafts)
  have q2 := uNe_self (nice_ar ok_threading)
  have q3 := uEq_self (nice_ar ok_shafts)
  have q4 := uEq_self (nice_ar ok_runs)
  refine wf_forI (fun _ ρ _ => ∃ x, ρ = [some (tr n T), some (.int (S : Nat)), some (.drs ns), some .atr, some o, some b, some w, x]) ?_ ⟨none, rfl⟩ ?_
  · rintro done d rest ρ s4 he ⟨x, rfl⟩
    have hd : d ∈ [Q.int 0, .int 1, .int 3] := by rw [← he]; simp
    obtain ⟨k, rfl, hk⟩ : ∃ k : Int, d = .int k ∧ (k = 0 ∨ k = 1 ∨ k = 3) := by
      simp only [List.mem_cons, List.not_mem_nil, or_false] at hd
      rcases hd with rfl | rfl | rfl
      · exact ⟨0, rfl, .inl rfl⟩
      · exact ⟨1, rfl, .inr (.inl rfl)⟩
      · exact ⟨3, rfl, .inr (.inr rfl)⟩
    refine ⟨_, rfl, ?_⟩
    show WF (qIfS _ _ _ [some (tr n T), some (.int (S : Nat)), some (.drs ns), some .atr, some o, some b, some w, some (.int k)] s4) _
    refine wf_ifF (s1 := s4) ?_ ⟨_, rfl⟩
    simp -implicitDefEqProofs [d1 k b o _ ho hk, d2 k b _ hb hk, q1, q2]
  · rintro ρ s4 ⟨x, rfl⟩
    rw [thenF_nx]
    refine c_ret (s1 := s4) (v := .bl true) ?_ rfl
    simp -implicitDefEqProofs [d3 w o _ ho, d4 w _ hw, q3, q4]
end
end Dn

set_option Elab.async false
set_option linter.all false
set_option maxRecDepth 100000
set_option maxHeartbeats 4000000
set_option autoImplicit false
namespace Dn
open PySem L2 Sh
open R11 (wn wn_cast wn_lt wn_self wn_add Run IsLen len cnt E down)
noncomputable def dueQ (S : Nat) (l : List Rn) : Q := if (mk11 S l).length < 25 then .tup (nats (mk11 S l)) else .tup [.str "argument", .str "runs"]
theorem due_told {S : Nat} (hS : 1 ≤ S ∧ S ≤ 16) {l : List Rn} (h : ∀ x ∈ l, RnOk S x) (hl : l ≠ []) (hl2 : l.length ≤ 24) (s : Sq) : p__law_told_k11 [.int 2, .tup (l.map rnQ), .int (S : Nat), .non] s = okQ (dueQ S l) s := by
  refine told11 (.inr (.inr rfl)) ?_
  unfold call11
  rw [if_neg (by omega), if_neg (by omega), threaded_pre hS h hl hl2]
  unfold dueQ
  by_cases hm : (mk11 S l).length ≤ 24
  · rw [if_pos hm, if_pos (by omega)]
    exact .ok _ s
  · rw [if_neg hm, if_neg (by omega)]
    exact .arg _ s
theorem nice_nats {l : List Nat} (h : ∀ y ∈ l, y ≤ 1000) (hl : l.length ≤ 24) : Nice 1 (24 * 14) (.tup (nats l)) := nice_tup (k := 0) (w := 13) (n := 24) (fun q hq => by
  obtain ⟨y, hy, rfl⟩ := List.mem_map.mp hq
  exact nice_nat (h y hy)) (by rw [List.length_map]; exact hl)
theorem nice_due {S : Nat} (hS : 1 ≤ S ∧ S ≤ 16) {l : List Rn} : Nice 1 (24 * 14) (dueQ S l) := by
  unfold dueQ
  by_cases hm : (mk11 S l).length < 25
  · rw [if_pos hm]
    exact nice_nats (fun y hy => by have := mk_lt hS.1 y hy; omega) (by omega)
  · rw [if_neg hm]
    exact (nice_ar ok_runs).mono (by decide)
theorem nice_gr {n S : Nat} {T : Nat → Nat} (h : Th11 n S T) : Nice 2 (24 * 43) (.tup (grQ T S n 0)) := by
  have n2 := h.n2
  have hs := h.s2
  obtain ⟨g1, g2⟩ := gy_len (T := T) (S := S) (n := n) _ 0 rfl
  refine nice_tup (k := 1) (w := 42) (n := 24) (fun q hq => ?_) (by unfold grQ; rw [List.length_map]; omega)
  obtain ⟨f, hf, rfl⟩ := List.mem_map.mp hq
  have hf := gy_mem _ 0 rfl f hf
  have hl := R11.cnt_le (T := T) (S := S) hf
  have ht := h.lt f hf
  rw [← rnQ_of]
  refine nice_tup (k := 0) (w := 13) (n := 3) (fun x hx => ?_)
  simp only [List.mem_cons, List.not_mem_nil, or_false] at hx
  rcases hx with rfl | rfl | rfl
  · exact nice_nat (by show T f ≤ 1000; omega)
  · refine nice_str ?_
    have : ∀ k : Fin 3, okStr (wof k) = true := fun k => match k with
      | 0 => by decide +kernel
      | 1 => by decide +kernel
      | 2 => by decide +kernel
    exact this _
  · exact nice_nat (by show cnt T S n f ≤ 1000; omega)
theorem tr_nats (l : List Nat) : Q.tup (nats l) = tr l.length fun i => l.getD i 0 := by
  unfold tr nats
  congr 1
  apply List.ext_getElem?
  intro i
  by_cases h : i < l.length
  · rw [rg_get h]
    simp [h]
  · rw [List.getElem?_eq_none (by simpa using h), List.getElem?_eq_none (by simpa using h)]
theorem gr_len {n S : Nat} {T : Nat → Nat} : uLen (.tup (grQ T S n 0)) = some (.int (E T S n 0 : Nat)) := by
  obtain ⟨g1, g2⟩ := gy_len (T := T) (S := S) (n := n) _ 0 rfl
  have : uLen (.tup (grQ T S n 0)) = some (.int ((grQ T S n 0).length : Nat)) := by simp
  rw [this]
  unfold grQ
  rw [List.length_map, g2]
theorem tab_0 {n S : Nat} {T : Nat → Nat} : uIx (tabQ T S n) (.int 0) = some (.int (E T S n 0 : Nat)) := by
  have a : atI (tabR T S n) 0 = some (.int (E T S n 0 : Nat)) := rg_at (i := 0) (by omega)
  unfold tabQ
  simp [a]
structure F11 (ns : List Int) (M Ru Ma To Ta Fe Be Re Rf : QM) : Prop where
  m : TakeP ns M
  ru : ∀ S : Nat, 1 ≤ S ∧ S ≤ 16 → ∀ s, ∃ (l : List Rn) (s' : Sq), Ru [.int (S : Nat), .drs ns, .atr] s = okQ (.tup (l.map rnQ)) s' ∧ l ≠ [] ∧ l.length ≤ 6 ∧ ∀ x ∈ l, RnOk S x
  ma : ∀ S : Nat, 1 ≤ S ∧ S ≤ 16 → ∀ l : List Rn, (∀ x ∈ l, RnOk S x) → l.length ≤ 24 → ∀ s, Ma [.tup (l.map rnQ), .int (S : Nat)] s = okQ (.lst (nats (mk11 S l))) s
  t2 : ∀ S : Nat, 1 ≤ S ∧ S ≤ 16 → ∀ l : List Rn, (∀ x ∈ l, RnOk S x) → l ≠ [] → l.length ≤ 24 → ∀ s, To [.int 2, .tup (l.map rnQ), .int (S : Nat), .non] s = okQ (dueQ S l) s
  t0 : ∀ n S T, Th11 n S T → ∀ s, To [.int 0, tr n T, .int (S : Nat), .non] s = okQ (.tup (grQ T S n 0)) s
  t1 : ∀ n S T, Th11 n S T → ∀ s, To [.int 1, tr n T, .int (S : Nat), .non] s = okQ (tabQ T S n) s
  tg : ∀ n S T, Th11 n S T → ∀ s, To [.int 2, .tup (grQ T S n 0), .int (S : Nat), .non] s = okQ (tr n T) s
  t3 : ∀ n S T, Th11 n S T → ∀ q, Bent q → ∃ v, (∀ s, To [.int 3, tr n T, .int (S : Nat), q] s = okQ v s) ∧ (∀ s, Re [q, tabQ T S n] s = okQ v s) ∧ uNe v v = some (.bl false)
  ta : ∀ n S T, Th11 n S T → ∀ s, Ta [tr n T, .int (S : Nat)] s = okQ (tabQ T S n) s
  fe : ∀ n S T, Th11 n S T → ∀ s, Fe [tr n T, .int (S : Nat)] s = okQ (.tup (grQ T S n 0)) s
  be : ∀ n S T, Th11 n S T → ∀ s, ∃ q s', Be [tabQ T S n, .drs ns, .atr] s = okQ q s' ∧ Bent q
  rf : ∀ n S T, Th11 n S T → ∀ s, ∃ s', Rf [tr n T, .int (S : Nat), .drs ns, .atr] s = okQ (.bl true) s'
theorem f11 (ns : List Int) : ∃ M Ru Ma To Ta Fe Be Re Rf, p__law_take = M ∧ p__law_runs = Ru ∧ p__law_made = Ma ∧ p__law_told_k11 = To ∧ p__law_table = Ta ∧ p__law_fewest = Fe ∧ p__law_bent = Be ∧ p__law_reason_k11 = Re ∧ p__law_refusals_k11 = Rf ∧ F11 ns M Ru Ma To Ta Fe Be Re Rf := by
  refine ⟨_, _, _, _, _, _, _, _, _, rfl, rfl, rfl, rfl, rfl, rfl, rfl, rfl, rfl, ?_⟩
  exact {
    m := takeP ns
    ru := fun S hS s => runs_ok hS s
    ma := fun S hS l h hl s => law_made_ok hS h hl s
    t2 := fun S hS l h h1 h2 s => due_told hS h h1 h2 s
    t0 := fun n S T h s => told11 (.inl rfl) (by unfold call11; rw [if_pos rfl, fewest_ok h]; exact .ok _ s)
    t1 := fun n S T h s => told11 (.inr (.inl rfl)) (by unfold call11; rw [if_neg (by omega), if_pos rfl, table_ok h]; exact .ok _ s)
    tg := fun n S T h s => told11 (.inr (.inr rfl)) (by unfold call11; rw [if_neg (by omega), if_neg (by omega), threaded_gr h]; exact .ok _ s)
    t3 := fun n S T h q hq => bent_told h hq
    ta := fun n S T h s => law_table_ok h s
    fe := fun n S T h s => law_fewest_ok h s
    be := fun n S T h s => bent_ok h s
    rf := fun n S T h s => refusals_ok h s }
theorem law_wf11 (ns : List Int) : WF (r_law_k11 ([some .scr, some (.drs ns), some .atr] ++ List.replicate (N_law_k11.length - 3) none) 0) fun fl _ => fl = .ret (.bl true) := by
  obtain ⟨M, Ru, Ma, To, Ta, Fe, Be, Re, Rf, eM, eRu, eMa, eTo, eTa, eFe, eBe, eRe, eRf, F⟩ := f11 ns
  obtain ⟨J, R, hJ, j1, j2, j3⟩ := r1x
  unfold r_law_k11
  rw [eM, eRu, eMa, eTo, eTa, eFe, eBe, eRe, eRf, hJ]
  show WF (qSeq _ _ [some .scr, some (.drs ns), some .atr, none, none, none, none, none, none, none, none, none, none] 0) _
  rw [wf_seq]
  have e0 : J (qCons (qC (.int 3)) qNil) [some .scr, some (.drs ns), some .atr, none, none, none, none, none, none, none, none, none, none] 0 = okQ (rg (3 : Int).toNat fun i => .int (i : Nat)) 0 := by
    rw [j1]; exact j3 3 0 (by omega)
  rw [z_For, e0, toSq_ok]
  refine wf_forI (fun _ ρ _ => ∃ a b c d e f g h i j, ρ = [some .scr, some (.drs ns), some .atr, a, b, c, d, e, f, g, h, i, j]) ?_ ⟨none, none, none, none, none, none, none, none, none, none, rfl⟩ ?_
  · rintro done x rest ρ s he ⟨a, b, c, d, e, f, g, h, i, j, rfl⟩
    refine ⟨_, rfl, ?_⟩
    show WF (qSeq _ _ [some .scr, some (.drs ns), some .atr, some x, b, c, d, e, f, g, h, i, j] s) _
    rw [wf_seq]
    obtain ⟨k, s1, e1, k0, k1⟩ := F.m 3 s (by omega)
    obtain ⟨m, em, hm⟩ : ∃ m : Int, atI [Q.int 3, .int 8, .int 16] k = some (.int m) ∧ 1 ≤ m ∧ m ≤ 16 := by
      have : k = 0 ∨ k = 1 ∨ k = 2 := by omega
      rcases this with rfl | rfl | rfl
      · exact ⟨3, rfl, by omega⟩
      · exact ⟨8, rfl, by omega⟩
      · exact ⟨16, rfl, by omega⟩
    obtain ⟨k2, s2, e2, k20, k21⟩ := F.m m s1 (by omega)
    obtain ⟨S, hSk⟩ : ∃ S : Nat, (S : Int) = 1 + k2 := ⟨(1 + k2).toNat, by omega⟩
    have hS : 1 ≤ S ∧ S ≤ 16 := by omega
    refine wf_setv (s1 := s2) (v := .int (S : Nat)) (by rw [hSk]; simp -implicitDefEqProofs [e1, em, e2]) ?_
    rw [thenF_nx, wf_seq]
    obtain ⟨l, s3, e3, l1, l2, l3⟩ := F.ru S hS s2
    refine wf_setv (s1 := s3) (v := .tup (l.map rnQ)) (by simp -implicitDefEqProofs [e3]) ?_
    rw [thenF_nx, wf_seq]
    have e4 := F.ma S hS l l3 (by omega) s3
    refine wf_setv (s1 := s3) (v := .lst (nats (mk11 S l))) ?_ ?_
    · simp -implicitDefEqProofs [e4]
    rw [thenF_nx, wf_seq]
    show WF (qSet _ 7 [some .scr, some (.drs ns), some .atr, some x, some (.int (S : Nat)), some (.tup (l.map rnQ)), some (.lst (nats (mk11 S l))), e, f, g, h, i, j] s3) _
    refine wf_setv (s1 := s3) (v := dueQ S l) ?_ ?_
    · have ul : uLen (.lst (nats (mk11 S l))) = some (.int ((mk11 S l).length : Nat)) := by simp
      unfold dueQ
      generalize nats (mk11 S l) = xs at ul ⊢
      by_cases hm : (mk11 S l).length < 25
      · have : (((mk11 S l).length : Nat) : Int) < 25 := by omega
        rw [if_pos hm]
        simp -implicitDefEqProofs [ul, this]
      · have : ¬ (((mk11 S l).length : Nat) : Int) < 25 := by omega
        rw [if_neg hm]
        simp -implicitDefEqProofs [ul, this]
    rw [thenF_nx, wf_seq]
    show WF (qIfS _ _ _ [some .scr, some (.drs ns), some .atr, some x, some (.int (S : Nat)), some (.tup (l.map rnQ)), some (.lst (nats (mk11 S l))), some (dueQ S l), f, g, h, i, j] s3) _
    have e5 := F.t2 S hS l l3 l1 (by omega)
    have r1 := uRepr_nice (nice_due (S := S) hS (l := l)) (by decide) (by decide)
    refine wf_ifF (s1 := s3) ?_ ?_
    · simp -implicitDefEqProofs [e5, r1]
    rw [thenF_nx, wf_seq]
    have mp := mk_pos l1 l3
    have ml : ∀ y ∈ mk11 S l, y < S := mk_lt hS.1
    generalize hmk : mk11 S l = mk at *
    have ct : cutD (nats mk) none (some 24) = nats (mk.take 24) := by
      rw [show (some (24 : Int)) = some ((24 : Nat) : Int) from rfl, cut_take]
      unfold nats
      rw [List.map_take]
    refine wf_setv (s1 := s3) (v := .lst (nats (mk.take 24))) ?_ ?_
    · have z : ∀ ρ s, qSlL (qVar 6) qoN (qoS (qC (.int 24))) ρ s = bindQ (qVar 6 ρ s) fun d s1 => match d with
        | .lst xs => okQ (cutD xs none (some 24)) s1
        | _ => none := fun _ _ => rfl
      have v6 : qVar 6 [some .scr, some (.drs ns), some .atr, some x, some (.int (S : Nat)), some (.tup (l.map rnQ)), some (.lst (nats mk)), some (dueQ S l), f, g, h, i, j] s3 = okQ (.lst (nats mk)) s3 := rfl
      rw [z_Al, z, v6]
      simp only [bindQ_ok, ct]
    rw [thenF_nx, wf_seq]
    show WF (qFor _ _ _ [some .scr, some (.drs ns), some .atr, some x, some (.int (S : Nat)), some (.tup (l.map rnQ)), some (.lst (nats mk)), some (dueQ S l), some (.lst (nats (mk.take 24))), g, h, i, j] s3) _
    obtain ⟨k3, s4, e6, k30, k31⟩ := F.m 4 s3 (by omega)
    have e7 : J (qCons (qApp 3 M (qCons (qVar 1) (qCons (qVar 2) (qCons (qC (.int 4)) qNil)))) qNil) [some .scr, some (.drs ns), some .atr, some x, some (.int (S : Nat)), some (.tup (l.map rnQ)), some (.lst (nats mk)), some (dueQ S l), some (.lst (nats (mk.take 24))), g, h, i, j] s3 = okQ (rg k3.toNat fun i => .int (i : Nat)) s4 := by
      rw [j1]
      simp -implicitDefEqProofs [e6, j3 k3 s4 (by omega)]
    rw [z_For, e7, toSq_ok]
    refine wf_forI (fun _ ρ _ => ∃ (l8 : List Nat) (g : Option Q), l8.length = (mk.take 24).length ∧ (∀ y ∈ l8, y < S) ∧ ρ = [some .scr, some (.drs ns), some .atr, some x, some (.int (S : Nat)), some (.tup (l.map rnQ)), some (.lst (nats mk)), some (dueQ S l), some (.lst (nats l8)), g, h, i, j]) ?_ ⟨_, g, rfl, fun y hy => ml y (List.mem_of_mem_take hy), rfl⟩ ?_
    · rintro done d rest ρ s5 he ⟨l8, g, h1, h2, rfl⟩
      refine ⟨_, rfl, ?_⟩
      show WF (qSetIx 8 _ _ [some .scr, some (.drs ns), some .atr, some x, some (.int (S : Nat)), some (.tup (l.map rnQ)), some (.lst (nats mk)), some (dueQ S l), some (.lst (nats l8)), some d, h, i, j] s5) _
      have hpos : 1 ≤ l8.length := by rw [h1, List.length_take]; omega
      obtain ⟨a1, s6, f1, a10, a11⟩ := F.m (S : Nat) s5 (by omega)
      obtain ⟨a2, s7, f2, a20, a21⟩ := F.m (l8.length : Nat) s6 (by omega)
      obtain ⟨y, rfl⟩ : ∃ y : Nat, a1 = (y : Nat) := ⟨a1.toNat, by omega⟩
      obtain ⟨z, rfl⟩ : ∃ z : Nat, a2 = (z : Nat) := ⟨a2.toNat, by omega⟩
      have ix : ixN (nats l8).length (z : Int) = some z := by
        rw [List.length_map]
        exact ixN_nat (by omega)
      have ul : uLen (.lst (nats l8)) = some (.int (l8.length : Nat)) := by simp
      refine ⟨.nx [some .scr, some (.drs ns), some .atr, some x, some (.int (S : Nat)), some (.tup (l.map rnQ)), some (.lst (nats mk)), some (dueQ S l), some (.lst (nats (l8.set z y))), some d, h, i, j], s7, ?_, l8.set z y, _, by rw [List.length_set]; exact h1, fun w hw => ?_, rfl⟩
      · have st : (nats l8).set z (.int (y : Nat)) = nats (l8.set z y) := by unfold nats; rw [List.map_set]
        rw [← st]
        generalize nats l8 = xs at ix ul ⊢
        simp -implicitDefEqProofs [f1, f2, ul, ix]
      · rcases List.mem_or_eq_of_mem_set hw with hw | rfl
        · exact h2 w hw
        · omega
    rintro ρ s5 ⟨l8, g, h1, h2, rfl⟩
    have hlen : l8.length = min 24 mk.length := by rw [h1, List.length_take]
    rw [thenF_nx, wf_seq]
    have tn := tr_nats l8
    generalize hN : l8.length = N at tn
    generalize hT : (fun i => l8.getD i 0) = T at tn
    have th : Th11 N S T := by
      refine ⟨by omega, by omega, hS.1, hS.2, fun i hi => ?_⟩
      rw [← hT]
      have : i < l8.length := by omega
      show l8.getD i 0 < S
      rw [List.getD_eq_getElem?_getD, List.getElem?_eq_getElem this]
      exact h2 _ (List.getElem_mem _)
    refine wf_setv (s1 := s5) (v := tr N T) ?_ ?_
    · rw [← tn]
      simp -implicitDefEqProofs
    rw [thenF_nx, wf_seq]
    show WF (qSet _ 10 [some .scr, some (.drs ns), some .atr, some x, some (.int (S : Nat)), some (.tup (l.map rnQ)), some (.lst (nats mk)), some (dueQ S l), some (tr N T), g, h, i, j] s5) _
    refine wf_setv (s1 := s5) (v := tabQ T S N) (by simp -implicitDefEqProofs [F.ta N S T th]) ?_
    rw [thenF_nx, wf_seq]
    refine wf_setv (s1 := s5) (v := .tup (grQ T S N 0)) (by simp -implicitDefEqProofs [F.t0 N S T th]) ?_
    rw [thenF_nx, wf_seq]
    show WF (qIfS _ _ _ [some .scr, some (.drs ns), some .atr, some x, some (.int (S : Nat)), some (.tup (l.map rnQ)), some (.lst (nats mk)), some (dueQ S l), some (tr N T), g, some (tabQ T S N), some (.tup (grQ T S N 0)), j] s5) _
    have r2 := uRepr_nice (nice_gr th) (by decide) (by decide)
    have r3 := uRepr_nice (nice_tab th) (by decide) (by decide)
    have u1 := gr_len (n := N) (S := S) (T := T)
    have u2 := tab_0 (n := N) (S := S) (T := T)
    have u3 := ne_nn11 (E T S N 0) (E T S N 0)
    have u4 : uNe (tr N T) (tr N T) = some (.bl false) := by
      rw [← tn]
      exact uNe_self (nice_nats (fun y hy => by have := h2 y hy; omega) (by omega))
    have f0 := F.fe N S T th
    have f1 := F.tg N S T th
    generalize hgr : grQ T S N 0 = gr at *
    refine wf_ifF (s1 := s5) ?_ ?_
    · simp -implicitDefEqProofs [f0, f1, r2, u1, u2, u3, u4]
    rw [thenF_nx, wf_seq]
    refine wf_ifF (s1 := s5) ?_ ?_
    · simp -implicitDefEqProofs [F.t1 N S T th, r3]
    rw [thenF_nx, wf_seq]
    have e8 : J (qCons (qC (.int 5)) qNil) [some .scr, some (.drs ns), some .atr, some x, some (.int (S : Nat)), some (.tup (l.map rnQ)), some (.lst (nats mk)), some (dueQ S l), some (tr N T), g, some (tabQ T S N), some (.tup gr), j] s5 = okQ (rg (5 : Int).toNat fun i => .int (i : Nat)) s5 := by
      rw [j1]; exact j3 5 s5 (by omega)
    rw [z_For, e8, toSq_ok]
    refine wf_forI (fun _ ρ _ => ∃ g j, ρ = [some .scr, some (.drs ns), some .atr, some x, some (.int (S : Nat)), some (.tup (l.map rnQ)), some (.lst (nats mk)), some (dueQ S l), some (tr N T), g, some (tabQ T S N), some (.tup gr), j]) ?_ ⟨g, j, rfl⟩ ?_
    · rintro done d rest ρ s6 he ⟨g, j, rfl⟩
      obtain ⟨rfl, hi⟩ := rg_split' he
      generalize done.length = q at hi
      refine ⟨_, rfl, ?_⟩
      show WF (qSeq _ _ [some .scr, some (.drs ns), some .atr, some x, some (.int (S : Nat)), some (.tup (l.map rnQ)), some (.lst (nats mk)), some (dueQ S l), some (tr N T), some (.int (q : Nat)), some (tabQ T S N), some (.tup gr), j] s6) _
      rw [wf_seq]
      obtain ⟨bq, s7, hbq, hB⟩ : ∃ bq s7, qIf (qT (qBin (uI2 gGt) (qVar 9) (qC (.int 0)))) (qApp 3 Be (qCons (qVar 10) (qCons (qVar 1) (qCons (qVar 2) qNil)))) (qVar 10) [some .scr, some (.drs ns), some .atr, some x, some (.int (S : Nat)), some (.tup (l.map rnQ)), some (.lst (nats mk)), some (dueQ S l), some (tr N T), some (.int (q : Nat)), some (tabQ T S N), some (.tup gr), j] s6 = okQ bq s7 ∧ Bent bq := by
        by_cases hq : q = 0
        · subst hq
          exact ⟨tabQ T S N, s6, by simp -implicitDefEqProofs, bent_tab th⟩
        · obtain ⟨bq, s7, eb, hb⟩ := F.be N S T th s6
          have : (0 : Int) < (q : Int) := by omega
          exact ⟨bq, s7, by simp -implicitDefEqProofs [this, eb]; intro h0; omega, hb⟩
      refine wf_setv (s1 := s7) (v := bq) hbq ?_
      rw [thenF_nx]
      obtain ⟨v, t1, t2, t3⟩ := F.t3 N S T th bq hB
      refine wf_ifF (s1 := s7) ?_ ⟨_, _, rfl⟩
      simp -implicitDefEqProofs [t1, t2, t3]
    rintro ρ s6 ⟨g, j, rfl⟩
    rw [thenF_nx]
    obtain ⟨s7, e9⟩ := F.rf N S T th s6
    refine wf_ifF (s1 := s7) ?_ ⟨_, _, _, _, _, _, _, _, _, _, rfl⟩
    simp -implicitDefEqProofs [e9]
  · rintro ρ s ⟨a, b, c, d, e, f, g, h, i, j, rfl⟩
    rw [thenF_nx]
    exact c_ret (s1 := s) (v := .bl true) rfl rfl
end Dn
namespace Lk11
theorem law_true (cells : List Int) (_ : cells.length ≤ 63) : ∃ S1, Dn.m_law_k11 [.fl (cells.map Sh.D.int)] [] = some (.ok (.bl true), S1) :=
  Dn.law_top (N := Dn.N_law_k11) (by decide) Dn.kr_law_k11 Dn.law_wf11 cells
end Lk11

set_option Elab.async false
set_option linter.all false
open PySem PySem.W PyProof.Rows
set_option maxRecDepth 100000 in
set_option maxHeartbeats 0 in
theorem PySem.Challenge.cw_hangstogether_k11_whole_threadings_told_holds : PySem.Challenge.rw_hangstogether_k11_whole_threadings_told.Holds := by
  w_on; o_law; k_head; (case hw => w_witness2)
  k_fill
  refine Sh.law_walk (l := PySem.Challenge.rw_hangstogether_k11_whole_threadings_told) (n := 63) (k := 9) (x := "script") (C := fun w => ⟨fun _ _ => False, w⟩) (m := Dn.m_law_k11) rfl (by decide) rfl ⟨rfl, by decide, by decide⟩ (fun w h Y => PySem.W.kIn_of Y) ?F Lk11.law_true
  case F =>
    intro w mg fa h KX G hmg
    refine' Lk11.all_mk KX G hmg Lk11.law_g ?c_MAX_ENDS ?c_MAX_SHAFTS ?d__STEPS ?dt__STEPS ?z_abs ?z_all ?z_bool ?z_int ?z_isinstance ?z_len ?z_list ?z_max ?z_min ?z_range ?z_repr ?z_reversed ?z_str ?z_sum ?z_tuple ?z_type ?a0 ?l0 ?co0 ?ke0 ?a1 ?l1 ?co1 ?ke1 ?a2 ?l2 ?co2 ?ke2 ?a3 ?l3 ?co3 ?ke3 ?a4 ?l4 ?co4 ?ke4 ?a5 ?l5 ?co5 ?ke5 ?a6 ?l6 ?co6 ?ke6 ?a7 ?l7 ?co7 ?ke7 ?a8 ?l8 ?co8 ?ke8 ?a9 ?l9 ?co9 ?ke9 ?a10 ?l10 ?co10 ?ke10 ?a11 ?l11 ?co11 ?ke11 ?a12 ?l12 ?co12 ?ke12 ?a13 ?l13 ?co13 ?ke13 ?a14 ?l14 ?co14 ?ke14 ?a15 ?l15 ?co15 ?ke15 ?a16 ?l16 ?co16 ?ke16 ?a17 ?l17 ?co17 ?ke17 ?a18 ?l18 ?co18 ?ke18 ?a19 ?l19 ?co19 ?ke19 ?a20 ?l20 ?co20 ?ke20 ?a21 ?l21 ?co21 ?ke21 ?a22 ?l22 ?co22 ?ke22 ?a23 ?l23 ?co23 ?ke23 ?a24 ?l24 ?co24 ?ke24 ?a25 ?l25 ?co25 ?ke25 ?a26 ?l26 ?co26 ?ke26 ?a27 ?l27 ?co27 ?ke27 ?xa_ArgumentError ?xa_PaperError ?xl_ArgumentError ?xr_ArgumentError ?xs_ArgumentError ?xi_ArgumentError ?xt_ArgumentError ?yl_ArgumentError ?yc_ArgumentError ?yk_ArgumentError ?xk_ArgumentError ?xl_PaperError ?xr_PaperError ?xs_PaperError ?xi_PaperError ?xt_PaperError ?yl_PaperError ?yc_PaperError ?yk_PaperError ?xk_PaperError ?xg_ArgumentError ?xh_ArgumentError ?xn_ArgumentError ?xd_ArgumentError ?xg_PaperError ?xh_PaperError ?xn_PaperError ?xd_PaperError ?xe_ArgumentError ?xe_PaperError ?xy_ArgumentError ?xy_PaperError ?xc_ArgumentError ?xc_PaperError ?xq_ArgumentError_ArgumentError ?xq_PaperError_ArgumentError ?xq_ArgumentError_PaperError ?xq_PaperError_PaperError
    (case c_MAX_ENDS => k_is)
    (case c_MAX_SHAFTS => k_is)
    (case d__STEPS => k_is)
    (case dt__STEPS => first | rfl | k_is | decide +kernel)
    (case z_abs => k_is)
    (case z_all => k_is)
    (case z_bool => k_is)
    (case z_int => k_is)
    (case z_isinstance => k_is)
    (case z_len => k_is)
    (case z_list => k_is)
    (case z_max => k_is)
    (case z_min => k_is)
    (case z_range => k_is)
    (case z_repr => k_is)
    (case z_reversed => k_is)
    (case z_str => k_is)
    (case z_sum => k_is)
    (case z_tuple => k_is)
    (case z_type => k_is)
    (case a0 => k_is)
    (case l0 => k_is)
    (case co0 => k_is)
    (case ke0 => k_is)
    (case a1 => k_is)
    (case l1 => k_is)
    (case co1 => k_is)
    (case ke1 => k_is)
    (case a2 => k_is)
    (case l2 => k_is)
    (case co2 => k_is)
    (case ke2 => k_is)
    (case a3 => k_is)
    (case l3 => k_is)
    (case co3 => k_is)
    (case ke3 => k_is)
    (case a4 => k_is)
    (case l4 => k_is)
    (case co4 => k_is)
    (case ke4 => k_is)
    (case a5 => k_is)
    (case l5 => k_is)
    (case co5 => k_is)
    (case ke5 => k_is)
    (case a6 => k_is)
    (case l6 => k_is)
    (case co6 => k_is)
    (case ke6 => k_is)
    (case a7 => k_is)
    (case l7 => k_is)
    (case co7 => k_is)
    (case ke7 => k_is)
    (case a8 => k_is)
    (case l8 => k_is)
    (case co8 => k_is)
    (case ke8 => k_is)
    (case a9 => k_is)
    (case l9 => k_is)
    (case co9 => k_is)
    (case ke9 => k_is)
    (case a10 => k_is)
    (case l10 => k_is)
    (case co10 => k_is)
    (case ke10 => k_is)
    (case a11 => k_is)
    (case l11 => k_is)
    (case co11 => k_is)
    (case ke11 => k_is)
    (case a12 => k_is)
    (case l12 => k_is)
    (case co12 => k_is)
    (case ke12 => k_is)
    (case a13 => k_is)
    (case l13 => k_is)
    (case co13 => k_is)
    (case ke13 => k_is)
    (case a14 => k_is)
    (case l14 => k_is)
    (case co14 => k_is)
    (case ke14 => k_is)
    (case a15 => k_is)
    (case l15 => k_is)
    (case co15 => k_is)
    (case ke15 => k_is)
    (case a16 => k_is)
    (case l16 => k_is)
    (case co16 => k_is)
    (case ke16 => k_is)
    (case a17 => k_is)
    (case l17 => k_is)
    (case co17 => k_is)
    (case ke17 => k_is)
    (case a18 => k_is)
    (case l18 => k_is)
    (case co18 => k_is)
    (case ke18 => k_is)
    (case a19 => k_is)
    (case l19 => k_is)
    (case co19 => k_is)
    (case ke19 => k_is)
    (case a20 => k_is)
    (case l20 => k_is)
    (case co20 => k_is)
    (case ke20 => k_is)
    (case a21 => k_is)
    (case l21 => k_is)
    (case co21 => k_is)
    (case ke21 => k_is)
    (case a22 => k_is)
    (case l22 => k_is)
    (case co22 => k_is)
    (case ke22 => k_is)
    (case a23 => k_is)
    (case l23 => k_is)
    (case co23 => k_is)
    (case ke23 => k_is)
    (case a24 => k_is)
    (case l24 => k_is)
    (case co24 => k_is)
    (case ke24 => k_is)
    (case a25 => k_is)
    (case l25 => k_is)
    (case co25 => k_is)
    (case ke25 => k_is)
    (case a26 => k_is)
    (case l26 => k_is)
    (case co26 => k_is)
    (case ke26 => k_is)
    (case a27 => k_is)
    (case l27 => k_is)
    (case co27 => k_is)
    (case ke27 => k_is)
    (case xa_ArgumentError => k_is)
    (case xa_PaperError => k_is)
    (case xl_ArgumentError => k_is)
    (case xr_ArgumentError => rfl)
    (case xs_ArgumentError => k_is)
    (case xi_ArgumentError => k_is)
    (case xt_ArgumentError => k_is)
    (case yl_ArgumentError => k_is)
    (case yc_ArgumentError => k_is)
    (case yk_ArgumentError => k_is)
    (case xk_ArgumentError => k_is)
    (case xl_PaperError => k_is)
    (case xr_PaperError => rfl)
    (case xs_PaperError => k_is)
    (case xi_PaperError => k_is)
    (case xt_PaperError => k_is)
    (case yl_PaperError => k_is)
    (case yc_PaperError => k_is)
    (case yk_PaperError => k_is)
    (case xk_PaperError => k_is)
    (case xg_ArgumentError => k_is)
    (case xh_ArgumentError => k_is)
    (case xn_ArgumentError => k_is)
    (case xd_ArgumentError => k_is)
    (case xg_PaperError => k_is)
    (case xh_PaperError => k_is)
    (case xn_PaperError => k_is)
    (case xd_PaperError => k_is)
    (case xe_ArgumentError => k_is)
    (case xe_PaperError => k_is)
    (case xy_ArgumentError => k_is)
    (case xy_PaperError => k_is)
    (case xc_ArgumentError => k_is)
    (case xc_PaperError => k_is)
    (case xq_ArgumentError_ArgumentError => first | rfl | k_is)
    (case xq_PaperError_ArgumentError => first | rfl | k_is)
    (case xq_ArgumentError_PaperError => first | rfl | k_is)
    (case xq_PaperError_PaperError => first | rfl | k_is)
