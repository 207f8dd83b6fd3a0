import PyProof.Rows.All
import Wide.All
import OpenK.AllK
import Wide.FinOn
import KE.KStateDown
import HandS.ForMost
import HandS.More
import HandS.WordsExc
import HandS.Defaults
import HandS.IsInst
import HandS.TupAny
import HandS.CallSlots
import HandS.Exc
import HandS.TryOnly
import HandS.Zip
import HandS.Wide
import HandS.Lambda
import HandS.HeadHook1
import HandS.DeepEq
import PyProof.NeKinds
import PyProof.P3In
import HandS.TupMul
import HandS.Style
import HandS.SortInts
import HandS.Deep
import HandS.Conv
import PyProof.ReprRoads
import HandS.ExcIs
import HandS.ExcField
import HandS.TryMany
import HandS.HeadHook4
import HandS.EndBits
import HandS.EndTab
import KE.KExcInit
import HandS.RaiseMore
import HandS.HeadHook2
import HandS.Head0
import HandS.Head1
import HandS.Head2
import HandS.HeadEnd
import PySem.Challenge.RW_keywise_k01_rows_and_partial_rows_recogn
set_option autoImplicit false
set_option Elab.async false
set_option linter.all false
set_option maxRecDepth 100000
/-! A small functional Python over values without addresses, and how its values stand in the layer's heap. -/
namespace MP
open PySem PySem.Spec PyProof.Rows L2

/-- things of more than one object: an exception, an instance, a dict, a lambda -/
inductive Kd where
  | exc (cls : Str) (fn : List Str)
  | obj (cls : Str) (fn : List Str)
  | map (ks : List Key)
  | fn (f c : Addr) (q : Str) (us : List V)     -- a lambda with the names that it sees
  deriving Inhabited
/-- values: data are trees; what is changed is named by its place in the store -/
inductive D where
  | non | bl (b : Bool) | int (i : Int) | str (s : Str) | ty (n : String)
  | tup (xs : List D) | lst (xs : List D) | dct (kvs : List (Key × V)) | ref (i : Nat)
  | scr (ns : List Int)
  | rcd (k : Kd) (vs : List D)
  deriving Inhabited

/-- a store's cell -/
inductive MO where
  | lst (xs : List D)
  deriving Inhabited
abbrev Sto := List MO
abbrev Env := List (Option D)

def flatV1 : V → Bool
  | .non | .bl _ | .int _ | .str _ => true
  | _ => false

/-- the tables in which the lambdas of the text's defs leave their code objects: by the defs' code objects; a table that K knows is none of them -/
def lamT (K : PySem.W.Frag) : List (Addr × Str) := K.filterMap fun p => match p.2 with
  | ⟨.type "code", _, .fields vs, _⟩ => (match (vs[11]? : Option Value), vs.toList with
    | some (.ref P), _ :: .str n _ :: _ => if (K.lookup P).isNone then some (P, n ++ ".<locals>." ++ "<lambda>") else none
    | _, _ => none)
  | _ => none
theorem tabs_keep {T : List (Addr × Str)} {H H' : Hp} (t : LamX.Tabs T H) (k : ∀ b o, H b = some o → (∀ vs, o ≠ .lst vs) → H' b = some o) : LamX.Tabs T H' := fun p hp => by
  obtain ⟨ps, h1, h2, h3⟩ := t p hp
  refine ⟨ps, k _ _ h1 (fun _ z => by cases z), h2, fun pos cv hc => ?_⟩
  obtain ⟨c, e1, e2⟩ := h3 pos cv hc
  exact ⟨c, e1, k _ _ e2 (fun _ z => by unfold LamX.CodeO at z; cases z)⟩
theorem tabs_upd {T : List (Addr × Str)} {H : Hp} (t : LamX.Tabs T H) {p : Addr} (o : HO) (hp : H p = none ∨ ∃ vs, H p = some (.lst vs)) : LamX.Tabs T (upd H p o) := tabs_keep t fun b u e nl => by
  rw [upd_ne]
  · exact e
  · intro z
    subst z
    rcases hp with hp | ⟨vs, hp⟩
    · rw [hp] at e; cases e
    · rw [hp] at e; cases e; exact nl _ rfl
/-- an exception's object: its class, its dict -/
def XO (a : Addr) (cls : Value) (d : Option Addr) : HO := .ext fun h => ∃ (oe : Obj) (vs : Array Value), h.get? a = some oe ∧ Zc cls d oe ∧ oe.data = .fields vs
/-- which objects such a thing is made of -/
def Shape (K : PySem.W.Frag) (k : Kd) (a : Addr) (us : List V) (fp : List (Addr × HO)) : Prop := match k with
  | .exc cls fn => us.length = fn.length ∧ ((fn = [] ∧ fp = [(a, XO a (.ref (He.ga K cls)) none)]) ∨ fn ≠ [] ∧ ∃ dd, fp = [(a, XO a (.ref (He.ga K cls)) (some dd)), (dd, .xd (fn.zip us))])
  | .obj cls fn => us.length = fn.length ∧ ∃ dx, fp = [(a, .ins (He.ga K cls) dx (fn.zip us))]
  | .map ks => us.length = ks.length ∧ fp = [(a, .dK (ks.zip us))]
  | .fn f c q ws => a = f ∧ us = ws ∧ fp = [(c, LamX.CodeO c q)]
section
variable (K : PySem.W.Frag) (β τ : List Addr) (H : Hp)
/-- may be read: no cell, not reserved -/
def Fz (a : Addr) : Prop := a ∉ β ∧ a ∉ τ
def KTup (a : Addr) (xs : List V) : Prop :=
  ∃ (o : Obj) (its : Array Value) (n : Nat), K.lookup a = some o ∧ o.cls = .type "tuple" ∧ o.data = .seq its n ∧ its.size ≤ sizeLine ∧ Vals xs its.toList
def KLst (a : Addr) (xs : List V) : Prop :=
  ∃ (o : Obj) (its : Array Value) (n : Nat), K.lookup a = some o ∧ o.cls = .type "list" ∧ o.dict = none ∧ o.data = .seq its n ∧ its.size ≤ sizeLine ∧ Vals xs its.toList
mutual
def Rep : D → V → Prop
  | .non, v => v = .non
  | .bl b, v => v = .bl b
  | .int i, v => v = .int i
  | .str s, v => v = .str s
  | .ty n, v => v = .ty n
  | .tup ds, v => ∃ a vs, v = .ref a ∧ ((Rd H a (.tup vs) ∧ Fz β τ a) ∨ KTup K a vs) ∧ Reps ds vs
  | .lst ds, v => ∃ a vs, v = .ref a ∧ H a = some (.lst vs) ∧ Fz β τ a ∧ Reps ds vs
  | .dct kvs, v => ∃ a, v = .ref a ∧ H a = some (.dK kvs) ∧ Fz β τ a ∧ kvs.all (fun p => flatV1 p.2) = true
  | .ref i, v => ∃ a, v = .ref a ∧ β[i]? = some a
  | .scr ns, v => ∃ a, v = .ref a ∧ ((Rd H a (.lst (ns.map V.int)) ∧ Fz β τ a) ∨ KLst K a (ns.map V.int))
  | .rcd k ds, v => ∃ a us fp, v = .ref a ∧ (∀ p ∈ fp, H p.1 = some p.2 ∧ Fz β τ p.1 ∧ ∀ ps, p.2 ≠ .tbl ps) ∧ Shape K k a us fp ∧ Reps ds us
def Reps : List D → List V → Prop
  | [], vs => vs = []
  | d :: ds, vs => ∃ v r, vs = v :: r ∧ Rep d v ∧ Reps ds r
end
def MRep (a : Addr) : MO → Prop
  | .lst ds => ∃ vs, H a = some (.lst vs) ∧ Reps K β τ H ds vs
/-- the store stands at β -/
structure SRep (h : Sto) : Prop where
  len : h.length = β.length
  nd : β.Nodup
  at_ : ∀ (i : Nat) (o : MO) (a : Addr), h[i]? = some o → β[i]? = some a → MRep K β τ H a o
  off : ∀ a ∈ β, a ∉ τ
  res : ∀ a ∈ τ, ∃ vs, H a = some (.lst vs)
  tab : LamX.Tabs (lamT K) H
/-- the slots hold what the environment says (nothing is said of a slot without a value) -/
def ERep (σ : L2.St) (ρ : Env) : Prop := ρ.length = σ.length ∧ ∀ (i : Nat) (d : D), ρ[i]? = some (some d) → ∃ v, σ[i]? = some (some v) ∧ Rep K β τ H d v
end

/-- nothing is known at a but a table, perhaps -/
def FrT (H : Hp) (a : Addr) : Prop := ∀ o, H a = some o → ∃ ps, o = .tbl ps
theorem FrT.none {H : Hp} {a : Addr} (h : H a = none) : FrT H a := fun o e => by rw [h] at e; cases e
theorem FrT.ne {H : Hp} {a b : Addr} {o : HO} (f : FrT H b) (h : H a = some o) (nt : ∀ ps, o ≠ .tbl ps := by intro _ z; cases z) : a ≠ b := fun z => by
  subst z
  obtain ⟨ps, e⟩ := f _ h
  exact nt ps e
/-- from (β, H) to (β', H'): cells may change and come, all else but tables stays -/
structure Ext (β : List Addr) (H : Hp) (β' : List Addr) (H' : Hp) : Prop where
  pre : ∃ t, β' = β ++ t
  keepN : ∀ a o, H a = some o → a ∉ β → (∀ ps, o ≠ .tbl ps) → H' a = some o ∧ a ∉ β'
theorem Ext.keep {β β' : List Addr} {H H' : Hp} (e : Ext β H β' H') (a : Addr) (o : HO) (h : H a = some o) (n : a ∉ β) (nt : ∀ ps, o ≠ .tbl ps := by intro _ z; cases z) : H' a = some o ∧ a ∉ β' := e.keepN a o h n nt
/-- all stays, tables too -/
theorem Ext.of {β β' : List Addr} {H H' : Hp} (p : ∃ t, β' = β ++ t) (k : ∀ a o, H a = some o → a ∉ β → H' a = some o ∧ a ∉ β') : Ext β H β' H' :=
  ⟨p, fun a o h n _ => k a o h n⟩
theorem Ext.refl (β : List Addr) (H : Hp) : Ext β H β H := Ext.of ⟨[], by simp⟩ fun _ _ h n => ⟨h, n⟩
theorem Ext.trans {β β1 β2 : List Addr} {H H1 H2 : Hp} (a : Ext β H β1 H1) (b : Ext β1 H1 β2 H2) : Ext β H β2 H2 := by
  refine ⟨?_, fun x o h n nt => ?_⟩
  · obtain ⟨t, rfl⟩ := a.pre
    obtain ⟨u, rfl⟩ := b.pre
    exact ⟨t ++ u, by simp⟩
  · obtain ⟨h1, n1⟩ := a.keepN x o h n nt
    exact b.keepN x o h1 n1 nt
theorem Ext.get {β β' : List Addr} {H H' : Hp} (e : Ext β H β' H') {i : Nat} {a : Addr} (h : β[i]? = some a) : β'[i]? = some a := by
  obtain ⟨t, rfl⟩ := e.pre
  rw [List.getElem?_append_left]
  · exact h
  · exact (List.getElem?_eq_some_iff.mp h).1
theorem Ext.rd {β β' : List Addr} {H H' : Hp} (e : Ext β H β' H') {τ : List Addr} {a : Addr} {o : HO} (h : Rd H a o) (n : Fz β τ a) (nt : ∀ ps, o ≠ .tbl ps := by intro _ z; cases z) : Rd H' a o ∧ Fz β' τ a := by
  rcases h with h | ⟨u, h⟩
  · obtain ⟨h1, n1⟩ := e.keep a _ h n.1 nt
    exact ⟨.inl h1, n1, n.2⟩
  · obtain ⟨h1, n1⟩ := e.keep a _ h n.1
    exact ⟨.inr ⟨u, h1⟩, n1, n.2⟩

section
variable {K : PySem.W.Frag} {τ : List Addr}
mutual
theorem Rep.ext {β β' : List Addr} {H H' : Hp} (e : Ext β H β' H') : ∀ {d : D} {v : V}, Rep K β τ H d v → Rep K β' τ H' d v
  | .non, _, h => by simpa only [Rep] using h
  | .bl _, _, h => by simpa only [Rep] using h
  | .int _, _, h => by simpa only [Rep] using h
  | .str _, _, h => by simpa only [Rep] using h
  | .ty _, _, h => by simpa only [Rep] using h
  | .tup ds, _, h => by
    simp only [Rep] at h ⊢
    obtain ⟨a, vs, rfl, q, r⟩ := h
    refine ⟨a, vs, rfl, ?_, Reps.ext e r⟩
    rcases q with ⟨q, n⟩ | q
    · exact .inl (e.rd q n)
    · exact .inr q
  | .lst ds, _, h => by
    simp only [Rep] at h ⊢
    obtain ⟨a, vs, rfl, q, n, r⟩ := h
    obtain ⟨q', n'⟩ := e.keep a _ q n.1
    exact ⟨a, vs, rfl, q', ⟨n', n.2⟩, Reps.ext e r⟩
  | .dct kvs, _, h => by
    simp only [Rep] at h ⊢
    obtain ⟨a, rfl, q, n, z⟩ := h
    obtain ⟨h1, n1⟩ := e.keep a _ q n.1
    exact ⟨a, rfl, h1, ⟨n1, n.2⟩, z⟩
  | .ref i, _, h => by
    simp only [Rep] at h ⊢
    obtain ⟨a, rfl, q⟩ := h
    exact ⟨a, rfl, e.get q⟩
  | .scr ns, _, h => by
    simp only [Rep] at h ⊢
    obtain ⟨a, rfl, q⟩ := h
    refine ⟨a, rfl, ?_⟩
    rcases q with ⟨q, n⟩ | q
    · exact .inl (e.rd q n)
    · exact .inr q
  | .rcd k ds, _, r => by
    simp only [Rep] at r ⊢
    obtain ⟨a, us, fp, rfl, q, sh, w⟩ := r
    exact ⟨a, us, fp, rfl, fun x hx => let ⟨h1, n, t⟩ := q x hx; let ⟨h1', n'⟩ := e.keepN x.1 x.2 h1 n.1 t; ⟨h1', ⟨n', n.2⟩, t⟩, sh, Reps.ext e w⟩
theorem Reps.ext {β β' : List Addr} {H H' : Hp} (e : Ext β H β' H') : ∀ {ds : List D} {vs : List V}, Reps K β τ H ds vs → Reps K β' τ H' ds vs
  | [], _, h => by simpa only [Reps] using h
  | d :: ds, _, h => by
    simp only [Reps] at h ⊢
    obtain ⟨v, r, rfl, h1, h2⟩ := h
    exact ⟨v, r, rfl, Rep.ext e h1, Reps.ext e h2⟩
end
theorem ERep.ext {β β' : List Addr} {H H' : Hp} (e : Ext β H β' H') {σ : L2.St} {ρ : Env} (h : ERep K β τ H σ ρ) : ERep K β' τ H' σ ρ :=
  ⟨h.1, fun i d hi => let ⟨v, hv, r⟩ := h.2 i d hi; ⟨v, hv, r.ext e⟩⟩
theorem MRep.ext {β β' : List Addr} {H H' : Hp} (e : Ext β H β' H') {a b : Addr} {o : MO} (hb : ∀ vs, H a = some (.lst vs) → H' b = some (.lst vs)) (h : MRep K β τ H a o) : MRep K β' τ H' b o := by
  cases o with
  | lst ds =>
    obtain ⟨vs, h1, h2⟩ := h
    exact ⟨vs, hb vs h1, Reps.ext e h2⟩
theorem Reps.length {β : List Addr} {H : Hp} : ∀ {ds : List D} {vs : List V}, Reps K β τ H ds vs → vs.length = ds.length
  | [], vs, h => by simp only [Reps] at h; subst h; rfl
  | d :: ds, vs, h => by
    simp only [Reps] at h
    obtain ⟨v, r, rfl, _, h2⟩ := h
    simp [Reps.length h2]
theorem Reps.append {β : List Addr} {H : Hp} : ∀ {ds es : List D} {vs us : List V}, Reps K β τ H ds vs → Reps K β τ H es us → Reps K β τ H (ds ++ es) (vs ++ us)
  | [], _, vs, _, h, q => by simp only [Reps] at h; subst h; simpa using q
  | d :: ds, es, vs, us, h, q => by
    simp only [Reps] at h
    obtain ⟨v, r, rfl, h1, h2⟩ := h
    simp only [List.cons_append, Reps]
    exact ⟨v, r ++ us, rfl, h1, Reps.append h2 q⟩
theorem Reps.get {β : List Addr} {H : Hp} : ∀ {ds : List D} {vs : List V} {i : Nat} {d : D}, Reps K β τ H ds vs → ds[i]? = some d → ∃ v, vs[i]? = some v ∧ Rep K β τ H d v
  | [], _, i, d, h, q => by simp at q
  | e :: ds, vs, i, d, h, q => by
    simp only [Reps] at h
    obtain ⟨v, r, rfl, h1, h2⟩ := h
    cases i with
    | zero => simp at q; subst q; exact ⟨v, rfl, h1⟩
    | succ i => simp at q; obtain ⟨u, hu, hr⟩ := Reps.get h2 q; exact ⟨u, by simpa using hu, hr⟩
theorem Reps.getV {β : List Addr} {H : Hp} : ∀ {ds : List D} {vs : List V} {i : Nat} {v : V}, Reps K β τ H ds vs → vs[i]? = some v → ∃ d, ds[i]? = some d ∧ Rep K β τ H d v
  | [], vs, i, v, h, q => by simp only [Reps] at h; subst h; simp at q
  | e :: ds, vs, i, v, h, q => by
    simp only [Reps] at h
    obtain ⟨w, r, rfl, h1, h2⟩ := h
    cases i with
    | zero => simp at q; subst q; exact ⟨e, rfl, h1⟩
    | succ i => simp at q; obtain ⟨u, hu, hr⟩ := Reps.getV h2 q; exact ⟨u, by simpa using hu, hr⟩
theorem Reps.drop {β : List Addr} {H : Hp} : ∀ {ds : List D} {vs : List V} (n : Nat), Reps K β τ H ds vs → Reps K β τ H (ds.drop n) (vs.drop n)
  | [], vs, n, h => by simp only [Reps] at h; subst h; simp [Reps]
  | d :: ds, vs, 0, h => by simpa using h
  | d :: ds, vs, n + 1, h => by
    simp only [Reps] at h
    obtain ⟨v, r, rfl, _, h2⟩ := h
    simpa using Reps.drop n h2
theorem Reps.take {β : List Addr} {H : Hp} : ∀ {ds : List D} {vs : List V} (n : Nat), Reps K β τ H ds vs → Reps K β τ H (ds.take n) (vs.take n)
  | [], vs, n, h => by simp only [Reps] at h; subst h; simp [Reps]
  | d :: ds, vs, 0, h => by simp [Reps]
  | d :: ds, vs, n + 1, h => by
    simp only [Reps] at h
    obtain ⟨v, r, rfl, h1, h2⟩ := h
    simp only [List.take_succ_cons, Reps]
    exact ⟨v, _, rfl, h1, Reps.take n h2⟩
theorem Reps.nil {β : List Addr} {H : Hp} : Reps K β τ H [] [] := by simp [Reps]
theorem Reps.cons {β : List Addr} {H : Hp} {d : D} {ds : List D} {v : V} {vs : List V} (h : Rep K β τ H d v) (q : Reps K β τ H ds vs) : Reps K β τ H (d :: ds) (v :: vs) := by
  simp only [Reps]; exact ⟨v, vs, rfl, h, q⟩
theorem Reps.set {β : List Addr} {H : Hp} : ∀ {ds : List D} {vs : List V} (i : Nat) {d : D} {v : V}, Reps K β τ H ds vs → Rep K β τ H d v → Reps K β τ H (ds.set i d) (vs.set i v)
  | [], vs, i, d, v, h, _ => by simp only [Reps] at h; subst h; simp [Reps]
  | e :: ds, vs, i, d, v, h, q => by
    simp only [Reps] at h
    obtain ⟨w, r, rfl, h1, h2⟩ := h
    cases i with
    | zero => simp only [List.set_cons_zero]; exact Reps.cons q h2
    | succ i => simp only [List.set_cons_succ]; exact Reps.cons h1 (Reps.set i h2 q)
theorem Reps.eraseIdx {β : List Addr} {H : Hp} : ∀ {ds : List D} {vs : List V} (i : Nat), Reps K β τ H ds vs → Reps K β τ H (ds.eraseIdx i) (vs.eraseIdx i)
  | [], vs, i, h => by simp only [Reps] at h; subst h; simp [Reps]
  | e :: ds, vs, i, h => by
    simp only [Reps] at h
    obtain ⟨w, r, rfl, h1, h2⟩ := h
    cases i with
    | zero => simpa using h2
    | succ i => simp only [List.eraseIdx_cons_succ]; exact Reps.cons h1 (Reps.eraseIdx i h2)
theorem Reps.reverse {β : List Addr} {H : Hp} : ∀ {ds : List D} {vs : List V}, Reps K β τ H ds vs → Reps K β τ H ds.reverse vs.reverse
  | [], vs, h => by simp only [Reps] at h; subst h; simp [Reps]
  | e :: ds, vs, h => by
    simp only [Reps] at h
    obtain ⟨w, r, rfl, h1, h2⟩ := h
    simp only [List.reverse_cons]
    exact Reps.append (Reps.reverse h2) (Reps.cons h1 Reps.nil)
/-- a list or a tuple is read off the layer -/
theorem Rep.sqT {β : List Addr} {H : Hp} {ds : List D} {v : V} (h : Rep K β τ H (.tup ds) v) : ∃ a vs, v = .ref a ∧ SqT K H a vs ∧ Reps K β τ H ds vs := by
  simp only [Rep] at h
  obtain ⟨a, vs, rfl, q, r⟩ := h
  refine ⟨a, vs, rfl, ?_, r⟩
  rcases q with ⟨q, _⟩ | q
  · exact .inl q
  · exact .inr q
theorem Rep.sqL {β : List Addr} {H : Hp} {ds : List D} {v : V} (h : Rep K β τ H (.lst ds) v) : ∃ a vs, v = .ref a ∧ SqL K H a vs ∧ Reps K β τ H ds vs := by
  simp only [Rep] at h
  obtain ⟨a, vs, rfl, q, _, r⟩ := h
  exact ⟨a, vs, rfl, .inl (.inl q), r⟩
/-- a new frozen thing -/
theorem SRep.some_of {β : List Addr} {H : Hp} {h : Sto} (S : SRep K β τ H h) {a : Addr} (ha : a ∈ β) : ∃ o, H a = some o := by
  obtain ⟨i, hi⟩ := List.mem_iff_getElem?.mp ha
  have hl : i < h.length := by rw [S.len]; exact (List.getElem?_eq_some_iff.mp hi).1
  have hx : h[i]? = some h[i] := by simp [hl]
  have m := S.at_ i _ a hx hi
  revert m
  generalize h[i] = o
  intro m
  cases o with
  | lst ds => obtain ⟨vs, e, _⟩ := m; exact ⟨_, e⟩
theorem SRep.lst_of {β : List Addr} {H : Hp} {h : Sto} (S : SRep K β τ H h) {a : Addr} (ha : a ∈ β) : ∃ vs, H a = some (.lst vs) := by
  obtain ⟨i, hi⟩ := List.mem_iff_getElem?.mp ha
  have hl : i < h.length := by rw [S.len]; exact (List.getElem?_eq_some_iff.mp hi).1
  have hx : h[i]? = some h[i] := by simp [hl]
  have m := S.at_ i _ a hx hi
  revert m
  generalize h[i] = o
  intro m
  cases o with
  | lst ds => obtain ⟨vs, e, _⟩ := m; exact ⟨_, e⟩
theorem SRep.fresh {β : List Addr} {H : Hp} {h : Sto} (S : SRep K β τ H h) {p : Addr} (hp : H p = none) : p ∉ β := fun z => by
  obtain ⟨o, e⟩ := S.some_of z
  rw [hp] at e; cases e
theorem Ext.new {β : List Addr} {H : Hp} {p : Addr} (o : HO) (hp : H p = none) : Ext β H β (upd H p o) :=
  Ext.of ⟨[], by simp⟩ fun a u h n => ⟨by rw [upd_ne (ne_of_none h hp)]; exact h, n⟩
theorem SRep.resOf {β β' : List Addr} {H H' : Hp} {h : Sto} (S : SRep K β τ H h) (e : Ext β H β' H') : ∀ a ∈ τ, ∃ vs, H' a = some (.lst vs) := fun a ha =>
  let ⟨vs, q⟩ := S.res a ha
  ⟨vs, (e.keep a _ q fun z => S.off a z ha).1⟩
theorem SRep.offTau {β : List Addr} {H : Hp} {h : Sto} (S : SRep K β τ H h) {p : Addr} (hp : H p = none) : p ∉ τ := fun z => by
  obtain ⟨o, e⟩ := S.res p z
  rw [hp] at e; cases e
theorem SRep.offTauT {β : List Addr} {H : Hp} {h : Sto} (S : SRep K β τ H h) {p : Addr} (hp : FrT H p) : p ∉ τ := fun z => by
  obtain ⟨o, e⟩ := S.res p z
  obtain ⟨ps, q⟩ := hp _ e
  cases q
theorem SRep.ext {β : List Addr} {H H' : Hp} {h : Sto} (S : SRep K β τ H h) (e : Ext β H β H') (hc : ∀ a ∈ β, H' a = H a) (t : LamX.Tabs (lamT K) H') : SRep K β τ H' h :=
  ⟨S.len, S.nd, fun i o a hi ha => (S.at_ i o a hi ha).ext e fun vs q => by rw [hc a (List.mem_of_getElem? ha)]; exact q, S.off, S.resOf e, t⟩
theorem SRep.new {β : List Addr} {H : Hp} {h : Sto} (S : SRep K β τ H h) {p : Addr} (o : HO) (hp : H p = none) : SRep K β τ (upd H p o) h :=
  S.ext (Ext.new o hp) (fun a ha => upd_ne fun z => S.fresh hp (z ▸ ha)) (tabs_upd S.tab o (.inl hp))
theorem Ext.cell {β : List Addr} {H : Hp} {p : Addr} (o : HO) (hp : H p = none) : Ext β H (β ++ [p]) (upd H p o) :=
  Ext.of ⟨[p], rfl⟩ fun a u h n => ⟨by rw [upd_ne (ne_of_none h hp)]; exact h, by
    simp only [List.mem_append, List.mem_singleton, not_or]
    exact ⟨n, ne_of_none h hp⟩⟩
theorem SRep.cell {β : List Addr} {H : Hp} {h : Sto} (S : SRep K β τ H h) {p : Addr} {ds : List D} {vs : List V} (hp : H p = none) (r : Reps K β τ H ds vs) : SRep K (β ++ [p]) τ (upd H p (.lst vs)) (h ++ [.lst ds]) := by
  have e : Ext β H (β ++ [p]) (upd H p (.lst vs)) := Ext.cell _ hp
  have ht : p ∉ τ := S.offTau hp
  refine ⟨by simp [S.len], ?_, fun i o a hi ha => ?_, ?_, S.resOf e, tabs_upd S.tab _ (.inl hp)⟩
  · rw [List.nodup_append]
    refine ⟨S.nd, by simp, fun a ha b hb z => ?_⟩
    simp only [List.mem_singleton] at hb
    subst hb; subst z
    exact S.fresh hp ha
  · by_cases hl : i < h.length
    · rw [List.getElem?_append_left hl] at hi
      rw [List.getElem?_append_left (by rw [← S.len]; exact hl)] at ha
      exact (S.at_ i o a hi ha).ext e fun us q => by
        rw [upd_ne]
        · exact q
        · intro z; exact S.fresh hp (z ▸ List.mem_of_getElem? ha)
    · have hz : i = h.length := by
        have := (List.getElem?_eq_some_iff.mp hi).1
        simp at this; omega
      subst hz
      rw [List.getElem?_append_right (Nat.le_refl _)] at hi
      rw [List.getElem?_append_right (by rw [S.len]; exact Nat.le_refl _)] at ha
      simp [S.len] at hi ha
      subst hi; subst ha
      exact ⟨vs, upd_same, Reps.ext e r⟩
  · intro a ha
    rcases List.mem_append.mp ha with ha | ha
    · exact S.off a ha
    · simp only [List.mem_singleton] at ha; subst ha; exact ht
/-- a cell is written -/
theorem Ext.write {β : List Addr} {H : Hp} {a : Addr} {i : Nat} (o : HO) (ha : β[i]? = some a) : Ext β H β (upd H a o) :=
  Ext.of ⟨[], by simp⟩ fun b u h n => ⟨by rw [upd_ne (by intro z; subst z; exact n (List.mem_of_getElem? ha))]; exact h, n⟩
theorem SRep.write {β : List Addr} {H : Hp} {h : Sto} (S : SRep K β τ H h) {a : Addr} {i : Nat} {ds : List D} {vs : List V} (ha : β[i]? = some a) (r : Reps K β τ H ds vs) : SRep K β τ (upd H a (.lst vs)) (h.set i (.lst ds)) := by
  have e : Ext β H β (upd H a (.lst vs)) := Ext.write _ ha
  refine ⟨by simp [S.len], S.nd, fun j o b hj hb => ?_, S.off, S.resOf e, tabs_upd S.tab _ (.inr (S.lst_of (List.mem_of_getElem? ha)))⟩
  by_cases hij : i = j
  · subst hij
    rw [ha] at hb; cases hb
    have hl : i < h.length := by rw [S.len]; exact (List.getElem?_eq_some_iff.mp ha).1
    rw [List.getElem?_set_self hl] at hj; cases hj
    exact ⟨vs, upd_same, Reps.ext e r⟩
  · rw [List.getElem?_set_ne hij] at hj
    refine (S.at_ j o b hj hb).ext e fun us q => ?_
    rw [upd_ne]
    · exact q
    · intro z
      subst z
      obtain ⟨hi1, hi2⟩ := List.getElem?_eq_some_iff.mp ha
      obtain ⟨hj1, hj2⟩ := List.getElem?_eq_some_iff.mp hb
      exact hij ((List.getElem_inj S.nd).mp (hi2.trans hj2.symm))
theorem SRep.get {β : List Addr} {H : Hp} {h : Sto} (S : SRep K β τ H h) {i : Nat} {ds : List D} (hi : h[i]? = some (.lst ds)) : ∃ a vs, β[i]? = some a ∧ H a = some (.lst vs) ∧ Reps K β τ H ds vs := by
  have hl : i < β.length := by rw [← S.len]; exact (List.getElem?_eq_some_iff.mp hi).1
  have ha : β[i]? = some β[i] := by simp [hl]
  obtain ⟨vs, e, r⟩ := S.at_ i _ _ hi ha
  exact ⟨_, vs, ha, e, r⟩
end
end MP

set_option autoImplicit false
set_option Elab.async false
set_option linter.all false
set_option maxRecDepth 100000
/-! The functional Python: its terms and what they do. -/
namespace MP
open PySem PySem.Spec PyProof.Rows L2

/-- an exception of the program's own: its class, its fields (none: made with a text) -/
structure Ex where
  cls : Str
  fs : List (Str × D)
inductive R (α : Type) where
  | ok (a : α) (h : Sto)
  | exc (x : Ex) (h : Sto)
  | bad
def R.bind {α β : Type} : R α → (α → Sto → R β) → R β
  | .ok a h, f => f a h
  | .exc x h, _ => .exc x h
  | .bad, _ => .bad
@[simp] theorem R.bind_ok {α β : Type} (a : α) (h : Sto) (f : α → Sto → R β) : (R.ok a h).bind f = f a h := rfl
@[simp] theorem R.bind_exc {α β : Type} (x : Ex) (h : Sto) (f : α → Sto → R β) : (R.exc x h : R α).bind f = .exc x h := rfl
@[simp] theorem R.bind_bad {α β : Type} (f : α → Sto → R β) : (R.bad : R α).bind f = .bad := rfl
def R.of {α : Type} (o : Option α) (h : Sto) : R α := match o with
  | some a => .ok a h
  | none => .bad
@[simp] theorem R.of_some {α : Type} (a : α) (h : Sto) : R.of (some a) h = .ok a h := rfl
@[simp] theorem R.of_none {α : Type} (h : Sto) : (R.of none h : R α) = .bad := rfl

mutual
/-- expressions -/
inductive C where
  | var (i : Nat)
  | con (x : Str) (i : Int)                    -- a constant of the module
  | typ (x : Str) (n : String)                 -- a built-in class as a value
  | int (i : Int) | str (s : Str) | bl (b : Bool) | non
  | bin (op : Operator) (a b : C)
  | neg (a : C)
  | inv (a : C)
  | cmp (op : CmpOp) (a b : C)
  | chn (op op' : CmpOp) (a b c : C)
  | and (es : Cs) | or (es : Cs)
  | not (a : C)
  | ite (t a b : C)
  | tup (es : Cs) | lst (es : Cs)
  | idx (a b : C)
  | slc (a : C) (lo hi : C')
  | rev (a : C)
  | call (f : Str) (es : Cs)
  | blt (f : Str) (es : Cs)
  | mth (m : Str) (o : C) (es : Cs)
  | lrng (a : C)                               -- list(range(a))
  | dic (kvs : List (Int × Int))               -- {}, {0: 1}
  | lamc (f : Str) (e : C)                     -- f(lambda: e)
  | act (i : Nat)                              -- x(), x the parameter that is a lambda
  | xf (o : C) (f : Str)                       -- o.f
  | isi (o : C) (cls : Str)                    -- isinstance(o, X), X a class of the text
  | srs (e : C)                                -- sorted(set(e))
  | com (own : List (Str × Nat)) (elt : C) (tg : G) (it : I) (ifs : C')
inductive C' where
  | no | yes (c : C)
inductive Cs where
  | nil | cons (c : C) (r : Cs)
/-- what is walked -/
inductive I where
  | of (c : C) | rng1 (a : C) | rng2 (a b : C) | zip (a b : C) | enum (a : C)
/-- targets -/
inductive G where
  | name (i : Nat) | tup2 (i j : Nat) | tup3 (i j k : Nat)
end
inductive Flow where
  | nx (ρ : Env) | rt (d : D) | bk (ρ : Env) | ct (ρ : Env) | ex (x : Ex) (ρ : Env)
/-- an expression's error is the statement's -/
def R.bindF {α : Type} : R α → Env → (α → Sto → R Flow) → R Flow
  | .ok a h, _, f => f a h
  | .exc x h, ρ, _ => .ok (.ex x ρ) h
  | .bad, _, _ => .bad
@[simp] theorem R.bindF_ok {α : Type} (a : α) (h : Sto) (ρ : Env) (f : α → Sto → R Flow) : (R.ok a h).bindF ρ f = f a h := rfl
@[simp] theorem R.bindF_exc {α : Type} (x : Ex) (h : Sto) (ρ : Env) (f : α → Sto → R Flow) : (R.exc x h : R α).bindF ρ f = .ok (.ex x ρ) h := rfl
@[simp] theorem R.bindF_bad {α : Type} (ρ : Env) (f : α → Sto → R Flow) : (R.bad : R α).bindF ρ f = .bad := rfl
mutual
/-- statements -/
inductive S where
  | set (g : G) (e : C)
  | setM (i : Nat) (e : C)                     -- the new list that e makes is a cell
  | par (i j : Nat) (a b : C)                  -- x, y = a, b
  | sub (o i e : C)                            -- o[i] = e
  | aug (i : Nat) (op : Operator) (e : C)
  | exp (e : C)
  | ret (e : C)
  | retM (e : C)
  | retN
  | ite (t : C) (a b : Ss)
  | for_ (g : G) (it : I) (body : Ss)
  | pass | brk | cnt
  | raise (cls : Str) (fld : Option Str) (e : C) -- raise X(e); fld: the one field in which the class keeps e
  | try_ (b : Ss) (hs : Hds)
/-- the except clauses: the class, the name, the suite -/
inductive Hds where
  | nil | cons (cls : Str) (nm : Option Nat) (b : Ss) (r : Hds)
inductive Ss where
  | nil | cons (s : S) (r : Ss)
  | frz (i : Nat) (r : Ss)                     -- the last cell, which slot i names, is from now on a plain list
end

/-! ### values -/
def deref (h : Sto) : D → D
  | .ref i => match h[i]? with
    | some (.lst xs) => .lst xs
    | none => .ref i
  | d => d
mutual
def refsBelow (n : Nat) : D → Bool
  | .ref i => decide (i < n)
  | .tup xs => allBelow n xs
  | .lst xs => allBelow n xs
  | .rcd _ xs => allBelow n xs
  | _ => true
def allBelow (n : Nat) : List D → Bool
  | [] => true
  | x :: xs => refsBelow n x && allBelow n xs
end
def MO.below (n : Nat) : MO → Bool
  | .lst xs => allBelow n xs
def keyPy : Key → PyData
  | .inl i => .int i
  | .inr s => .str s
def vPy : V → PyData
  | .bl b => .bool b
  | .int i => .int i
  | .str s => .str s
  | _ => .none
mutual
/-- as the library's data; none: a cell, a class -/
def toPy : D → Option PyData
  | .non => some .none
  | .bl b => some (.bool b)
  | .int i => some (.int i)
  | .str s => some (.str s)
  | .tup xs => (toPys xs).map .tuple
  | .lst xs => (toPys xs).map .list
  | .dct kvs => some (.dict (kvs.map fun p => (keyPy p.1, vPy p.2)))
  | _ => none
def toPys : List D → Option (List PyData)
  | [] => some []
  | x :: xs => match toPy x, toPys xs with
    | some a, some b => some (a :: b)
    | _, _ => none
end
def keyB : Key → Key → Bool
  | .inl i, .inl j => decide (i = j)
  | .inr s, .inr t => decide (s = t)
  | _, _ => false
def flatBB : V → V → Bool
  | .int i, .int j => decide (i = j)
  | .str s, .str t => decide (s = t)
  | .bl s, .bl t => decide (s = t)
  | .non, .non => true
  | _, _ => false
def kvB : List (Key × V) → List (Key × V) → Bool
  | [], [] => true
  | [(k, v)], [(k', v')] => keyB k k' && flatBB v v'
  | _, _ => false
mutual
/-- the same datum (dicts in the same order) -/
def sameD : D → D → Bool
  | .non, .non => true
  | .bl a, .bl b => decide (a = b)
  | .int a, .int b => decide (a = b)
  | .str a, .str b => decide (a = b)
  | .lst xs, .lst ys => sameDs xs ys
  | .dct a, .dct b => kvB a b
  | _, _ => false
def sameDs : List D → List D → Bool
  | [], [] => true
  | x :: xs, y :: ys => sameD x y && sameDs xs ys
  | _, _ => false
end
mutual
def depD : D → Nat
  | .lst xs => depDs xs + 1
  | .dct _ => 1
  | _ => 0
def depDs : List D → Nat
  | [] => 0
  | x :: xs => max (depD x) (depDs xs)
end
def isL : D → Bool
  | .lst _ => true
  | _ => false
def strEq : D → D → Option Bool
  | .str a, .str b => some (decide (a = b))
  | _, _ => none
/-- == of data; a dict among them: told only of two lists that are the same -/
def eqD (x y : D) : Option Bool := match strEq x y with
  | some b => some b
  | none => match toPy x, toPy y with
    | some a, some b => if SeqAt.shaped a && SeqAt.shaped b then some (PyData.eqv a b) else if isL x && (sameD x y && decide (depD x ≤ 50)) then some true else none
    | _, _ => none
def tyOf : D → Option String
  | .non => some "NoneType" | .bl _ => some "bool" | .int _ => some "int" | .str _ => some "str" | .tup _ => some "tuple" | .lst _ => some "list" | .dct _ => some "dict"
  | _ => none
def isIsi (t c : String) : Option Bool := match t, c with
  | "NoneType", "bool" | "NoneType", "int" | "NoneType", "str" | "NoneType", "tuple" | "NoneType", "list" | "NoneType", "dict" => some false
  | "bool", "bool" => some true | "bool", "int" => some true
  | "bool", "str" | "bool", "tuple" | "bool", "list" | "bool", "dict" => some false
  | "int", "int" => some true | "int", "bool" => some false
  | "int", "str" | "int", "tuple" | "int", "list" | "int", "dict" => some false
  | "str", "str" => some true
  | "str", "bool" | "str", "int" | "str", "tuple" | "str", "list" | "str", "dict" => some false
  | "tuple", "tuple" => some true
  | "tuple", "bool" | "tuple", "int" | "tuple", "str" | "tuple", "list" | "tuple", "dict" => some false
  | "list", "list" => some true
  | "list", "bool" | "list", "int" | "list", "str" | "list", "tuple" | "list", "dict" => some false
  | "dict", "dict" => some true
  | "dict", "bool" | "dict", "int" | "dict", "str" | "dict", "tuple" | "dict", "list" => some false
  | _, _ => none
def truD : D → Option Bool
  | .non => some false
  | .bl b => some b
  | .int i => some (i != 0)
  | .str s => if s.length ≤ sizeLine then some ((s.length : Int) != 0) else none
  | .tup xs => some (!xs.isEmpty)
  | .lst xs => some (!xs.isEmpty)
  | _ => none
def intsD : List D → Option (List Int)
  | [] => some []
  | .int i :: r => (intsD r).map (i :: ·)
  | _ :: _ => none
def boolsD : List D → Option (List Bool)
  | [] => some []
  | .bl i :: r => (boolsD r).map (i :: ·)
  | _ :: _ => none

def mulOk (i j : Int) : Bool := (decide (-(2 ^ 64) < i) && decide (i < 2 ^ 64)) || (decide (-(2 ^ 64) < j) && decide (j < 2 ^ 64))
def binD (op : Operator) (x y : D) : Option D := match op, x, y with
  | .Add, .int i, .int j => some (.int (i + j))
  | .Sub, .int i, .int j => some (.int (i - j))
  | .Mult, .int i, .int j => if mulOk i j then some (.int (i * j)) else none
  | .BitAnd, .int i, .int j => some (.int (Builtin.bitAnd i j))
  | .BitOr, .int i, .int j => some (.int (Builtin.bitOr i j))
  | .BitXor, .int i, .int j => some (.int (Builtin.bitXor i j))
  | .RShift, .int i, .int j => if 0 ≤ j then some (.int (i / 2 ^ j.toNat)) else none
  | .LShift, .int i, .int j => if 0 ≤ j ∧ j ≤ 64 ∧ i.natAbs < 2 ^ 64 then some (.int (i * 2 ^ j.toNat)) else none
  | .FloorDiv, .int i, .int j => if j ≠ 0 ∧ j.natAbs < 1073741824 then some (.int (i.fdiv j)) else none
  | .Mod, .int i, .int j => if j ≠ 0 then some (.int (i.fmod j)) else none
  | .Pow, .int i, .int j => if 0 ≤ j ∧ (Builtin.Int.intBits i : Int) * j ≤ 2 ^ 27 then some (.int (i ^ j.toNat)) else none
  | .Add, .str s, .str t => if s.length + t.length ≤ sizeLine then some (.str (s ++ t)) else none
  | .Add, .tup xs, .tup ys => if xs.length + ys.length ≤ sizeLine then some (.tup (xs ++ ys)) else none
  | .Add, .lst xs, .lst ys => if xs.length + ys.length ≤ sizeLine then some (.lst (xs ++ ys)) else none
  | .Mult, .lst xs, .int k => if -(2 ^ 63) ≤ k ∧ k < 2 ^ 63 ∧ xs.length * k.toNat ≤ sizeLine then some (.lst (List.replicate k.toNat xs).flatten) else none
  | .Mult, .tup xs, .int k => if !xs.isEmpty && decide (1 ≤ k) && decide (k ≤ 1000) && decide (xs.length ≤ 1000) then some (.tup (List.replicate k.toNat xs).flatten) else none
  | _, _, _ => none
def cmpD (op : CmpOp) (x y : D) : Option Bool := match op, x, y with
  | .Eq, x, y => eqD x y
  | .NotEq, x, y => (eqD x y).map (!·)
  | .Lt, .int i, .int j => some (decide (i < j))
  | .LtE, .int i, .int j => some (decide (i ≤ j))
  | .Gt, .int i, .int j => some (decide (j < i))
  | .GtE, .int i, .int j => some (decide (j ≤ i))
  | .Lt, .tup xs, .tup ys => match intsD xs, intsD ys with
    | some ns, some ms => some (HT.lexLt ns ms)
    | _, _ => none
  | .Is, x, .non => match x with
    | .ref _ => some false
    | .ty _ => none
    | .non => some true
    | _ => some false
  | .IsNot, x, .non => match x with
    | .ref _ => some true
    | .ty _ => none
    | .non => some false
    | _ => some true
  | .Is, .bl a, .bl b => some (decide (a = b))
  | .IsNot, .bl a, .bl b => some (!decide (a = b))
  | .In, x, .lst ys => match toPy x, toPys ys with
    | some d, some ds => if SeqAt.shaped d && SeqAt.shaped (.list ds) then some (ds.any fun z => PyData.eqv z d) else none
    | _, _ => none
  | .NotIn, x, .lst ys => match toPy x, toPys ys with
    | some d, some ds => if SeqAt.shaped d && SeqAt.shaped (.list ds) then some (!ds.any fun z => PyData.eqv z d) else none
    | _, _ => none
  | .In, x, .tup ys => match toPy x, toPys ys with
    | some d, some ds => if SeqAt.shaped d && SeqAt.shaped (.tuple ds) then some (ds.any fun z => PyData.eqv z d) else none
    | _, _ => none
  | .NotIn, x, .tup ys => match toPy x, toPys ys with
    | some d, some ds => if SeqAt.shaped d && SeqAt.shaped (.tuple ds) then some (!ds.any fun z => PyData.eqv z d) else none
    | _, _ => none
  | _, _, _ => none
def negD : D → Option D
  | .int i => some (.int (-i))
  | _ => none
def invD : D → Option D
  | .int i => some (.int (Builtin.bitNot i))
  | _ => none
/-- a field of an exception -/
def fldD (ok : Str → Str → Bool) (x : D) (f : Str) : Option D := match x with
  | .rcd (.exc c fn) vs => if ok c f then (fn.zip vs).lookup f else none
  | _ => none
/-- isinstance of a class of the text -/
def isiD (isx : Str → Str → Option Bool) (x : D) (c : Str) : Option Bool := match x with
  | .rcd (.exc c' []) _ => isx c' c
  | _ => none
def tupsD : List D → Option (List (List Int))
  | [] => some []
  | .tup xs :: r => match intsD xs, tupsD r with
    | some ns, some q => some (ns :: q)
    | _, _ => none
  | _ :: _ => none
/-- ascending, each once -/
def sortI (ns : List Int) : List Int := ns.eraseDups.mergeSort fun a b => decide (a ≤ b)
def codeI : List Int → Int
  | [] => 0
  | n :: r => n * 64 ^ r.length + codeI r
def sortT (ns : List (List Int)) : List (List Int) := ns.eraseDups.mergeSort fun a b => decide (codeI a ≤ codeI b)
/-- sorted(set(x)), x a list of ints, or of tuples of equally many ints from 0 to 63 -/
def srsD : D → Option D
  | .lst xs => match intsD xs with
    | some ns => if ns.length < 64 then some (.lst ((sortI ns).map .int)) else none
    | none => match tupsD xs with
      | some (t :: ts) => if ts.length < 63 && !t.isEmpty && (t :: ts).all (fun u => decide (u.length = t.length) && u.all fun i => decide (0 ≤ i) && decide (i < 64)) then some (.lst ((sortT (t :: ts)).map fun u => .tup (u.map .int))) else none
      | _ => none
  | _ => none
def idxD (a b : D) : Option D := match a, b with
  | .tup xs, .int i => atI xs i
  | .lst xs, .int i => atI xs i
  | .scr ns, .int i => (atI ns i).map .int
  | _, _ => none
def cutD (xs : List D) (lo hi : Option Int) : List D := (xs.drop (HT.sIx xs.length 0 lo)).take (HT.sIx xs.length xs.length hi - HT.sIx xs.length 0 lo)
def slcD (a : D) (lo hi : Option Int) : Option D := match a with
  | .tup xs => some (.tup (cutD xs lo hi))
  | .lst xs => some (.lst (cutD xs lo hi))
  | _ => none
def revD : D → Option D
  | .tup xs => some (.tup xs.reverse)
  | .lst xs => some (.lst xs.reverse)
  | _ => none
def isDct : PyData → Bool
  | .dict _ => true
  | _ => false
/-- what a built-in gives -/
def bltD (f : Str) (xs : List D) : Option D :=
  if f = "len" then (match xs with
    | [.tup ys] => some (.int ys.length)
    | [.lst ys] => some (.int ys.length)
    | [.scr ns] => some (.int ns.length)
    | [.str s] => if s.length ≤ sizeLine then some (.int s.length) else none
    | _ => none)
  else if f = "isinstance" then (match xs with
    | [x, .ty c] => match tyOf x with
      | some t => (isIsi t c).map .bl
      | none => none
    | _ => none)
  else if f = "abs" then (match xs with
    | [.int i] => some (.int (if i < 0 then -i else i))
    | _ => none)
  else if f = "max" then (match xs with
    | [.int i, .int j] => some (.int (if j > i then j else i))
    | _ => none)
  else if f = "min" then (match xs with
    | [.int i, .int j] => some (.int (if j < i then j else i))
    | _ => none)
  else if f = "int" then (match xs with
    | [.int i] => some (.int i)
    | [.bl b] => some (.int (if b then 1 else 0))
    | _ => none)
  else if f = "str" then (match xs with
    | [.int i] => if i.natAbs.log2 < 1920 then some (.str (toString i)) else none
    | _ => none)
  else if f = "list" then (match xs with
    | [.tup ys] => some (.lst ys)
    | [.lst ys] => some (.lst ys)
    | _ => none)
  else if f = "tuple" then (match xs with
    | [.tup ys] => some (.tup ys)
    | [.lst ys] => some (.tup ys)
    | _ => none)
  else if f = "sum" then (match xs with
    | [.lst ys] => (intsD ys).map fun ns => .int ns.sum

    | _ => none)
  else if f = "sorted" then (match xs with
    | [.lst ys] => match intsD ys with
      | some ns => if ns.length < 64 then some (.lst ((ns.mergeSort fun a b => decide (a ≤ b)).map .int)) else none
      | none => none
    | _ => none)
  else if f = "all" then (match xs with
    | [.lst ys] => (boolsD ys).map fun bs => .bl (bs.all id)
    | _ => none)
  else if f = "any" then (match xs with
    | [.lst ys] => (boolsD ys).map fun bs => .bl (bs.any id)
    | _ => none)
  else if f = "repr" then (match xs with
    | [x] => match toPy x with
      | some d => if PyData.showable d && decide (d.depth ≤ 64) && decide (d.shown.length ≤ sizeLine) && (d.canLay0 || isDct d) then some (.str d.shown) else none
      | none => none
    | _ => none)
  else none
/-- a built-in type's method on a cell: the result, the cell behind it -/
def mthD (m : Str) (xs : List D) (as : List D) : Option (D × List D) :=
  if m = "append" then (match as with
    | [y] => if xs.length < sizeLine then some (.non, xs ++ [y]) else none
    | _ => none)
  else if m = "extend" then (match as with
    | [.lst ys] => if xs.length + ys.length ≤ sizeLine then some (.non, xs ++ ys) else none
    | _ => none)
  else if m = "pop" then (match as with
    | [.int i] => if -(2 ^ 63) ≤ i ∧ i < 2 ^ 63 then (match ixN xs.length i with
        | some k => (xs[k]?).map fun y => (y, xs.eraseIdx k)
        | none => none)
      else none
    | _ => none)
  else none

/-! ### what is walked, targets -/
def range (lo : Int) (n : Nat) : List D := (List.range n).map fun (i : Nat) => D.int (lo + (i : Int))
def zipD : List D → List D → List D
  | x :: xs, y :: ys => .tup [x, y] :: zipD xs ys
  | _, _ => []
def enumD : Nat → List D → List D
  | _, [] => []
  | i, x :: xs => .tup [.int (i : Int), x] :: enumD (i + 1) xs
def put (g : G) (d : D) (ρ : Env) : Option Env := match g, d with
  | .name i, d => some (ρ.set i (some d))
  | .tup2 i j, .tup [x, y] => some ((ρ.set i (some x)).set j (some y))
  | .tup3 i j k, .tup [x, y, z] => some (((ρ.set i (some x)).set j (some y)).set k (some z))
  | _, _ => none
def G.slots : G → List Nat
  | .name i => [i]
  | .tup2 i j => [i, j]
  | .tup3 i j k => [i, j, k]
def wipeE (ρ : Env) : List Nat → Env
  | [] => ρ
  | v :: vs => (wipeE ρ vs).set v none
/-- a comprehension's turns -/
def comLoop (turn : D → Sto → R (Option D)) : List D → List D → Sto → R D
  | [], acc, h => .ok (.lst acc) h
  | x :: xs, acc, h => match turn x h with
    | .ok (some y) h' => if acc.length < sizeLine then comLoop turn xs (acc ++ [y]) h' else .bad
    | .ok none h' => comLoop turn xs acc h'
    | _ => .bad
/-- a loop's turns -/
def forLoop (turn : D → Env → Sto → R Flow) : List D → Env → Sto → R Flow
  | [], ρ, h => .ok (.nx ρ) h
  | x :: xs, ρ, h => match turn x ρ h with
    | .ok (.nx ρ') h' => forLoop turn xs ρ' h'
    | .ok (.ct ρ') h' => forLoop turn xs ρ' h'
    | .ok (.bk ρ') h' => .ok (.nx ρ') h'
    | .ok (.rt d) h' => .ok (.rt d) h'
    | .ok (.ex x ρ') h' => .ok (.ex x ρ') h'
    | _ => .bad

/-- calls of the program's own defs: by values; of a def with a lambda (at the address, with the code and the name); of the lambda -/
structure Calls where
  fn : Str → List D → Sto → R D
  lam : Str → Addr → Addr → Str → List V → List D → (List D → Sto → R D) → Sto → R D
  act : Addr → Addr → Str → List V → List D → Sto → R D
  isx : Str → Str → Option Bool
  fld : Str → Str → Bool
instance : CoeFun Calls (fun _ => Str → List D → Sto → R D) := ⟨Calls.fn⟩
/-- what doesn't depend on where the lambda stands -/
noncomputable def lamR (g : Addr → Addr → Str → List V → R D) : R D := open Classical in if ∀ f c q us, g f c q us = g 0 0 "" [] then g 0 0 "" [] else .bad
theorem lamR_of {g : Addr → Addr → Str → List V → R D} {r : R D} (h : ∀ f c q us, g f c q us = r) : lamR g = r := by
  unfold lamR
  rw [if_pos fun f c q us => by rw [h, h], h]
theorem lamR_at {g : Addr → Addr → Str → List V → R D} (h : lamR g ≠ .bad) (f c : Addr) (q : Str) (us : List V) : g f c q us = lamR g := by
  unfold lamR at h ⊢
  split
  · rename_i e; exact e f c q us
  · rename_i e; rw [if_neg e] at h; exact absurd rfl h
/-- the names that a lambda sees, with the values that it brings -/
def relock (ρ : Env) (ds : List D) : Env := List.zipWith (fun o d => o.map fun _ => d) ρ ds
/-- the lambda can't be called -/
def Calls.noact (c : Calls) : Calls := { c with act := fun _ _ _ _ _ _ => .bad }
/-- no lambda may be handed on -/
def Calls.low (c : Calls) : Calls := { c with lam := fun _ _ _ _ _ _ _ _ => .bad, act := fun _ _ _ _ _ _ => .bad }
mutual
noncomputable def ev (call : Calls) : C → Env → Sto → R D
  | .var i, ρ, h => match ρ[i]? with
    | some (some d) => .ok d h
    | _ => .bad
  | .con _ i, _, h => .ok (.int i) h
  | .typ _ n, _, h => .ok (.ty n) h
  | .int i, _, h => .ok (.int i) h
  | .str s, _, h => .ok (.str s) h
  | .bl b, _, h => .ok (.bl b) h
  | .non, _, h => .ok .non h
  | .bin op a b, ρ, h => (ev call a ρ h).bind fun x h => (ev call b ρ h).bind fun y h => R.of (binD op (deref h x) (deref h y)) h
  | .neg a, ρ, h => (ev call a ρ h).bind fun x h => R.of (negD x) h
  | .inv a, ρ, h => (ev call a ρ h).bind fun x h => R.of (invD x) h
  | .cmp op a b, ρ, h => (ev call a ρ h).bind fun x h => (ev call b ρ h).bind fun y h => R.of ((cmpD op (deref h x) (deref h y)).map .bl) h
  | .chn op op' a b c, ρ, h => (ev call a ρ h).bind fun x h => (ev call b ρ h).bind fun y h => match cmpD op (deref h x) (deref h y) with
    | some true => (ev call c ρ h).bind fun z h => R.of ((cmpD op' (deref h y) (deref h z)).map .bl) h
    | some false => .ok (.bl false) h
    | none => .bad
  | .and es, ρ, h => evAnd call es ρ h
  | .or es, ρ, h => evOr call es ρ h
  | .not a, ρ, h => (ev call a ρ h).bind fun x h => match x with
    | .bl b => .ok (.bl (!b)) h
    | _ => .bad
  | .ite t a b, ρ, h => (tst call t ρ h).bind fun c h => if c then ev call a ρ h else ev call b ρ h
  | .tup es, ρ, h => (evs call es ρ h).bind fun xs h => if xs.length ≤ sizeLine then .ok (.tup xs) h else .bad
  | .lst es, ρ, h => (evs call es ρ h).bind fun xs h => if xs.length ≤ sizeLine then .ok (.lst xs) h else .bad
  | .idx a b, ρ, h => (ev call a ρ h).bind fun x h => (ev call b ρ h).bind fun y h => R.of (idxD (deref h x) y) h
  | .slc a lo hi, ρ, h => (ev call a ρ h).bind fun x h => (evO call lo ρ h).bind fun l h => (evO call hi ρ h).bind fun u h => R.of (slcD (deref h x) l u) h
  | .rev a, ρ, h => (ev call a ρ h).bind fun x h => R.of (revD (deref h x)) h
  | .call f es, ρ, h => (evs call es ρ h).bind fun xs h => call f xs h
  | .blt f es, ρ, h => (evs call es ρ h).bind fun xs h => R.of (bltD f (xs.map (deref h))) h
  | .mth m o es, ρ, h => (ev call o ρ h).bind fun x h => match x with
    | .ref i => (evs call es ρ h).bind fun as h => match h[i]? with
      | some (.lst xs) => match mthD m xs (if m = "extend" then as.map (deref h) else as) with
        | some (y, ys) => .ok y (h.set i (.lst ys))
        | none => .bad
      | none => .bad
    | _ => .bad
  | .lrng a, ρ, h => (ev call a ρ h).bind fun x h => match x with
    | .int j => if -(2 ^ 62) ≤ j ∧ j < 2 ^ 20 then .ok (.lst (range 0 j.toNat)) h else .bad
    | _ => .bad
  | .dic kvs, _, h => .ok (.dct (kvs.map fun p => (Sum.inl p.1, V.int p.2))) h
  | .com own elt tg it ifs, ρ, h => (evI call it ρ h).bind fun xs h =>
      comLoop (fun x h => match put tg x (wipeE ρ (own.map (·.2))) with
        | some ρ' => (tstO call.noact ifs ρ' h).bind fun c h => if c then (ev call.noact elt ρ' h).bind fun y h => .ok (some y) h else .ok none h
        | none => .bad) xs [] h
  | .lamc f e, ρ, h => lamR fun a c q us => call.lam f a c q us (ρ.map (·.getD .non)) (fun ds h => ev call.low e (relock ρ ds) h) h
  | .act i, ρ, h => match ρ[i]? with
    | some (some (.rcd (.fn a c q us) ds)) => call.act a c q us ds h
    | _ => .bad
  | .xf o f, ρ, h => (ev call o ρ h).bind fun x h => R.of (fldD call.fld x f) h
  | .isi o c, ρ, h => (ev call o ρ h).bind fun x h => R.of ((isiD call.isx x c).map .bl) h
  | .srs e, ρ, h => (ev call e ρ h).bind fun x h => R.of (srsD (deref h x)) h
/-- as a test -/
noncomputable def tst (call : Calls) : C → Env → Sto → R Bool
  | .and es, ρ, h => tAnd call es ρ h
  | .or es, ρ, h => tOr call es ρ h
  | .not a, ρ, h => (tst call a ρ h).bind fun c h => .ok (!c) h
  | .cmp op a b, ρ, h => (ev call a ρ h).bind fun x h => (ev call b ρ h).bind fun y h => R.of (cmpD op (deref h x) (deref h y)) h
  | .chn op op' a b c, ρ, h => (ev call a ρ h).bind fun x h => (ev call b ρ h).bind fun y h => match cmpD op (deref h x) (deref h y) with
    | some true => (ev call c ρ h).bind fun z h => R.of (cmpD op' (deref h y) (deref h z)) h
    | some false => .ok false h
    | none => .bad
  | .var i, ρ, h => match ρ[i]? with
    | some (some d) => R.of (truD (deref h d)) h
    | _ => .bad
  | .call f es, ρ, h => (evs call es ρ h).bind fun xs h => (call f xs h).bind fun d h => R.of (truD (deref h d)) h
  | .blt f es, ρ, h => (evs call es ρ h).bind fun xs h => R.of ((bltD f (xs.map (deref h))).bind truD) h
  | .idx a b, ρ, h => (ev call a ρ h).bind fun x h => (ev call b ρ h).bind fun y h => R.of ((idxD (deref h x) y).bind truD) h
  | .isi o c, ρ, h => (ev call o ρ h).bind fun x h => R.of (isiD call.isx x c) h
  | _, _, _ => .bad
noncomputable def evAnd (call : Calls) : Cs → Env → Sto → R D
  | .nil, _, _ => .bad
  | .cons c .nil, ρ, h => ev call c ρ h
  | .cons c (.cons c' r), ρ, h => (ev call c ρ h).bind fun x h => match x with
    | .bl true => evAnd call (.cons c' r) ρ h
    | .bl false => .ok (.bl false) h
    | _ => .bad
noncomputable def evOr (call : Calls) : Cs → Env → Sto → R D
  | .nil, _, _ => .bad
  | .cons c .nil, ρ, h => ev call c ρ h
  | .cons c (.cons c' r), ρ, h => (ev call c ρ h).bind fun x h => match x with
    | .bl true => .ok (.bl true) h
    | .bl false => evOr call (.cons c' r) ρ h
    | _ => .bad
noncomputable def tAnd (call : Calls) : Cs → Env → Sto → R Bool
  | .nil, _, _ => .bad
  | .cons c .nil, ρ, h => tst call c ρ h
  | .cons c (.cons c' r), ρ, h => (tst call c ρ h).bind fun b h => if b then tAnd call (.cons c' r) ρ h else .ok false h
noncomputable def tOr (call : Calls) : Cs → Env → Sto → R Bool
  | .nil, _, _ => .bad
  | .cons c .nil, ρ, h => tst call c ρ h
  | .cons c (.cons c' r), ρ, h => (tst call c ρ h).bind fun b h => if b then .ok true h else tOr call (.cons c' r) ρ h
noncomputable def tstO (call : Calls) : C' → Env → Sto → R Bool
  | .no, _, h => .ok true h
  | .yes c, ρ, h => tst call c ρ h
noncomputable def evO (call : Calls) : C' → Env → Sto → R (Option Int)
  | .no, _, h => .ok none h
  | .yes c, ρ, h => (ev call c ρ h).bind fun x h => match x with
    | .int i => .ok (some i) h
    | _ => .bad
noncomputable def evs (call : Calls) : Cs → Env → Sto → R (List D)
  | .nil, _, h => .ok [] h
  | .cons c r, ρ, h => (ev call c ρ h).bind fun x h => (evs call r ρ h).bind fun xs h => .ok (x :: xs) h
noncomputable def evI (call : Calls) : I → Env → Sto → R (List D)
  | .of c, ρ, h => (ev call c ρ h).bind fun x h => match x with
    | .tup xs => .ok xs h
    | .lst xs => .ok xs h
    | _ => .bad
  | .rng1 a, ρ, h => (ev call a ρ h).bind fun x h => match x with
    | .int j => if -(2 ^ 62) ≤ j ∧ j < 2 ^ 62 then .ok (range 0 j.toNat) h else .bad
    | _ => .bad
  | .rng2 a b, ρ, h => (ev call a ρ h).bind fun x h => (ev call b ρ h).bind fun y h => match x, y with
    | .int i, .int j => if -(2 ^ 62) ≤ i ∧ i < 2 ^ 62 ∧ -(2 ^ 62) ≤ j ∧ j < 2 ^ 62 then .ok (range i (j - i).toNat) h else .bad
    | _, _ => .bad
  | .zip a b, ρ, h => (ev call a ρ h).bind fun x h => (ev call b ρ h).bind fun y h => match x, y with
    | .lst xs, .lst ys => .ok (zipD xs ys) h
    | .tup xs, .tup ys => .ok (zipD xs ys) h
    | _, _ => .bad
  | .enum a, ρ, h => (ev call a ρ h).bind fun x h => match x with
    | .lst xs => .ok (enumD 0 xs) h
    | _ => .bad
end

def noRefs (n : Nat) (ρ : Env) (i : Nat) : Bool := (List.range ρ.length).all fun j => j == i || (match ρ[j]? with
  | some (some d) => refsBelow n d
  | _ => true)
mutual
/-- nb: the number of cells that may not become plain here -/
noncomputable def evS (call : Calls) : S → Nat → Env → Sto → R Flow
  | .set g e, _, ρ, h => (ev call e ρ h).bindF ρ fun x h => match put g x ρ with
    | some ρ' => .ok (.nx ρ') h
    | none => .bad
  | .setM i e, _, ρ, h => (ev call e ρ h).bindF ρ fun x h => match x with
    | .lst xs => .ok (.nx (ρ.set i (some (.ref h.length)))) (h ++ [.lst xs])
    | _ => .bad
  | .par i j a b, _, ρ, h => (ev call a ρ h).bindF ρ fun x h => (ev call b ρ h).bindF ρ fun y h => .ok (.nx ((ρ.set i (some x)).set j (some y))) h
  | .sub o i e, _, ρ, h => (ev call e ρ h).bindF ρ fun v h => (ev call o ρ h).bindF ρ fun x h => (ev call i ρ h).bindF ρ fun y h => match x, y with
    | .ref k, .int n => match h[k]? with
      | some (.lst xs) => match ixN xs.length n with
        | some j => .ok (.nx ρ) (h.set k (.lst (xs.set j v)))
        | none => .bad
      | none => .bad
    | _, _ => .bad
  | .aug i op e, _, ρ, h => match ρ[i]? with
    | some (some (.int a)) => (ev call e ρ h).bindF ρ fun y h => match op, y with
      | .Add, .int b => .ok (.nx (ρ.set i (some (.int (a + b))))) h
      | .Sub, .int b => .ok (.nx (ρ.set i (some (.int (a - b))))) h
      | _, _ => .bad
    | _ => .bad
  | .exp e, _, ρ, h => (ev call e ρ h).bindF ρ fun _ h => .ok (.nx ρ) h
  | .ret e, _, ρ, h => (ev call e ρ h).bindF ρ fun x h => .ok (.rt x) h
  | .retM e, _, ρ, h => (ev call e ρ h).bindF ρ fun x h => match x with
    | .lst xs => .ok (.rt (.ref h.length)) (h ++ [.lst xs])
    | _ => .bad
  | .retN, _, _, h => .ok (.rt .non) h
  | .ite t a b, nb, ρ, h => (tst call t ρ h).bindF ρ fun c h => if c then evSs call a nb ρ h else evSs call b nb ρ h
  | .for_ g it body, _, ρ, h => (evI call it ρ h).bindF ρ fun xs h =>
      forLoop (fun x ρ h' => match put g x ρ with
        | some ρ' => if h.length ≤ h'.length then evSs call body h.length ρ' h' else .bad
        | none => .bad) xs ρ h
  | .pass, _, ρ, h => .ok (.nx ρ) h
  | .brk, _, ρ, h => .ok (.bk ρ) h
  | .cnt, _, ρ, h => .ok (.ct ρ) h
  | .try_ b hs, nb, ρ, h => match evSs call b nb ρ h with
    | .ok (.ex x ρ') h' => evHs call x hs nb ρ' h'
    | r => r
  | .raise cls fld e, _, ρ, h => (ev call e ρ h).bindF ρ fun x h => .ok (.ex ⟨cls, match fld with | some f => [(f, x)] | none => []⟩ ρ) h
/-- the first clause that fits -/
noncomputable def evHs (call : Calls) (x : Ex) : Hds → Nat → Env → Sto → R Flow
  | .nil, _, ρ, h => .ok (.ex x ρ) h
  | .cons c nm b r, nb, ρ, h => match call.isx x.cls c with
    | some true => (match nm with
      | none => evSs call b nb ρ h
      | some i => (evSs call b nb (ρ.set i (some (.rcd (.exc x.cls (x.fs.map (·.1))) (x.fs.map (·.2))))) h).bind fun fl h => match fl with
        | .nx ρ' => .ok (.nx (ρ'.set i none)) h
        | .rt d => .ok (.rt d) h
        | _ => .bad)
    | some false => evHs call x r nb ρ h
    | none => .bad
noncomputable def evSs (call : Calls) : Ss → Nat → Env → Sto → R Flow
  | .nil, _, ρ, h => .ok (.nx ρ) h
  | .cons s r, nb, ρ, h => match evS call s nb ρ h with
    | .ok (.nx ρ') h' => evSs call r nb ρ' h'
    | r => r
  | .frz i r, nb, ρ, h => match ρ[i]? with
    | some (some (.ref k)) => match h[k]? with
      | some (.lst xs) =>
        if k + 1 = h.length ∧ nb ≤ k ∧ allBelow k xs ∧ noRefs k ρ i ∧ (h.take k).all (MO.below k) then evSs call r nb (ρ.set i (some (.lst xs))) (h.take k) else .bad
      | none => .bad
    | _ => .bad
end

/-- a def: its names by slot, how many are parameters, its body -/
structure Def where
  n : Nat
  m : Nat
  body : Ss
def startE (n : Nat) (as : List D) : Env := as.map some ++ List.replicate (n - as.length) none
/-- behind a call the callee's own cells are gone; what is returned is plain, or the one new cell -/
def leave (n : Nat) (d : D) (h : Sto) : R D := match d with
  | .ref k =>
    if k < n then (if (h.take n).all (MO.below n) ∧ n ≤ h.length then .ok d (h.take n) else .bad)
    else if k = n ∧ (h.take (n + 1)).all (MO.below n) ∧ n + 1 ≤ h.length then .ok d (h.take (n + 1)) else .bad
  | d => if refsBelow n d ∧ (h.take n).all (MO.below n) ∧ n ≤ h.length then .ok d (h.take n) else .bad
/-- a text: its defs, which of its classes is under which, which fields of exceptions may be read -/
structure Txt where
  df : Str → Option Def
  isx : Str → Str → Option Bool
  fld : Str → Str → Bool
instance : CoeFun Txt (fun _ => Str → Option Def) := ⟨Txt.df⟩
/-- a body's end as a call's -/
def endD (h : Sto) : R Flow → R D
  | .ok (.nx _) h' => leave h.length .non h'
  | .ok (.rt x) h' => leave h.length x h'
  | .ok (.ex x _) h' => if x.fs.all (fun p => refsBelow h.length p.2) ∧ (h'.take h.length).all (MO.below h.length) ∧ h.length ≤ h'.length then .exc x (h'.take h.length) else .bad
  | _ => .bad
/-- the one lambda that a def has got -/
noncomputable def actOf (a c : Addr) (q : Str) (us : List V) (t : List D → Sto → R D) : Addr → Addr → Str → List V → List D → Sto → R D := fun a' c' q' us' ds h => open Classical in if a' = a ∧ c' = c ∧ q' = q ∧ us' = us then t ds h else .bad
theorem actOf_same {a c : Addr} {q : Str} {us : List V} {t : List D → Sto → R D} {ds : List D} {h : Sto} : actOf a c q us t a c q us ds h = t ds h := if_pos ⟨rfl, rfl, rfl, rfl⟩
noncomputable def callD (Γ : Txt) (call : Calls) : Calls where
  fn := fun f as h => match Γ f with
    | none => .bad
    | some d => if as.length = d.m ∧ d.m ≤ d.n then endD h (evSs call d.body h.length (startE d.n as) h) else .bad
  lam := fun f a c q us ds t h => match Γ f with
    | none => .bad
    | some d => if 1 = d.m ∧ d.m ≤ d.n then endD h (evSs { call with act := actOf a c q us t } d.body h.length (startE d.n [.rcd (.fn a c q us) ds]) h) else .bad
  act := fun _ _ _ _ _ _ => .bad
  isx := Γ.isx
  fld := Γ.fld
noncomputable def run (Γ : Txt) : Nat → Calls
  | 0 => { fn := fun _ _ _ => .bad, lam := fun _ _ _ _ _ _ _ _ => .bad, act := fun _ _ _ _ _ _ => .bad, isx := Γ.isx, fld := Γ.fld }
  | n + 1 => callD Γ (run Γ n)
end MP

set_option autoImplicit false
set_option Elab.async false
set_option linter.all false
set_option maxRecDepth 100000
/-! The functional Python is sound: expressions. -/
namespace MP
open PySem PySem.Spec PyProof.Rows L2

structure Rel (K : PySem.W.Frag) (β τ : List Addr) (σ : L2.St) (H : Hp) (ρ : Env) (h : Sto) : Prop where
  e : ERep K β τ H σ ρ
  s : SRep K β τ H h
def FRep (K : PySem.W.Frag) (β τ : List Addr) (H : Hp) : List (Str × D) → List (Str × V) → Prop
  | [], vs => vs = []
  | (f, d) :: r, vs => ∃ v r', vs = (f, v) :: r' ∧ Rep K β τ H d v ∧ FRep K β τ H r r'
def XRep (mg : Str → Option Value) (K : PySem.W.Frag) (β τ : List Addr) (H : Hp) (x : Ex) (cls : Value) (dd : Option Addr) : Prop :=
  ∃ C, mg x.cls = some (.ref C) ∧ cls = .ref C ∧ (x.fs = [] → dd = none) ∧ (x.fs ≠ [] → ∃ d vs, dd = some d ∧ H d = some (.xd vs) ∧ FRep K β τ H x.fs vs)
section
variable (X : Cx) (W : WX) (β τ : List Addr) (H : Hp) (σ : L2.St)
def PostG {α γ : Type} (rep : List Addr → Hp → α → γ → Prop) (Q : γ → Hp → Prop) : R α → Prop
  | .ok a h' => ∀ β' H' v, Ext β H β' H' → SRep X.K β' τ H' h' → rep β' H' a v → Q v H'
  | .exc x h' => ∀ β' H' cls dd, Ext β H β' H' → SRep X.K β' τ H' h' → XRep X.mg X.K β' τ H' x cls dd → W cls dd σ H'
  | .bad => False
end
section
variable {X : Cx} {W : WX} {β τ : List Addr} {H : Hp} {σ : L2.St}
theorem PostG.mono {α γ : Type} {rep : List Addr → Hp → α → γ → Prop} {Q : γ → Hp → Prop} {r : R α} {β1 : List Addr} {H1 : Hp} (e : Ext β H β1 H1) (p : PostG X W β τ H σ rep Q r) : PostG X W β1 τ H1 σ rep Q r := by
  cases r with
  | ok a h => intro β' H' v e' s q; exact p β' H' v (e.trans e') s q
  | exc x h => intro β' H' c d e' s q; exact p β' H' c d (e.trans e') s q
  | bad => exact p
theorem PostG.bind {α α' γ γ' : Type} (rep : List Addr → Hp → α → γ → Prop) {rep' : List Addr → Hp → α' → γ' → Prop} {Q : γ' → Hp → Prop} {r : R α} {f : α → Sto → R α'} (p : PostG X W β τ H σ rep' Q (r.bind f)) :
    PostG X W β τ H σ rep (fun v H1 => ∃ β1 a h1, Ext β H β1 H1 ∧ SRep X.K β1 τ H1 h1 ∧ rep β1 H1 a v ∧ PostG X W β1 τ H1 σ rep' Q (f a h1)) r := by
  cases r with
  | ok a h1 => intro β1 H1 v e s q; exact ⟨β1, a, h1, e, s, q, PostG.mono e p⟩
  | exc x h => exact p
  | bad => exact p
theorem PostG.wk {α γ : Type} {rep : List Addr → Hp → α → γ → Prop} {Q Q' : γ → Hp → Prop} {r : R α} (p : PostG X W β τ H σ rep Q r) (h : ∀ v H', Q v H' → Q' v H') : PostG X W β τ H σ rep Q' r := by
  cases r with
  | ok a h1 => intro β1 H1 v e s q; exact h _ _ (p β1 H1 v e s q)
  | exc x h => exact p
  | bad => exact p
theorem Rel.ext {K : PySem.W.Frag} {ρ : Env} {h h1 : Sto} {β1 : List Addr} {H1 : Hp} (R : Rel K β τ σ H ρ h) (e : Ext β H β1 H1) (s : SRep K β1 τ H1 h1) : Rel K β1 τ σ H1 ρ h1 := ⟨R.e.ext e, s⟩
end

section
variable (X : Cx) (W : WX)
abbrev repV (τ : List Addr) : List Addr → Hp → D → V → Prop := fun β H => Rep X.K β τ H
abbrev repL (τ : List Addr) : List Addr → Hp → List D → List V → Prop := fun β H => Reps X.K β τ H
abbrev repB : List Addr → Hp → Bool → Bool → Prop := fun _ _ a b => b = a
abbrev repO : List Addr → Hp → Option Int → Option Int → Prop := fun _ _ a b => b = a
/-- the readings that functions give -/
def tD (m : Env → Sto → R D) : TE := fun σ H Q => ∃ β τ ρ h, Rel X.K β τ σ H ρ h ∧ PostG X W β τ H σ (repV X τ) Q (m ρ h)
def tDT (m : Env → Sto → R Bool) : TT := fun σ H Q => ∃ β τ ρ h, Rel X.K β τ σ H ρ h ∧ PostG X W β τ H σ repB Q (m ρ h)
def tDA (m : Env → Sto → R (List D)) : TA := fun σ H Q => ∃ β τ ρ h, Rel X.K β τ σ H ρ h ∧ PostG X W β τ H σ (repL X τ) Q (m ρ h)
def tDO (m : Env → Sto → R (Option Int)) : TO := fun σ H Q => ∃ β τ ρ h, Rel X.K β τ σ H ρ h ∧ PostG X W β τ H σ repO Q (m ρ h)
/-- two values in, one out -/
def rD (op : D → D → Option D) : R2 := fun x y H Q => ∃ β τ h dx dy d, SRep X.K β τ H h ∧ Rep X.K β τ H dx x ∧ Rep X.K β τ H dy y ∧ op (deref h dx) (deref h dy) = some d ∧
  ∀ H' v, Ext β H β H' → SRep X.K β τ H' h → Rep X.K β τ H' d v → Q v H'
def rDs (op : List D → Option D) : List V → Hp → VK → Prop := fun xs H Q => ∃ β τ h ds d, SRep X.K β τ H h ∧ Reps X.K β τ H ds xs ∧ op (ds.map (deref h)) = some d ∧
  ∀ H' v, Ext β H β H' → SRep X.K β τ H' h → Rep X.K β τ H' d v → Q v H'
end

theorem PE.imp {X : Cx} {e : Expr} {t t' : TE} (p : PE X e t) (h : ∀ σ H Q, t' σ H Q → t σ H Q) : PE X e t' := ⟨fun pins s σ H Q I q => p.run pins s σ H Q I (h σ H Q q)⟩
theorem PT.imp {X : Cx} {e : Expr} {t t' : TT} (p : PT X e t) (h : ∀ σ H Q, t' σ H Q → t σ H Q) : PT X e t' := ⟨fun pins s σ H Q I q => p.run pins s σ H Q I (h σ H Q q)⟩
theorem PW.imp {X : Cx} {e : Expr} {t t' : TT} (p : PW X e t) (h : ∀ σ H Q, t' σ H Q → t σ H Q) : PW X e t' := ⟨fun wh pins s σ H Q I q => p.run wh pins s σ H Q I (h σ H Q q)⟩
theorem PA.imp {X : Cx} {es : List Expr} {t t' : TA} (p : PA X es t) (h : ∀ σ H Q, t' σ H Q → t σ H Q) : PA X es t' := ⟨fun pos pins s σ H Q I q => p.run pos pins s σ H Q I (h σ H Q q)⟩
theorem PO.imp {X : Cx} {e : Option Expr} {t t' : TO} (p : PO X e t) (h : ∀ σ H Q, t' σ H Q → t σ H Q) : PO X e t' := ⟨fun pins s σ H Q I q => p.run pins s σ H Q I (h σ H Q q)⟩

/-! ### what is read through a cell -/
def RepR (K : PySem.W.Frag) (β τ : List Addr) (H : Hp) (d : D) (v : V) : Prop := match d with
  | .lst ds => ∃ a vs, v = .ref a ∧ H a = some (.lst vs) ∧ Reps K β τ H ds vs
  | d => Rep K β τ H d v
section
variable {K : PySem.W.Frag} {β τ : List Addr} {H : Hp} {h : Sto}
theorem deref_rep {d : D} {v : V} (S : SRep K β τ H h) (r : Rep K β τ H d v) : RepR K β τ H (deref h d) v := by
  cases d with
  | ref i =>
    simp only [Rep] at r
    obtain ⟨a, rfl, ha⟩ := r
    have hl : i < h.length := by rw [S.len]; exact (List.getElem?_eq_some_iff.mp ha).1
    have hx : h[i]? = some h[i] := by simp [hl]
    have m := S.at_ i _ a hx ha
    unfold deref
    simp only [hx]
    revert m
    generalize h[i] = o
    intro m
    cases o with
    | lst xs => obtain ⟨vs, e, q⟩ := m; exact ⟨a, vs, rfl, e, q⟩
  | lst xs =>
    simp only [Rep] at r
    obtain ⟨a, vs, rfl, e, _, q⟩ := r
    exact ⟨a, vs, rfl, e, q⟩
  | _ => exact r
theorem RepR.tup {ds : List D} {v : V} (r : RepR K β τ H (.tup ds) v) : ∃ a vs, v = .ref a ∧ SqT K H a vs ∧ Reps K β τ H ds vs := Rep.sqT r
/-- a new list, a new tuple -/
theorem new_lst {ds : List D} {vs : List V} {p : Addr} (S : SRep K β τ H h) (hp : H p = none) (r : Reps K β τ H ds vs) :
    Ext β H β (upd H p (.lst vs)) ∧ SRep K β τ (upd H p (.lst vs)) h ∧ Rep K β τ (upd H p (.lst vs)) (.lst ds) (.ref p) := by
  have e : Ext β H β (upd H p (.lst vs)) := Ext.new _ hp
  refine ⟨e, S.new _ hp, ?_⟩
  simp only [Rep]
  exact ⟨p, vs, rfl, upd_same, ⟨S.fresh hp, S.offTau hp⟩, Reps.ext e r⟩
theorem new_tup {ds : List D} {vs : List V} {p : Addr} (S : SRep K β τ H h) (hp : H p = none) (r : Reps K β τ H ds vs) :
    Ext β H β (upd H p (.tup vs)) ∧ SRep K β τ (upd H p (.tup vs)) h ∧ Rep K β τ (upd H p (.tup vs)) (.tup ds) (.ref p) := by
  have e : Ext β H β (upd H p (.tup vs)) := Ext.new _ hp
  refine ⟨e, S.new _ hp, ?_⟩
  simp only [Rep]
  exact ⟨p, vs, rfl, .inl ⟨.inl upd_same, S.fresh hp, S.offTau hp⟩, Reps.ext e r⟩
end
end MP

set_option autoImplicit false
set_option Elab.async false
set_option linter.all false
set_option maxRecDepth 100000
/-! Lists that are equal item by item: !=. -/
namespace MP
open PySem PySem.Spec PyProof.Rows L2
open PySem.SeqAt (EqP)
open PySem.SeqAt PySem.MeetsSeq PySem.MeetsSeq2 PySem.MeetsSeq3 PySem.SeqRoads2
section
variable {prog : Program} {w : World} {l b : Addr} {xs ys : Array Value} {n n2 : Nat} {dd dd2 : Option Addr} {sl sl2 : Array (Option Value)}
theorem ne_turns (hsz : xs.size = ys.size) (k : Nat) : ∀ i : Nat, xs.size - i = k → MeetsIn prog w (Builtin.«list.__eq__.loop» ⟨[.ref l, .ref b, rawInt i, rawInt 3], []⟩)
    (fun A F z => z.heap.get? l = some { cls := .type "list", dict := dd, data := .seq xs n, slots := sl } ∧ z.heap.get? b = some { cls := .type "list", dict := dd2, data := .seq ys n2, slots := sl2 } ∧
      (∀ j (h1 : j < xs.size) (h2 : j < ys.size), EqP prog w A.in1 z xs[j] ys[j] true) ∧ F (.ok (.ret (.bool false))) z) := by
  induction k with
  | zero =>
    intro i hk A F z h
    obtain ⟨hp, g, d, tk, os⟩ := z
    obtain ⟨at1, at2, he, fin⟩ := h
    wp_walk using AutoSeq1.wpAny_loadPart' at1, AutoSeq1.wpAny_loadPart' at2
    have e1 : xs[((i : Nat) : Int).toNat]? = none := by simp; omega
    have e2 : ys[((i : Nat) : Int).toNat]? = none := by simp; omega
    rw [e1, e2]
    wp_walk using AutoSeq1.wpAny_loadPart' at1, AutoSeq1.wpAny_loadPart' at2
    show F (.ok (.ret (.bool (xs.size != ys.size)))) _
    rw [hsz]
    simpa using fin
  | succ k ih =>
    intro i hk A F z h
    obtain ⟨hp, g, d, tk, os⟩ := z
    obtain ⟨at1, at2, he, fin⟩ := h
    wp_walk using AutoSeq1.wpAny_loadPart' at1, AutoSeq1.wpAny_loadPart' at2
    have i1 : i < xs.size := by omega
    have i2 : i < ys.size := by omega
    have e1 : xs[((i : Nat) : Int).toNat]? = some xs[i] := by simp [i1]
    have e2 : ys[((i : Nat) : Int).toNat]? = some ys[i] := by simp [i2]
    rw [e1, e2]
    refine wpAny_bind (he i i1 i2 _ _ ?_)
    wp_walk
    rw [show ((i : Int) + 1) = ((i + 1 : Nat) : Int) by push_cast; rfl]
    exact ⟨plainId_quiet plain_eq_loop _, codeAny_builtin entry_eq_loop (by
      rw [Around.under_plainId plain_eq_loop _]
      exact ih (i + 1) (by omega) A F _ ⟨at1, at2, he, fin⟩)⟩
theorem ne_call (hsz : xs.size = ys.size) : MeetsIn prog w (Builtin.«list.__ne__» ⟨[.ref l, .ref b], []⟩)
    (fun A F z => z.heap.get? l = some { cls := .type "list", dict := dd, data := .seq xs n, slots := sl } ∧ z.heap.get? b = some { cls := .type "list", dict := dd2, data := .seq ys n2, slots := sl2 } ∧
      (∀ j (h1 : j < xs.size) (h2 : j < ys.size), EqP prog w A.in1 z xs[j] ys[j] true) ∧ F (.ok (.ret (.bool false))) z) := by
  intro A F z h
  obtain ⟨hp, g, d, tk, os⟩ := z
  obtain ⟨at1, at2, he, fin⟩ := h
  have same := AutoSeq1.sub_list_list
  have nn : ¬ (xs.size != ys.size) = true := by simp [hsz]
  wp_walk using AutoSeq1.wpAny_loadPart' at1, AutoSeq1.wpAny_loadPart' at2
  exact ⟨plainId_quiet plain_eq_loop _, codeAny_builtin entry_eq_loop (by
    rw [Around.under_plainId plain_eq_loop _]
    exact ne_turns hsz _ 0 rfl A F _ ⟨at1, at2, he, fin⟩)⟩
theorem ne_lists {A : Around} {z : Shared} (hl : z.heap.IsList l xs) (hb : z.heap.IsList b ys) (hsz : xs.size = ys.size) (hu : A.units < cLine) (he : ∀ j (h1 : j < xs.size) (h2 : j < ys.size), EqP prog w A.in1 z xs[j] ys[j] true)
    (E Q : Value → Shared → Prop) (h : Q (.bool false) z) : wpAny (model prog w) A (compareOp .NotEq (.ref l) (.ref b)) Q E z := by
  obtain ⟨⟨c1, d1, t1, s1⟩, h1, k1, m1, q1⟩ := id hl
  obtain ⟨⟨c2, d2, t2, s2⟩, h2, k2, m2, q2⟩ := id hb
  simp only at k1 q1 k2 q2
  subst k1 q1 k2 q2
  have ta : z.TypeIs (.ref l) "list" := ⟨_, h1, rfl⟩
  have tb : z.TypeIs (.ref b) "list" := ⟨_, h2, rfl⟩
  exact wpAny_richCompare_same_room (op := .NotEq) ta tb F.slot_list_ne (call_meetsIn F.slot_list_ne ta F.entry_list_ne (F.args_list_ne_2 _ _) (ne_call hsz)
    ⟨h1, h2, he, show Value.bool false ≠ Value.notImplemented ∧ Q (.bool false) z from ⟨(fun x => nomatch x), h⟩⟩) hu
end
section
variable {X : Cx}
/-- a != b of two lists whose items are equal -/
theorem op_neV (hu : X.A.units + 64 < cLine) : OpR X (compareOp .NotEq) (fun x y H Q => ∃ n a b xs ys, n ≤ 60 ∧ x = .ref a ∧ y = .ref b ∧ SqL X.K H a xs ∧ SqL X.K H b ys ∧ Paired (EqV X.K H n) xs ys ∧ Q (.bl false) H) := by
  intro pins s σ H x y v u Q I rx ry h
  obtain ⟨n, a, b, xs, ys, hn, rfl, rfl, ha, hb, hp, q⟩ := h
  cases (show v = Value.ref a from rx)
  cases (show u = Value.ref b from ry)
  obtain ⟨us, r1, p1, _⟩ := I.list ha
  obtain ⟨ws, r2, p2, _⟩ := I.list hb
  have hsz : us.toArray.size = ws.toArray.size := by
    rw [List.size_toArray, List.size_toArray, ← r1.length, ← r2.length]
    exact Paired.length hp
  refine ne_lists p1.isList p2.isList hsz (by omega) (fun j h1 h2 => ?_) _ _ ⟨.bl false, H, I, rfl, q⟩
  have k := items_run (A := X.A.in1) (fun x y v u e r1 r2 => eqV_run I n X.A.in1 (by show X.A.units + 1 + n < cLine; omega) x y v u e r1 r2) hp r1 r2 j (by simpa using h1) (by simpa using h2)
  simpa using k
end
end MP

set_option autoImplicit false
set_option Elab.async false
set_option linter.all false
set_option maxRecDepth 100000
set_option maxHeartbeats 1000000
/-! The functional Python is sound: the operators by values. -/
namespace MP
open PySem PySem.Spec PyProof.Rows L2
section
variable {X : Cx} {K : PySem.W.Frag} {β τ : List Addr} {H : Hp} {h : Sto}
theorem flatten_reps {ds : List D} {vs : List V} (r : Reps K β τ H ds vs) : ∀ n : Nat, Reps K β τ H (List.replicate n ds).flatten (List.replicate n vs).flatten
  | 0 => by simp [Reps]
  | n + 1 => by
    simp only [List.replicate_succ, List.flatten_cons]
    exact Reps.append r (flatten_reps r n)
theorem mulOk_c {i j : Int} (h : mulOk i j = true) : CMul i j := by
  unfold mulOk at h
  simp only [Bool.or_eq_true, Bool.and_eq_true, decide_eq_true_eq] at h
  exact h
theorem one_mul (l : Addr) (its : Array Value) (m : Nat) (dx : Option Addr) (sx : Array (Option Value)) (tk1 : Tok) :
    Meets (Builtin.«tuple.__mul__» ⟨[.ref l, .int 1 tk1], []⟩) (fun _ F z => z.heap.get? l = some { cls := .type "tuple", dict := dx, data := .seq its m, slots := sx } ∧ F (.ok (.ret (Value.ref l))) z) :=
  .of_wp fun p0 w0 B F z hz => by
    obtain ⟨h1, h2, h3, h4, h5⟩ := z
    obtain ⟨at1, go⟩ := hz
    have ix := AutoSeq1.idx_int
    wp_walk using wpAny_loadPart' at1
    exact ⟨_, rfl, go⟩
/-- t * 1 is t itself -/
theorem op_times1 : OpR X (binaryOp .Mult) (fun x y H Q => ∃ l xs, x = .ref l ∧ y = .int 1 ∧ SqT X.K H l xs ∧ Q (.ref l) H) := by
  intro pins s σ H x y v u Q I rx ry h
  obtain ⟨l, xs, rfl, rfl, hT, q⟩ := h
  cases rx
  obtain ⟨t, rfl⟩ := ry
  obtain ⟨its, r, ⟨⟨cls, dd, data, sl⟩, ho, hc, n, hd⟩, hs⟩ := I.tuple hT
  simp only at hc hd
  subst hc hd
  exact wpAny_binaryOp_repeat_ref (T := "tuple") (U := "int") (by decide) ⟨_, ho, rfl⟩ (fun s' => typeIs_int s' 1 t) noFill_tuple_mul F.fills_int_mul F.slot_int_rmul repeat_tuple F.slot_int_index.lookup
    (call_meets F.slot_int_rmul (typeIs_int s 1 t) F.entry_int_rmul (F.args_int_rmul_2 _ _) (int_rmul_tuple 1 t l its.toArray n dd sl)
      ⟨ho, rfl, ⟨_, ho, rfl⟩, call_meets F.slot_tuple_mul ⟨_, ho, rfl⟩ F.entry_tuple_mul (F.args_tuple_mul_2 _ _) (one_mul l its.toArray n dd sl t) ⟨ho, ⟨.ref l, H, I, rfl, q⟩⟩⟩)
theorem op_binD (op : Operator) : OpR X (binaryOp op) (rD X (binD op)) := by
  intro pins s σ H x y v u Q I rx ry ⟨β, τ, h, dx, dy, d, S, qx, qy, e, q⟩
  have rx' := deref_rep S qx
  have ry' := deref_rep S qy
  revert rx' ry' e
  generalize deref h dx = ex
  generalize deref h dy = ey
  intro e rx' ry'
  unfold binD at e
  split at e
  · cases e; simp only [RepR, Rep] at rx' ry'; subst rx' ry'
    exact op_add pins s σ H _ _ v u Q I rx ry ⟨_, _, rfl, rfl, q H _ (Ext.refl _ _) S (by simp [Rep])⟩
  · cases e; simp only [RepR, Rep] at rx' ry'; subst rx' ry'
    exact op_sub pins s σ H _ _ v u Q I rx ry ⟨_, _, rfl, rfl, q H _ (Ext.refl _ _) S (by simp [Rep])⟩
  · split at e
    · rename_i hc
      cases e; simp only [RepR, Rep] at rx' ry'; subst rx' ry'
      exact op_mul pins s σ H _ _ v u Q I rx ry ⟨_, _, rfl, rfl, mulOk_c hc, q H _ (Ext.refl _ _) S (by simp [Rep])⟩
    · cases e
  · cases e; simp only [RepR, Rep] at rx' ry'; subst rx' ry'
    exact op_and pins s σ H _ _ v u Q I rx ry ⟨_, _, rfl, rfl, q H _ (Ext.refl _ _) S (by simp [Rep])⟩
  · cases e; simp only [RepR, Rep] at rx' ry'; subst rx' ry'
    exact op_or pins s σ H _ _ v u Q I rx ry ⟨_, _, rfl, rfl, q H _ (Ext.refl _ _) S (by simp [Rep])⟩
  · cases e; simp only [RepR, Rep] at rx' ry'; subst rx' ry'
    exact op_xor pins s σ H _ _ v u Q I rx ry ⟨_, _, rfl, rfl, q H _ (Ext.refl _ _) S (by simp [Rep])⟩
  · split at e
    · rename_i hc
      cases e; simp only [RepR, Rep] at rx' ry'; subst rx' ry'
      exact op_shr pins s σ H _ _ v u Q I rx ry ⟨_, _, rfl, rfl, hc, q H _ (Ext.refl _ _) S (by simp [Rep])⟩
    · cases e
  · split at e
    · rename_i hc
      cases e; simp only [RepR, Rep] at rx' ry'; subst rx' ry'
      exact op_shl pins s σ H _ _ v u Q I rx ry ⟨_, _, rfl, rfl, ⟨hc.1, by omega, hc.2.2⟩, q H _ (Ext.refl _ _) S (by simp [Rep])⟩
    · cases e
  · split at e
    · rename_i hc
      cases e; simp only [RepR, Rep] at rx' ry'; subst rx' ry'
      exact op_fdivN pins s σ H _ _ v u Q I rx ry ⟨_, _, rfl, rfl, hc, q H _ (Ext.refl _ _) S (by simp [Rep])⟩
    · cases e
  · split at e
    · rename_i hc
      cases e; simp only [RepR, Rep] at rx' ry'; subst rx' ry'
      exact op_modN pins s σ H _ _ v u Q I rx ry ⟨_, _, rfl, rfl, hc, q H _ (Ext.refl _ _) S (by simp [Rep])⟩
    · cases e
  · split at e
    · rename_i hc
      cases e; simp only [RepR, Rep] at rx' ry'; subst rx' ry'
      obtain ⟨t, rfl⟩ := rx
      obtain ⟨t', rfl⟩ := ry
      exact PyProof.Rows.pow_int hc.1 hc.2 ⟨.int _, H, I.tok _, ⟨_, rfl⟩, q H _ (Ext.refl _ _) S (by simp [Rep])⟩
    · cases e
  · split at e
    · rename_i hc
      cases e; simp only [RepR, Rep] at rx' ry'; subst rx' ry'
      exact op_add_str pins s σ H _ _ v u Q I rx ry ⟨_, _, rfl, rfl, hc, q H _ (Ext.refl _ _) S (by simp [Rep])⟩
    · cases e
  · rename_i xs ys
    split at e
    · rename_i hc
      cases e
      obtain ⟨a, vs, rfl, ha, r1⟩ := rx'.tup
      obtain ⟨b, us, rfl, hb, r2⟩ := ry'.tup
      have l1 := r1.length
      have l2 := r2.length
      refine op_catA pins s σ H _ _ v u Q I rx ry ⟨a, b, vs, us, rfl, rfl, ha, hb, by omega, fun z => ?_, fun _ z => ?_, fun _ _ p hp => ?_⟩
      · subst z
        have : xs = [] := by cases xs with | nil => rfl | cons _ _ => simp at l1
        subst this
        exact q H _ (Ext.refl _ _) S ry'
      · subst z
        have : ys = [] := by cases ys with | nil => rfl | cons _ _ => simp at l2
        subst this
        exact q H _ (Ext.refl _ _) S (by rw [List.append_nil]; exact rx')
      · obtain ⟨e1, s1, r⟩ := new_tup S hp (Reps.append r1 r2)
        exact q _ _ e1 s1 r
    · cases e
  · split at e
    · rename_i hc
      cases e
      obtain ⟨a, vs, rfl, ha, r1⟩ := rx'
      obtain ⟨b, us, rfl, hb, r2⟩ := ry'
      have l1 := r1.length
      have l2 := r2.length
      refine op_cat pins s σ H _ _ v u Q I rx ry ⟨a, b, vs, us, rfl, rfl, ha, hb, by omega, fun p hp => ?_⟩
      obtain ⟨e1, s1, r⟩ := new_lst S hp (Reps.append r1 r2)
      exact q _ _ e1 s1 r
    · cases e
  · split at e
    · rename_i hc
      cases e
      obtain ⟨a, vs, rfl, ha, r1⟩ := rx'
      simp only [RepR, Rep] at ry'; subst ry'
      have l1 := r1.length
      refine op_rep pins s σ H _ _ v u Q I rx ry ⟨a, _, vs, rfl, rfl, ha, hc.1, hc.2.1, by rw [l1]; exact hc.2.2, fun p hp => ?_⟩
      obtain ⟨e1, s1, r⟩ := new_lst S hp (flatten_reps r1 _)
      exact q _ _ e1 s1 r
    · cases e
  · split at e
    · rename_i xs k hc
      simp only [Bool.and_eq_true, decide_eq_true_eq, Bool.not_eq_true', List.isEmpty_eq_false_iff] at hc
      obtain ⟨⟨⟨c1, c2⟩, c3⟩, c4⟩ := hc
      cases e
      obtain ⟨a, vs, rfl, ha, r1⟩ := rx'.tup
      simp only [RepR, Rep] at ry'; subst ry'
      have l1 := r1.length
      by_cases h1 : k = 1
      · subst h1
        refine op_times1 pins s σ H _ _ v u Q I rx ry ⟨a, vs, rfl, rfl, ha, q H _ (Ext.refl _ _) S ?_⟩
        rw [show (List.replicate (Int.toNat 1) xs).flatten = xs from by simp]
        exact rx'
      · refine op_repT pins s σ H _ _ v u Q I rx ry ⟨a, k, vs, rfl, rfl, ha, ?_, by omega, c3, by omega, fun p hp => ?_⟩
        · intro z
          subst z
          exact c1 (List.eq_nil_of_length_eq_zero (by simpa using l1.symm))
        obtain ⟨e1, s1, r⟩ := new_tup S hp (flatten_reps r1 _)
        exact q _ _ e1 s1 r
    · cases e
  · cases e
theorem un_negD : UnR X (unaryOp .USub) (fun x H Q => ∃ β τ h dx d, SRep X.K β τ H h ∧ Rep X.K β τ H dx x ∧ negD dx = some d ∧ ∀ H' v, Ext β H β H' → SRep X.K β τ H' h → Rep X.K β τ H' d v → Q v H') := by
  intro pins s σ H x v Q I rx ⟨β, τ, h, dx, d, S, qx, e, q⟩
  unfold negD at e
  split at e
  · cases e; simp only [Rep] at qx; subst qx
    exact un_neg pins s σ H _ v Q I rx ⟨_, rfl, q H _ (Ext.refl _ _) S (by simp [Rep])⟩
  · cases e
theorem un_invD : UnR X (unaryOp .Invert) (fun x H Q => ∃ β τ h dx d, SRep X.K β τ H h ∧ Rep X.K β τ H dx x ∧ invD dx = some d ∧ ∀ H' v, Ext β H β H' → SRep X.K β τ H' h → Rep X.K β τ H' d v → Q v H') := by
  intro pins s σ H x v Q I rx ⟨β, τ, h, dx, d, S, qx, e, q⟩
  unfold invD at e
  split at e
  · cases e; simp only [Rep] at qx; subst qx
    exact un_inv pins s σ H _ v Q I rx ⟨_, rfl, q H _ (Ext.refl _ _) S (by simp [Rep])⟩
  · cases e
/-! ### data -/
mutual
theorem toPy_dp : ∀ {d : D} {p : PyData} {v : V}, Rep K β τ H d v → toPy d = some p → p.canLay0 = true → Dp K H v p
  | .non, p, v, r, e, _ => by simp only [Rep] at r; simp only [toPy] at e; cases e; subst r; exact .non
  | .bl b, p, v, r, e, _ => by simp only [Rep] at r; simp only [toPy] at e; cases e; subst r; exact .bl b
  | .int b, p, v, r, e, _ => by simp only [Rep] at r; simp only [toPy] at e; cases e; subst r; exact .int b
  | .str b, p, v, r, e, _ => by simp only [Rep] at r; simp only [toPy] at e; cases e; subst r; exact .str b
  | .tup xs, p, v, r, e, c => by
    obtain ⟨a, vs, rfl, hq, r1⟩ := Rep.sqT r
    simp only [toPy] at e
    obtain ⟨ps, e1, rfl⟩ := Option.map_eq_some_iff.mp e
    exact .tup hq (toPys_dp r1 e1 (by simpa [PyData.canLay0] using c))
  | .lst xs, p, v, r, e, c => by
    obtain ⟨a, vs, rfl, hq, r1⟩ := Rep.sqL r
    simp only [toPy] at e
    obtain ⟨ps, e1, rfl⟩ := Option.map_eq_some_iff.mp e
    exact .lst hq (toPys_dp r1 e1 (by simpa [PyData.canLay0] using c))
  | .dct kvs, p, v, r, e, c => by simp only [toPy] at e; cases e; simp [PyData.canLay0] at c
  | .ref i, p, v, r, e, _ => by simp [toPy] at e
  | .ty i, p, v, r, e, _ => by simp [toPy] at e
  | .scr i, p, v, r, e, _ => by simp [toPy] at e
  | .rcd _ _, p, v, r, e, _ => by simp [toPy] at e
theorem toPys_dp : ∀ {ds : List D} {ps : List PyData} {vs : List V}, Reps K β τ H ds vs → toPys ds = some ps → PyData.canLayAll0 ps = true → DpAll K H vs ps
  | [], ps, vs, r, e, _ => by simp only [Reps] at r; simp only [toPys] at e; cases e; subst r; exact .nil
  | d :: ds, ps, vs, r, e, c => by
    simp only [Reps] at r
    obtain ⟨v, r', rfl, h1, h2⟩ := r
    simp only [toPys] at e
    split at e
    · rename_i a b ea eb
      cases e
      simp only [PyData.canLayAll0, Bool.and_eq_true] at c
      exact .cons (toPy_dp h1 ea c.1) (toPys_dp h2 eb c.2)
    · cases e
end
/-- .. also behind a cell -/
theorem toPy_dpR {d : D} {p : PyData} {v : V} (r : RepR K β τ H d v) (e : toPy d = some p) (c : p.canLay0 = true) : Dp K H v p := by
  cases d with
  | lst ds =>
    obtain ⟨a, vs, rfl, ha, r1⟩ := r
    simp only [toPy] at e
    obtain ⟨ps, e1, rfl⟩ := Option.map_eq_some_iff.mp e
    exact .lst (SqL.of ha) (toPys_dp r1 e1 (by simpa [PyData.canLay0] using c))
  | _ => exact toPy_dp r e c
theorem eqD_of {x y : D} {b : Bool} (e : eqD x y = some b) : (∃ p q, toPy x = some p ∧ toPy y = some q ∧ SeqAt.shaped p = true ∧ SeqAt.shaped q = true ∧ b = PyData.eqv p q) ∨ (isL x = true ∧ sameD x y = true ∧ depD x ≤ 50 ∧ b = true) ∨ ∃ s t, x = .str s ∧ y = .str t ∧ b = decide (V.str s = V.str t) := by
  unfold eqD at e
  split at e
  · rename_i b' eb
    unfold strEq at eb
    split at eb
    · cases eb; cases e
      exact .inr (.inr ⟨_, _, rfl, rfl, by simp⟩)
    · cases eb
  split at e
  · rename_i a b ea eb
    split at e
    · rename_i hc
      simp only [Bool.and_eq_true] at hc
      cases e
      exact .inl ⟨a, b, ea, eb, hc.1, hc.2, rfl⟩
    · split at e
      · rename_i hc
        simp only [Bool.and_eq_true, decide_eq_true_eq] at hc
        cases e
        exact .inr (.inl ⟨hc.1, hc.2.1, hc.2.2, rfl⟩)
      · cases e
  · cases e
theorem keyB_eq {k k' : Key} (h : keyB k k' = true) : k = k' := by
  cases k <;> cases k' <;> simp [keyB] at h <;> rw [h]
theorem flatBB_eq {v v' : V} (h : flatBB v v' = true) : v = v' ∧ L2.flatB v = true := by
  cases v <;> cases v' <;> simp [flatBB] at h <;> first | (subst h; exact ⟨rfl, rfl⟩) | exact ⟨rfl, rfl⟩
theorem same_dct {a b : List (Key × V)} (h : kvB a b = true) {n : Nat} : a.length = b.length ∧ ∀ p ∈ a, ∃ u, valV b p.1 = some u ∧ EqV K H (n + 1) p.2 u := by
  unfold kvB at h
  split at h
  · exact ⟨rfl, fun p hp => by cases hp⟩
  · rename_i k v k' v'
    simp only [Bool.and_eq_true] at h
    have e1 := keyB_eq h.1
    obtain ⟨e2, e3⟩ := flatBB_eq h.2
    subst e1 e2
    refine ⟨rfl, fun p hp => ?_⟩
    simp only [List.mem_cons, List.not_mem_nil, or_false] at hp
    subst hp
    exact ⟨v, by simp [valV], .inl ⟨rfl, e3⟩⟩
  · cases h
mutual
theorem same_eqv (n : Nat) : ∀ {x y : D} {v u : V}, sameD x y = true → depD x ≤ n → Rep K β τ H x v → Rep K β τ H y u → EqV K H (n + 2) v u
  | .non, y, v, u, e, _, r1, r2 => by cases y <;> simp [sameD] at e; simp only [Rep] at r1 r2; subst r1 r2; exact .inl ⟨rfl, rfl⟩
  | .bl _, y, v, u, e, _, r1, r2 => by cases y <;> simp [sameD] at e; simp only [Rep] at r1 r2; subst r1 r2 e; exact .inl ⟨rfl, rfl⟩
  | .int _, y, v, u, e, _, r1, r2 => by cases y <;> simp [sameD] at e; simp only [Rep] at r1 r2; subst r1 r2 e; exact .inl ⟨rfl, rfl⟩
  | .str _, y, v, u, e, _, r1, r2 => by cases y <;> simp [sameD] at e; simp only [Rep] at r1 r2; subst r1 r2 e; exact .inl ⟨rfl, rfl⟩
  | .lst xs, y, v, u, e, d, r1, r2 => by
    cases y with
    | lst ys =>
      simp only [sameD] at e
      simp only [depD] at d
      obtain ⟨a, vs, rfl, q1, w1⟩ := Rep.sqL r1
      obtain ⟨b, us, rfl, q2, w2⟩ := Rep.sqL r2
      obtain ⟨m, rfl⟩ : ∃ m, n = m + 1 := ⟨n - 1, by omega⟩
      exact .inr (.inr (.inl ⟨a, b, vs, us, rfl, rfl, q1, q2, sames_eqv m e (by omega) w1 w2⟩))
    | _ => simp [sameD] at e
  | .dct a, y, v, u, e, _, r1, r2 => by
    cases y with
    | dct b =>
      simp only [sameD] at e
      simp only [Rep] at r1 r2
      obtain ⟨p, rfl, q1, _⟩ := r1
      obtain ⟨q, rfl, q2, _⟩ := r2
      obtain ⟨h1, h2⟩ := same_dct (K := K) (H := H) e (n := n)
      exact .inr (.inr (.inr ⟨p, q, a, b, rfl, rfl, q1, q2, h1, h2⟩))
    | _ => simp [sameD] at e
  | .tup _, y, v, u, e, _, _, _ => by cases y <;> simp [sameD] at e
  | .ty _, y, v, u, e, _, _, _ => by cases y <;> simp [sameD] at e
  | .ref _, y, v, u, e, _, _, _ => by cases y <;> simp [sameD] at e
  | .scr _, y, v, u, e, _, _, _ => by cases y <;> simp [sameD] at e
  | .rcd _ _, y, v, u, e, _, _, _ => by cases y <;> simp [sameD] at e
theorem sames_eqv (n : Nat) : ∀ {xs ys : List D} {vs us : List V}, sameDs xs ys = true → depDs xs ≤ n → Reps K β τ H xs vs → Reps K β τ H ys us → Paired (EqV K H (n + 2)) vs us
  | [], [], vs, us, _, _, r1, r2 => by simp only [Reps] at r1 r2; subst r1 r2; exact .nil
  | [], _ :: _, vs, us, e, _, _, _ => by simp [sameDs] at e
  | _ :: _, [], vs, us, e, _, _, _ => by simp [sameDs] at e
  | x :: xs, y :: ys, vs, us, e, d, r1, r2 => by
    simp only [sameDs, Bool.and_eq_true] at e
    simp only [depDs] at d
    simp only [Reps] at r1 r2
    obtain ⟨v, vr, rfl, a1, a2⟩ := r1
    obtain ⟨u, ur, rfl, b1, b2⟩ := r2
    exact .cons (same_eqv n e.1 (by omega) a1 b1) (sames_eqv n e.2 (by omega) a2 b2)
end
/-- equal lists, also behind a cell -/
theorem same_lst {x y : D} {v u : V} (l : isL x = true) (e : sameD x y = true) (d : depD x ≤ 50) (r1 : RepR K β τ H x v) (r2 : RepR K β τ H y u) : ∃ a b vs us, v = .ref a ∧ u = .ref b ∧ SqL K H a vs ∧ SqL K H b us ∧ Paired (EqV K H 52) vs us := by
  cases x with
  | lst xs =>
    cases y with
    | lst ys =>
      simp only [sameD] at e
      simp only [depD] at d
      obtain ⟨a, vs, rfl, q1, w1⟩ := r1
      obtain ⟨b, us, rfl, q2, w2⟩ := r2
      exact ⟨a, b, vs, us, rfl, rfl, SqL.of q1, SqL.of q2, sames_eqv 50 e (by omega) w1 w2⟩
    | _ => simp [sameD] at e
  | _ => cases l
theorem intsD_reps : ∀ {ds : List D} {ns : List Int} {vs : List V}, Reps K β τ H ds vs → intsD ds = some ns → vs = ns.map V.int
  | [], ns, vs, r, e => by simp only [Reps] at r; simp only [intsD] at e; cases e; subst r; rfl
  | .int i :: ds, ns, vs, r, e => by
    simp only [Reps] at r
    obtain ⟨v, r', rfl, h1, h2⟩ := r
    simp only [intsD] at e
    obtain ⟨ms, e1, rfl⟩ := Option.map_eq_some_iff.mp e
    simp only [Rep] at h1
    subst h1
    rw [intsD_reps h2 e1]; rfl
  | .non :: _, ns, vs, r, e => by simp [intsD] at e
  | .bl _ :: _, ns, vs, r, e => by simp [intsD] at e
  | .str _ :: _, ns, vs, r, e => by simp [intsD] at e
  | .ty _ :: _, ns, vs, r, e => by simp [intsD] at e
  | .tup _ :: _, ns, vs, r, e => by simp [intsD] at e
  | .lst _ :: _, ns, vs, r, e => by simp [intsD] at e
  | .dct _ :: _, ns, vs, r, e => by simp [intsD] at e
  | .ref _ :: _, ns, vs, r, e => by simp [intsD] at e
  | .scr _ :: _, ns, vs, r, e => by simp [intsD] at e
  | .rcd _ _ :: _, ns, vs, r, e => by simp [intsD] at e
theorem boolsD_reps : ∀ {ds : List D} {ns : List Bool} {vs : List V}, Reps K β τ H ds vs → boolsD ds = some ns → vs = ns.map V.bl
  | [], ns, vs, r, e => by simp only [Reps] at r; simp only [boolsD] at e; cases e; subst r; rfl
  | .bl i :: ds, ns, vs, r, e => by
    simp only [Reps] at r
    obtain ⟨v, r', rfl, h1, h2⟩ := r
    simp only [boolsD] at e
    obtain ⟨ms, e1, rfl⟩ := Option.map_eq_some_iff.mp e
    simp only [Rep] at h1
    subst h1
    rw [boolsD_reps h2 e1]; rfl
  | .non :: _, ns, vs, r, e => by simp [boolsD] at e
  | .int _ :: _, ns, vs, r, e => by simp [boolsD] at e
  | .str _ :: _, ns, vs, r, e => by simp [boolsD] at e
  | .ty _ :: _, ns, vs, r, e => by simp [boolsD] at e
  | .tup _ :: _, ns, vs, r, e => by simp [boolsD] at e
  | .lst _ :: _, ns, vs, r, e => by simp [boolsD] at e
  | .dct _ :: _, ns, vs, r, e => by simp [boolsD] at e
  | .ref _ :: _, ns, vs, r, e => by simp [boolsD] at e
  | .scr _ :: _, ns, vs, r, e => by simp [boolsD] at e
  | .rcd _ _ :: _, ns, vs, r, e => by simp [boolsD] at e
def isNonD : D → Bool
  | .non => true
  | _ => false
theorem isN_rep {d : D} {v : V} (r : RepR K β τ H d v) : decide (v = V.non) = isNonD d := by
  cases d with
  | non => simp only [RepR, Rep] at r; subst r; simp [isNonD]
  | lst ds => obtain ⟨a, vs, rfl, _⟩ := r; simp [isNonD]
  | tup ds => obtain ⟨a, vs, rfl, _⟩ := RepR.tup r; simp [isNonD]
  | bl b => simp only [RepR, Rep] at r; subst r; simp [isNonD]
  | int b => simp only [RepR, Rep] at r; subst r; simp [isNonD]
  | str b => simp only [RepR, Rep] at r; subst r; simp [isNonD]
  | ty b => simp only [RepR, Rep] at r; subst r; simp [isNonD]
  | dct b => simp only [RepR, Rep] at r; obtain ⟨a, rfl, _⟩ := r; simp [isNonD]
  | ref b => simp only [RepR, Rep] at r; obtain ⟨a, rfl, _⟩ := r; simp [isNonD]
  | scr b => simp only [RepR, Rep] at r; obtain ⟨a, rfl, _⟩ := r; simp [isNonD]
  | rcd k b => simp only [RepR, Rep] at r; obtain ⟨a, _, _, rfl, _⟩ := r; simp [isNonD]
/-- a comparison's reading -/
theorem op_cmpD (hu : X.A.units + 65 < cLine) (op : CmpOp) : OpR X (compareOp op) (rD X fun x y => (cmpD op x y).map .bl) := by
  intro pins s σ H x y v u Q I rx ry ⟨β, τ, h, dx, dy, d, S, qx, qy, e, q⟩
  have rx' := deref_rep S qx
  have ry' := deref_rep S qy
  revert rx' ry' e
  generalize deref h dx = ex
  generalize deref h dy = ey
  intro e rx' ry'
  obtain ⟨b, eb, rfl⟩ := Option.map_eq_some_iff.mp (show (cmpD op ex ey).map D.bl = some d from e)
  have fin : Q (.bl b) H := q H _ (Ext.refl _ _) S (by simp [Rep])
  unfold cmpD at eb
  split at eb
  · rcases eqD_of eb with ⟨p, p', e1, e2, s1, s2, rfl⟩ | ⟨l1, l2, l3, rfl⟩ | ⟨t1, t2, rfl, rfl, rfl⟩
    case' inr.inr =>
      simp only [RepR, Rep] at rx' ry'; subst rx' ry'
      exact op_eq pins s σ H _ _ v u Q I rx ry ⟨rfl, fin⟩
    case' inr.inl =>
      obtain ⟨a, b, vs, us, rfl, rfl, q1, q2, w⟩ := same_lst l1 l2 l3 rx' ry'
      exact op_eqV (by omega) pins s σ H _ _ v u Q I rx ry ⟨52, by decide, .inl ⟨a, b, vs, us, rfl, rfl, q1, q2, w⟩, fin⟩
    exact op_eqD (by omega) pins s σ H _ _ v u Q I rx ry ⟨p, p', toPy_dpR rx' e1 (SeqAt.canLay_of_shaped s1), toPy_dpR ry' e2 (SeqAt.canLay_of_shaped s2), s1, s2, fin⟩
  · obtain ⟨b', eb', rfl⟩ := Option.map_eq_some_iff.mp eb
    rcases eqD_of eb' with ⟨p, p', e1, e2, s1, s2, rfl⟩ | ⟨l1, l2, l3, rfl⟩ | ⟨t1, t2, rfl, rfl, rfl⟩
    case' inr.inr =>
      simp only [RepR, Rep] at rx' ry'; subst rx' ry'
      exact op_ne pins s σ H _ _ v u Q I rx ry ⟨rfl, fin⟩
    case' inr.inl =>
      obtain ⟨a, b, vs, us, rfl, rfl, q1, q2, w⟩ := same_lst l1 l2 l3 rx' ry'
      exact op_neV (by omega) pins s σ H _ _ v u Q I rx ry ⟨52, a, b, vs, us, by decide, rfl, rfl, q1, q2, w, fin⟩
    exact op_neD (by omega) pins s σ H _ _ v u Q I rx ry ⟨p, p', toPy_dpR rx' e1 (SeqAt.canLay_of_shaped s1), toPy_dpR ry' e2 (SeqAt.canLay_of_shaped s2), s1, s2, fin⟩
  · cases eb; simp only [RepR, Rep] at rx' ry'; subst rx' ry'
    exact op_lt pins s σ H _ _ v u Q I rx ry ⟨_, _, rfl, rfl, fin⟩
  · cases eb; simp only [RepR, Rep] at rx' ry'; subst rx' ry'
    exact op_le pins s σ H _ _ v u Q I rx ry ⟨_, _, rfl, rfl, fin⟩
  · cases eb; simp only [RepR, Rep] at rx' ry'; subst rx' ry'
    exact op_gt pins s σ H _ _ v u Q I rx ry ⟨_, _, rfl, rfl, fin⟩
  · cases eb; simp only [RepR, Rep] at rx' ry'; subst rx' ry'
    exact op_ge pins s σ H _ _ v u Q I rx ry ⟨_, _, rfl, rfl, fin⟩
  · split at eb
    · rename_i ns ms en em
      cases eb
      obtain ⟨a, vs, rfl, ha, r1⟩ := rx'.tup
      obtain ⟨b, us, rfl, hb, r2⟩ := ry'.tup
      have w1 := intsD_reps r1 en
      have w2 := intsD_reps r2 em
      subst w1 w2
      exact op_ltT (by omega) pins s σ H _ _ v u Q I rx ry ⟨a, b, _, _, rfl, rfl, ha, hb, fin⟩
    · cases eb
  · have hy : y = V.non := by simpa [RepR, Rep] using ry'
    subst hy
    refine op_isN pins s σ H _ _ v u Q I rx ry ⟨rfl, ?_⟩
    rw [isN_rep rx']
    clear rx' e
    cases ex <;> simp at eb <;> (subst eb; exact fin)
  · have hy : y = V.non := by simpa [RepR, Rep] using ry'
    subst hy
    refine op_notN pins s σ H _ _ v u Q I rx ry ⟨rfl, ?_⟩
    rw [isN_rep rx']
    clear rx' e
    cases ex <;> simp at eb <;> (subst eb; exact fin)
  · cases eb; simp only [RepR, Rep] at rx' ry'; subst rx' ry'
    exact op_isBl pins s σ H _ _ v u Q I rx ry ⟨_, _, rfl, rfl, fin⟩
  · cases eb; simp only [RepR, Rep] at rx' ry'; subst rx' ry'
    exact op_notBl pins s σ H _ _ v u Q I rx ry ⟨_, _, rfl, rfl, fin⟩
  · split at eb
    · rename_i p ps e1 e2
      split at eb
      · rename_i hc
        simp only [Bool.and_eq_true] at hc
        cases eb
        exact op_inD hu pins s σ H _ _ v u Q I rx ry ⟨p, ps, toPy_dpR rx' e1 (SeqAt.canLay_of_shaped hc.1), toPy_dpR ry' (by simp [toPy, e2]) (SeqAt.canLay_of_shaped hc.2), hc.1, hc.2, fin⟩
      · cases eb
    · cases eb
  · split at eb
    · rename_i p ps e1 e2
      split at eb
      · rename_i hc
        simp only [Bool.and_eq_true] at hc
        cases eb
        exact op_notInD hu pins s σ H _ _ v u Q I rx ry ⟨p, ps, toPy_dpR rx' e1 (SeqAt.canLay_of_shaped hc.1), toPy_dpR ry' (by simp [toPy, e2]) (SeqAt.canLay_of_shaped hc.2), hc.1, hc.2, fin⟩
      · cases eb
    · cases eb
  · split at eb
    · rename_i p ps e1 e2
      split at eb
      · rename_i hc
        simp only [Bool.and_eq_true] at hc
        cases eb
        obtain ⟨as, w1⟩ := Dp.reads I p x v (toPy_dpR rx' e1 (SeqAt.canLay_of_shaped hc.1)) rx
        obtain ⟨bs, w2⟩ := Dp.reads I (.tuple ps) y u (toPy_dpR ry' (by simp [toPy, e2]) (SeqAt.canLay_of_shaped hc.2)) ry
        exact SeqAt.in_tuple_reads w2 w1 (SeqAt.canLay_of_shaped hc.2) (SeqAt.canLay_of_shaped hc.1) (room_in_shaped hc.1 hu) ⟨.bl _, H, I, rfl, fin⟩
      · cases eb
    · cases eb
  · split at eb
    · rename_i p ps e1 e2
      split at eb
      · rename_i hc
        simp only [Bool.and_eq_true] at hc
        cases eb
        obtain ⟨as, w1⟩ := Dp.reads I p x v (toPy_dpR rx' e1 (SeqAt.canLay_of_shaped hc.1)) rx
        obtain ⟨bs, w2⟩ := Dp.reads I (.tuple ps) y u (toPy_dpR ry' (by simp [toPy, e2]) (SeqAt.canLay_of_shaped hc.2)) ry
        exact SeqAt.notIn_tuple_reads w2 w1 (SeqAt.canLay_of_shaped hc.2) (SeqAt.canLay_of_shaped hc.1) (room_in_shaped hc.1 hu) ⟨.bl _, H, I, rfl, fin⟩
      · cases eb
    · cases eb
  · cases eb
theorem Reps.atI {ds : List D} {vs : List V} {i : Int} {d : D} (r : Reps K β τ H ds vs) (e : atI ds i = some d) : ∃ v, atI vs i = some v ∧ Rep K β τ H d v := by
  unfold L2.atI at e ⊢
  obtain ⟨j, e1, e2⟩ := Option.bind_eq_some_iff.mp e
  obtain ⟨v, hv, rv⟩ := Reps.get r e2
  refine ⟨v, ?_, rv⟩
  rw [r.length, e1]
  exact hv
theorem ix_D : IxR X (fun x y H Q => ∃ β τ h dx dy d, SRep X.K β τ H h ∧ Rep X.K β τ H dx x ∧ Rep X.K β τ H dy y ∧ idxD (deref h dx) dy = some d ∧ ∀ H' v, Ext β H β H' → SRep X.K β τ H' h → Rep X.K β τ H' d v → Q v H') := by
  intro value slice pins s σ H x y v u Q I rx ry ⟨β, τ, h, dx, dy, d, S, qx, qy, e, q⟩ hs
  have rx' := deref_rep S qx
  revert rx' e
  generalize deref h dx = ex
  intro e rx'
  unfold idxD at e
  split at e
  · simp only [Rep] at qy; subst qy
    obtain ⟨a, vs, rfl, ha, r1⟩ := rx'.tup
    obtain ⟨w, hw, rw'⟩ := Reps.atI r1 e
    exact ix_seq value slice pins s σ H _ _ v u Q I rx ry (.inr (.inl ⟨a, vs, _, w, rfl, rfl, ha, hw, q H _ (Ext.refl _ _) S rw'⟩)) hs
  · simp only [Rep] at qy; subst qy
    obtain ⟨a, vs, rfl, ha, r1⟩ := rx'
    obtain ⟨w, hw, rw'⟩ := Reps.atI r1 e
    exact ix_seq value slice pins s σ H _ _ v u Q I rx ry (.inl ⟨a, vs, _, w, rfl, rfl, SqL.of ha, hw, q H _ (Ext.refl _ _) S rw'⟩) hs
  · rename_i ns i
    simp only [Rep] at qy; subst qy
    obtain ⟨n, en, rfl⟩ := Option.map_eq_some_iff.mp e
    simp only [RepR, Rep] at rx'
    obtain ⟨a, rfl, ha⟩ := rx'
    have sq : SqL X.K H a (ns.map V.int) := ha.elim (fun z => .inl z.1) .inr
    have hw : atI (ns.map V.int) i = some (.int n) := by
      unfold L2.atI at en ⊢
      obtain ⟨j, e1, e2⟩ := Option.bind_eq_some_iff.mp en
      rw [List.length_map, e1]
      simp [e2]
    exact ix_seq value slice pins s σ H _ _ v u Q I rx ry (.inl ⟨a, _, i, _, rfl, rfl, sq, hw, q H _ (Ext.refl _ _) S (by simp [Rep])⟩) hs
  · cases e
theorem cutD_reps {ds : List D} {vs : List V} (lo hi : Option Int) (r : Reps K β τ H ds vs) : Reps K β τ H (cutD ds lo hi) (cutV vs lo hi) := by
  unfold cutD cutV
  rw [r.length]
  exact Reps.take _ (Reps.drop _ r)
theorem sl_D : SlR X (fun x lo hi H Q => ∃ β τ h dx d, SRep X.K β τ H h ∧ Rep X.K β τ H dx x ∧ slcD (deref h dx) lo hi = some d ∧ ∀ H' v, Ext β H β H' → SRep X.K β τ H' h → Rep X.K β τ H' d v → Q v H') := by
  intro pins s σ H x v vl vu lo hi sl Q I rx hs pl pu ⟨β, τ, h, dx, d, S, qx, e, q⟩
  have rx' := deref_rep S qx
  revert rx' e
  generalize deref h dx = ex
  intro e rx'
  unfold slcD at e
  split at e
  · cases e
    rename_i xs
    obtain ⟨a, vs, rfl, ha, r1⟩ := rx'.tup
    refine sl_tupA pins s σ H _ v vl vu lo hi sl Q I rx hs pl pu ⟨a, vs, rfl, ha, fun z => ?_, fun _ p hp => ?_⟩
    · refine q H _ (Ext.refl _ _) S ?_
      have : cutD xs lo hi = xs := by
        unfold cutD
        rw [r1.length] at z
        rw [z.1, z.2]; simp
      rw [this]; exact rx'
    · obtain ⟨e1, s1, r⟩ := new_tup S hp (cutD_reps lo hi r1)
      exact q _ _ e1 s1 r
  · cases e
    obtain ⟨a, vs, rfl, ha, r1⟩ := rx'
    refine sl_list pins s σ H _ v vl vu lo hi sl Q I rx hs pl pu ⟨a, vs, rfl, SqL.of ha, fun p hp => ?_⟩
    obtain ⟨e1, s1, r⟩ := new_lst S hp (cutD_reps lo hi r1)
    exact q _ _ e1 s1 r
  · cases e
end
end MP

set_option autoImplicit false
set_option Elab.async false
set_option linter.all false
set_option maxRecDepth 100000
set_option maxHeartbeats 1000000
/-! t[::-1] of a tuple. -/
namespace MP
open PySem PySem.Spec PyProof.Rows L2
theorem fm_congr {α γ : Type} {f g : α → Option γ} : ∀ {l : List α}, (∀ a ∈ l, f a = g a) → l.filterMap f = l.filterMap g
  | [], _ => rfl
  | a :: l, h => by
    rw [List.filterMap_cons, List.filterMap_cons, h a List.mem_cons_self, fm_congr fun b hb => h b (List.mem_cons_of_mem _ hb)]
theorem all_at {α : Type} : ∀ r : List α, (List.range r.length).filterMap (fun m : Nat => r[m]?) = r
  | [] => rfl
  | x :: r => by
    rw [List.length_cons, List.range_succ_eq_map, List.filterMap_cons]
    simp only [List.getElem?_cons_zero, List.filterMap_map]
    congr 1
    exact all_at r
theorem back_list {α : Type} (l : List α) : (List.range l.length).filterMap (fun m : Nat => l[(((l.length : Nat) : Int) - 1 + (m : Int) * (-1)).toNat]?) = l.reverse := by
  have h : ∀ m ∈ List.range l.length, l[(((l.length : Nat) : Int) - 1 + (m : Int) * (-1)).toNat]? = (l.reverse)[m]? := by
    intro m hm
    have hm := List.mem_range.mp hm
    rw [List.getElem?_reverse hm]
    congr 1
    omega
  rw [fm_congr h]
  have e : l.length = l.reverse.length := by simp
  rw [e]
  exact all_at _
theorem back_arr (xs : Array Value) : ((List.range xs.size).filterMap fun (m : Nat) => xs[(((xs.size : Nat) : Int) - 1 + (m : Int) * (-1)).toNat]?).toArray = xs.toList.reverse.toArray := by
  obtain ⟨l⟩ := xs
  have := back_list l
  simp only [List.size_toArray]
  rw [← this]
  exact congrArg List.toArray (fm_congr fun m _ => by simp)
section
variable {prog : Program} {w : World} {A : Around} {E : Value → Shared → Prop} {s : Shared}
theorem part_of {v : Value} {o : Option Int} {Q : Option Int → Shared → Prop} (p : IsPart v o) (q : Q o s) : wpAny (model prog w) A (Builtin.Slice.slicePartIndex v) Q E s := HT.slicePart_ p q
theorem applied_back {sl : Addr} {vl vu vs : Value} {n : Nat} {Q : Int × Int × Nat → Shared → Prop} (hs : s.heap.IsSliceOf sl vl vu vs) (pl : IsPart vl none) (pu : IsPart vu none) (ps : IsPart vs (some (-1)))
    (q : Q ((n : Int) - 1, -1, n) s) : wpAny (model prog w) A (Builtin.Slice.sliceApplied (.ref sl) (pure (n : Int))) Q E s := by
  obtain ⟨ob, h1, h2, h3⟩ := id hs
  unfold Builtin.Slice.sliceApplied Builtin.Slice.sliceFields
  refine wpAny_bind (wpAny_bind (wpAny_field h1 h3 (x := vl) rfl ?_))
  refine wpAny_bind (wpAny_field h1 h3 (x := vu) rfl ?_)
  refine wpAny_bind (wpAny_field h1 h3 (x := vs) rfl (wpAny_pure ?_))
  refine wpAny_bind (part_of ps ?_)
  show wpAny _ _ (if ((-1 : Int) == 0) = true then _ else _) _ _ s
  rw [if_neg (by decide)]
  refine wpAny_bind (part_of pl ?_)
  refine wpAny_bind (part_of pu ?_)
  refine wpAny_bind (wpAny_pure ?_)
  have e : Builtin.Slice.sliceAdjust none none (-1) (n : Int) = ((n : Int) - 1, -1) := by
    unfold Builtin.Slice.sliceAdjust
    simp
  show wpAny _ _ (match Builtin.Slice.sliceAdjust none none (-1) (n : Int) with | (lo, hi) => pure (lo, (-1 : Int), Builtin.Slice.slicePlaces lo hi (-1))) _ _ s
  rw [e]
  have e2 : Builtin.Slice.slicePlaces ((n : Int) - 1) (-1) (-1) = n := by
    unfold Builtin.Slice.slicePlaces
    simp
    split <;> omega
  show wpAny _ _ (pure ((n : Int) - 1, (-1 : Int), Builtin.Slice.slicePlaces ((n : Int) - 1) (-1) (-1))) _ _ s
  rw [e2]
  exact wpAny_pure q
theorem getItem_back {t sl : Addr} {items : Array Value} {vl vu vs : Value} {Q : Value → Shared → Prop} (ht : IsTup s.heap t items) (hs : s.heap.IsSliceOf sl vl vu vs) (pl : IsPart vl none) (pu : IsPart vu none) (ps : IsPart vs (some (-1)))
    (q : Q (.ref s.heap.objs.size) { s with heap := s.heap.push { cls := .type "tuple", data := .seq items.toList.reverse.toArray } }) (hz : items.size ≤ sizeLine) : wpAny (model prog w) A (getItem (.ref t) (.ref sl)) Q E s := by
  have few : sizeOk (.seq items.toList.reverse.toArray) := by
    show items.toList.reverse.toArray.size ≤ sizeLine
    rw [List.size_toArray, List.length_reverse, Array.length_toList]
    exact hz
  obtain ⟨ob, h1, h2, h3⟩ := id hs
  have sT : s.TypeIs (.ref sl) "slice" := ⟨ob, h1, h2⟩
  unfold getItem
  try with_reducible refine wpAny_holding ?_
  first | refine wpAny_bind (wpAny_pure ?_) | skip
  refine wpAny_bind (wpAny_sequenceKey ht.typeIs (by decide) ?_)
  refine wpAny_bind (wpAny_callSpecial?_slot (name := Str.ofString "__getitem__") ht.typeIs PyProof.Rows.slot_tuple_getitem ?_)
  refine wpAny_call_entry PyProof.Rows.slot_tuple_getitem ht.typeIs entry_tuple_getitem ?_ (args_tuple_getitem _ _)
  show wpAny _ _ (Builtin.Tuple.tupleItemsOf (.ref t) >>= _) _ _ s
  refine wpAny_bind (tupleItemsOf_ ht ?_)
  refine wpAny_bind (wpAny_typeOf sT ?_)
  rw [if_pos (by decide)]
  refine wpAny_bind (applied_back hs pl pu ps ?_)
  have no : ¬ (((((items.size : Nat) : Int) - 1) == 0 && (-1 : Int) == 1 && items.size == items.size) = true) := by
    intro z
    rw [Bool.and_eq_true, Bool.and_eq_true] at z
    exact absurd z.1.2 (by decide)
  show wpAny _ _ (if (((((items.size : Nat) : Int) - 1) == 0 && (-1 : Int) == 1 && items.size == items.size) = true) then _ else _) _ _ s
  rw [if_neg no, back_arr]
  first
    | exact wpAny_bind (m := Builtin.Tuple.tupleExact _) (wpAny_newObj_type (wpAny_pure ⟨_, rfl, wpAny_pure q⟩) few)
    | exact wpAny_bind (wpAny_bind (m := Builtin.Tuple.tupleExact _) (wpAny_newObj_type (wpAny_pure (wpAny_pure ⟨_, rfl, wpAny_pure q⟩)) few))
end
/-- a[::-1] of a list or a tuple -/
def tBack (X : Cx) (te : TE) : TE := fun σ H Q => te σ H fun x H1 =>
  (∃ a xs, x = .ref a ∧ SqL X.K H1 a xs ∧ ∀ p, H1 p = none → Q (.ref p) (upd H1 p (.lst xs.reverse))) ∨ (∃ a xs, x = .ref a ∧ SqT X.K H1 a xs ∧ ∀ p, H1 p = none → Q (.ref p) (upd H1 p (.tup xs.reverse)))
theorem pe_back {X : Cx} {e : Expr} {te : TE} {k : Nat} {p1 p2 p3 pos : Pos} (he : PE X e te) : PE X (.Subscript e (.Slice none none (some (.UnaryOp .USub (.Constant (.int 1) k p1) p2)) p3) pos) (tBack X te) := by
  refine ⟨fun pins s σ H Q I h => ?_⟩
  refine Subscript_ (thn (he.run pins s σ H _ I h) fun v s1 ⟨x, H1, I1, r1, q1⟩ => ?_)
  have st : PO X (some (.UnaryOp .USub (.Constant (.int 1) k p1) p2)) (tPart (tUn (rU fun i => .int (-i)) (tC (.int 1)))) := po_some (pe_un un_neg pe_int)
  refine wpAny_Slice (thn (po_none.run pins s1 σ H1 (fun o H2 => o = none ∧ H2 = H1) I1 ⟨rfl, rfl⟩) fun vl s2 ⟨l, H2, I2, pl, el, e2⟩ => ?_)
  subst el e2
  refine thn (po_none.run pins s2 σ H2 (fun o H3 => o = none ∧ H3 = H2) I2 ⟨rfl, rfl⟩) fun vu s3 ⟨u, H3, I3, pu, eu, e3⟩ => ?_
  subst eu e3
  refine thn (st.run pins s3 σ H3 (fun o H4 => o = some (-1) ∧ H4 = H3) I3 ⟨1, rfl, -1, rfl, rfl, rfl⟩) fun vs s4 ⟨o, H4, I4, ps, eo, e4⟩ => ?_
  subst eo e4
  have I5 : L2.Inv X pins σ H4 { s4 with heap := s4.heap.push { cls := .type "slice", data := .fields #[vl, vu, vs] } } := I4.kept (t' := s4.toks) fun b ob z => Heap.get?_push_of_some _ z
  rcases q1 with ⟨a, xs, ex, hx, q⟩ | ⟨a, xs, ex, hx, q⟩
  · subst ex
    cases r1
    obtain ⟨its, r, ht, hz⟩ := I5.list hx
    have hlen := r.length
    show wpAny (model X.prog X.w) X.A (subscriptTail e (.Slice none none (some (.UnaryOp .USub (.Constant (.int 1) k p1) p2)) p3) (.ref a) (.ref s4.heap.objs.size)) (EP X pins σ Q) X.xe _
    refine tail_any (ops := [.ref a, .ref s4.heap.objs.size]) ht.isList.typeIs (PySem.slot_list_getitem.lookup) ?_ (by with_unfolding_all rfl)
    refine wpAny_getItem_list_slice ht.isList (Heap.IsSliceOf.new _ vl vu vs) pl pu ps (by decide) ?_ (by rw [List.size_toArray]; omega)
    rw [PySem.W.krv_pick]
    refine ⟨.ref _, _, I5.laid (t' := s4.toks) (o := .lst xs.reverse) (fun b ob z => Heap.get?_push_of_some _ z) (Nat.le_refl _) ?_, rfl, q _ (I5.hok.fresh (Nat.le_refl _))⟩
    exact ⟨by rw [List.length_reverse]; exact hz, _, 0, r.reverse, Heap.get?_push_size _ rfl⟩
  · subst ex
    cases r1
    obtain ⟨its, r, ht, hz⟩ := I5.tuple hx
    have hlen := r.length
    show wpAny (model X.prog X.w) X.A (subscriptTail e (.Slice none none (some (.UnaryOp .USub (.Constant (.int 1) k p1) p2)) p3) (.ref a) (.ref s4.heap.objs.size)) (EP X pins σ Q) X.xe _
    refine tail_any (ops := [.ref a, .ref s4.heap.objs.size]) ht.typeIs (PyProof.Rows.slot_tuple_getitem.lookup) ?_ (by with_unfolding_all rfl)
    refine getItem_back ht (Heap.IsSliceOf.new _ vl vu vs) pl pu ps ?_ (by rw [List.size_toArray]; omega)
    refine ⟨.ref _, _, I5.laid (t' := s4.toks) (o := .tup xs.reverse) (fun b ob z => Heap.get?_push_of_some _ z) (Nat.le_refl _) ?_, rfl, q _ (I5.hok.fresh (Nat.le_refl _))⟩
    exact ⟨by rw [List.length_reverse]; exact hz, _, r.reverse, IsTup.new _ _⟩
end MP

set_option autoImplicit false
set_option Elab.async false
set_option linter.all false
set_option maxRecDepth 100000
set_option maxHeartbeats 1000000
/-! The functional Python is sound: built-ins and methods by values. -/
namespace MP
open PySem PySem.Spec PyProof.Rows L2
section
variable {X : Cx} {K : PySem.W.Frag} {β τ : List Addr} {H : Hp} {h : Sto}
/-- as in the store's eyes -/
def RepRs (K : PySem.W.Frag) (β τ : List Addr) (H : Hp) : List D → List V → Prop
  | [], vs => vs = []
  | d :: ds, vs => ∃ v r, vs = v :: r ∧ RepR K β τ H d v ∧ RepRs K β τ H ds r
theorem derefs_rep (S : SRep K β τ H h) : ∀ {ds : List D} {vs : List V}, Reps K β τ H ds vs → RepRs K β τ H (ds.map (deref h)) vs
  | [], vs, r => by simpa only [Reps, List.map_nil, RepRs] using r
  | d :: ds, vs, r => by
    simp only [Reps] at r
    obtain ⟨v, r', rfl, h1, h2⟩ := r
    exact ⟨v, r', rfl, deref_rep S h1, derefs_rep S h2⟩
theorem RepRs.one {d : D} {vs : List V} (r : RepRs K β τ H [d] vs) : ∃ v, vs = [v] ∧ RepR K β τ H d v := by
  obtain ⟨v, r', rfl, h1, h2⟩ := r
  cases h2
  exact ⟨v, rfl, h1⟩
theorem RepRs.two {d e : D} {vs : List V} (r : RepRs K β τ H [d, e] vs) : ∃ v u, vs = [v, u] ∧ RepR K β τ H d v ∧ RepR K β τ H e u := by
  obtain ⟨v, r', rfl, h1, h2⟩ := r
  obtain ⟨u, rfl, h3⟩ := RepRs.one h2
  exact ⟨v, u, rfl, h1, h3⟩
theorem tyOf_x {d : D} {v : V} {t : String} (r : RepR K β τ H d v) (e : tyOf d = some t) : TyX K H v (.type t) := by
  cases d with
  | non => simp only [RepR, Rep] at r; subst r; cases e; exact .base .non
  | bl b => simp only [RepR, Rep] at r; subst r; cases e; exact .base (.bl b)
  | int b => simp only [RepR, Rep] at r; subst r; cases e; exact .base (.int b)
  | str b => simp only [RepR, Rep] at r; subst r; cases e; exact .base (.str b)
  | tup ds =>
    cases e
    simp only [RepR, Rep] at r
    obtain ⟨a, vs, rfl, q, _⟩ := r
    rcases q with ⟨q | ⟨o, q⟩, _⟩ | ⟨o, its, n, q, c, _⟩
    · exact .base (.tup q)
    · exact .fTuple q
    · exact .kTuple q c
  | lst ds => cases e; obtain ⟨a, vs, rfl, q, _⟩ := r; exact .base (.lst q)
  | dct ds =>
    cases e
    simp only [RepR, Rep] at r
    obtain ⟨a, rfl, q, _⟩ := r
    exact .base (.dK q)
  | ty _ => cases e
  | ref _ => cases e
  | scr _ => cases e
  | rcd _ _ => cases e
theorem isIsi_kit {t c : String} {b : Bool} (e : isIsi t c = some b) : kitB t c = some b := by
  unfold isIsi at e
  split at e <;> first | (cases e; decide +kernel) | cases e
theorem cr_isinstance : CallR X (.builtin "isinstance") (rDs X (bltD "isinstance")) := by
  intro pins s σ H xs us Q I rv ⟨β, τ, h, ds, d, S, r, e, q⟩
  have r' := derefs_rep S r
  revert r' e
  generalize ds.map (deref h) = es
  intro e r'
  simp only [bltD] at e
  simp (config := { decide := true }) only [if_true, if_false] at e
  split at e
  · rename_i x c
    obtain ⟨v, u, rfl, r1, r2⟩ := RepRs.two r'
    split at e
    · rename_i t et
      obtain ⟨b, eb, rfl⟩ := Option.map_eq_some_iff.mp e
      simp only [RepR, Rep] at r2; subst r2
      exact call_isi pins s σ H _ us Q I rv ⟨v, .ty c, .type t, .type c, b, rfl, .ty c, tyOf_x r1 et, kit_ty (isIsi_kit eb), q H _ (Ext.refl _ _) S (by simp [Rep])⟩
    · cases e
  · cases e
theorem cr_len : CallR X (.builtin "len") (rDs X (bltD "len")) := by
  intro pins s σ H xs us Q I rv ⟨β, τ, h, ds, d, S, r, e, q⟩
  have r' := derefs_rep S r
  revert r' e
  generalize ds.map (deref h) = es
  intro e r'
  simp only [bltD] at e
  simp (config := { decide := true }) only [if_true, if_false] at e
  split at e
  · obtain ⟨v, rfl, r1⟩ := RepRs.one r'
    cases e
    obtain ⟨a, vs, rfl, ha, r2⟩ := r1.tup
    exact call_len pins s σ H _ us Q I rv ⟨_, _, rfl, .inr ⟨vs, ha, rfl⟩, by rw [r2.length]; exact q H _ (Ext.refl _ _) S (by simp [Rep])⟩
  · obtain ⟨v, rfl, r1⟩ := RepRs.one r'
    cases e
    obtain ⟨a, vs, rfl, ha, r2⟩ := r1
    exact call_len pins s σ H _ us Q I rv ⟨_, _, rfl, .inl ⟨vs, SqL.of ha, rfl⟩, by rw [r2.length]; exact q H _ (Ext.refl _ _) S (by simp [Rep])⟩
  · obtain ⟨v, rfl, r1⟩ := RepRs.one r'
    cases e
    simp only [RepR, Rep] at r1
    obtain ⟨a, rfl, ha⟩ := r1
    have hs : SqL X.K H a _ := ha.elim (fun z => .inl z.1) .inr
    exact call_len pins s σ H _ us Q I rv ⟨_, _, rfl, .inl ⟨_, hs, rfl⟩, by rw [List.length_map]; exact q H _ (Ext.refl _ _) S (by simp [Rep])⟩
  · obtain ⟨v, rfl, r1⟩ := RepRs.one r'
    split at e
    · rename_i hz
      cases e
      simp only [RepR, Rep] at r1; subst r1
      exact call_len pins s σ H _ us Q I rv ⟨_, _, rfl, ⟨hz, rfl⟩, q H _ (Ext.refl _ _) S (by simp [Rep])⟩
    · cases e
  · cases e
theorem cr_absD : CallR X (.builtin "abs") (rDs X (bltD "abs")) := by
  intro pins s σ H xs us Q I rv ⟨β, τ, h, ds, d, S, r, e, q⟩
  have r' := derefs_rep S r
  revert r' e
  generalize ds.map (deref h) = es
  intro e r'
  simp only [bltD] at e
  simp (config := { decide := true }) only [if_true, if_false] at e
  split at e
  · obtain ⟨v, rfl, r1⟩ := RepRs.one r'
    cases e
    simp only [RepR, Rep] at r1; subst r1
    exact call_abs pins s σ H _ us Q I rv ⟨_, rfl, q H _ (Ext.refl _ _) S (by simp [Rep])⟩
  · cases e
theorem cr_maxD (hc : X.calm = true) : CallR X (.builtin "max") (rDs X (bltD "max")) := by
  intro pins s σ H xs us Q I rv ⟨β, τ, h, ds, d, S, r, e, q⟩
  have r' := derefs_rep S r
  revert r' e
  generalize ds.map (deref h) = es
  intro e r'
  simp only [bltD] at e
  simp (config := { decide := true }) only [if_true, if_false] at e
  split at e
  · obtain ⟨v, u, rfl, r1, r2⟩ := RepRs.two r'
    cases e
    simp only [RepR, Rep] at r1 r2; subst r1 r2
    exact call_max2 hc pins s σ H _ us Q I rv ⟨_, _, rfl, q H _ (Ext.refl _ _) S (by simp [Rep])⟩
  · cases e
theorem cr_minD (hc : X.calm = true) : CallR X (.builtin "min") (rDs X (bltD "min")) := by
  intro pins s σ H xs us Q I rv ⟨β, τ, h, ds, d, S, r, e, q⟩
  have r' := derefs_rep S r
  revert r' e
  generalize ds.map (deref h) = es
  intro e r'
  simp only [bltD] at e
  simp (config := { decide := true }) only [if_true, if_false] at e
  split at e
  · obtain ⟨v, u, rfl, r1, r2⟩ := RepRs.two r'
    cases e
    simp only [RepR, Rep] at r1 r2; subst r1 r2
    exact call_min2 hc pins s σ H _ us Q I rv ⟨_, _, rfl, q H _ (Ext.refl _ _) S (by simp [Rep])⟩
  · cases e
theorem cr_intD : CallR X (.type "int") (rDs X (bltD "int")) := by
  intro pins s σ H xs us Q I rv ⟨β, τ, h, ds, d, S, r, e, q⟩
  have r' := derefs_rep S r
  revert r' e
  generalize ds.map (deref h) = es
  intro e r'
  simp only [bltD] at e
  simp (config := { decide := true }) only [if_true, if_false] at e
  split at e
  · obtain ⟨v, rfl, r1⟩ := RepRs.one r'
    cases e
    simp only [RepR, Rep] at r1; subst r1
    exact call_int1 pins s σ H _ us Q I rv (.inl ⟨_, rfl, q H _ (Ext.refl _ _) S (by simp [Rep])⟩)
  · obtain ⟨v, rfl, r1⟩ := RepRs.one r'
    cases e
    simp only [RepR, Rep] at r1; subst r1
    exact call_int1 pins s σ H _ us Q I rv (.inr ⟨_, rfl, q H _ (Ext.refl _ _) S (by simp [Rep])⟩)
  · cases e
theorem cr_strD : CallR X (.type "str") (rDs X (bltD "str")) := by
  intro pins s σ H xs us Q I rv ⟨β, τ, h, ds, d, S, r, e, q⟩
  have r' := derefs_rep S r
  revert r' e
  generalize ds.map (deref h) = es
  intro e r'
  simp only [bltD] at e
  simp (config := { decide := true }) only [if_true, if_false] at e
  split at e
  · obtain ⟨v, rfl, r1⟩ := RepRs.one r'
    split at e
    · rename_i hz
      cases e
      simp only [RepR, Rep] at r1; subst r1
      exact call_str_int pins s σ H _ us Q I rv ⟨_, rfl, hz, q H _ (Ext.refl _ _) S (by simp [Rep])⟩
    · cases e
  · cases e
theorem cr_listD : CallR X (.type "list") (rDs X (bltD "list")) := by
  intro pins s σ H xs us Q I rv ⟨β, τ, h, ds, d, S, r, e, q⟩
  have r' := derefs_rep S r
  revert r' e
  generalize ds.map (deref h) = es
  intro e r'
  simp only [bltD] at e
  simp (config := { decide := true }) only [if_true, if_false] at e
  split at e
  · obtain ⟨v, rfl, r1⟩ := RepRs.one r'
    cases e
    obtain ⟨a, vs, rfl, ha, r2⟩ := r1.tup
    refine call_list_of pins s σ H _ us Q I rv ⟨_, _, rfl, .inr ha, fun p hp => ?_⟩
    obtain ⟨e1, s1, r3⟩ := new_lst S hp r2
    exact q _ _ e1 s1 r3
  · obtain ⟨v, rfl, r1⟩ := RepRs.one r'
    cases e
    obtain ⟨a, vs, rfl, ha, r2⟩ := r1
    refine call_list_of pins s σ H _ us Q I rv ⟨_, _, rfl, .inl (SqL.of ha), fun p hp => ?_⟩
    obtain ⟨e1, s1, r3⟩ := new_lst S hp r2
    exact q _ _ e1 s1 r3
  · cases e
theorem cr_tupleD : CallR X (.type "tuple") (rDs X (bltD "tuple")) := by
  intro pins s σ H xs us Q I rv ⟨β, τ, h, ds, d, S, r, e, q⟩
  have r' := derefs_rep S r
  revert r' e
  generalize ds.map (deref h) = es
  intro e r'
  simp only [bltD] at e
  simp (config := { decide := true }) only [if_true, if_false] at e
  split at e
  · obtain ⟨v, rfl, r1⟩ := RepRs.one r'
    cases e
    obtain ⟨a, vs, rfl, ha, r2⟩ := r1.tup
    exact call_tuple_of pins s σ H _ us Q I rv ⟨_, _, rfl, .inr ⟨ha, q H _ (Ext.refl _ _) S r1⟩⟩
  · obtain ⟨v, rfl, r1⟩ := RepRs.one r'
    cases e
    obtain ⟨a, vs, rfl, ha, r2⟩ := r1
    refine call_tuple_of pins s σ H _ us Q I rv ⟨_, _, rfl, .inl ⟨SqL.of ha, fun p hp => ?_⟩⟩
    obtain ⟨e1, s1, r3⟩ := new_tup S hp r2
    exact q _ _ e1 s1 r3
  · cases e
theorem cr_sumD (hc : X.calm = true) : CallR X (.builtin "sum") (rDs X (bltD "sum")) := by
  intro pins s σ H xs us Q I rv ⟨β, τ, h, ds, d, S, r, e, q⟩
  have r' := derefs_rep S r
  revert r' e
  generalize ds.map (deref h) = es
  intro e r'
  simp only [bltD] at e
  simp (config := { decide := true }) only [if_true, if_false] at e
  split at e
  · obtain ⟨v, rfl, r1⟩ := RepRs.one r'
    obtain ⟨ns, en, rfl⟩ := Option.map_eq_some_iff.mp e
    obtain ⟨a, vs, rfl, ha, r2⟩ := r1
    have w := intsD_reps r2 en
    subst w
    exact cr_sum hc pins s σ H _ us Q I rv ⟨a, ns, rfl, SqL.of ha, q H _ (Ext.refl _ _) S (by simp [Rep])⟩
  · cases e
theorem sorted_one {ns ms : List Int} (hp : ms.Perm ns) (hs : ms.Pairwise (· ≤ ·)) : ms = ns.mergeSort fun a b => decide (a ≤ b) := by
  have t : (ns.mergeSort fun a b => decide (a ≤ b)).Pairwise (· ≤ ·) := by
    have := List.pairwise_mergeSort (le := fun a b : Int => decide (a ≤ b)) (by intro a b c; simp; omega) (by intro a b; simp; omega) ns
    exact this.imp (by simp)
  exact List.Perm.eq_of_pairwise (le := (· ≤ ·)) (fun a b _ _ h1 h2 => Int.le_antisymm h1 h2) hs t (hp.trans (List.mergeSort_perm ns _).symm)
theorem ints_reps : ∀ ns : List Int, Reps K β τ H (ns.map .int) (ns.map V.int)
  | [] => by simp [Reps]
  | i :: l => Reps.cons (by simp [Rep]) (ints_reps l)
theorem cr_sortedD : CallR X (.builtin "sorted") (rDs X (bltD "sorted")) := by
  intro pins s σ H xs us Q I rv ⟨β, τ, h, ds, d, S, r, e, q⟩
  have r' := derefs_rep S r
  revert r' e
  generalize ds.map (deref h) = es
  intro e r'
  simp only [bltD] at e
  simp (config := { decide := true }) only [if_true, if_false] at e
  split at e
  · obtain ⟨v, rfl, r1⟩ := RepRs.one r'
    split at e
    · rename_i ns en
      split at e
      · rename_i hz
        cases e
        obtain ⟨a, vs, rfl, ha, r2⟩ := r1
        have w := intsD_reps r2 en
        subst w
        refine cr_sorted pins s σ H _ us Q I rv ⟨a, ns, rfl, SqL.of ha, hz, fun ms p hp hs hn => ?_⟩
        rw [sorted_one hp hs]
        obtain ⟨e1, s1, r3⟩ := new_lst S hn (ints_reps (ns.mergeSort fun a b => decide (a ≤ b)))
        exact q _ _ e1 s1 r3
      · cases e
    · cases e
  · cases e
theorem cr_allD (hc : X.calm = true) : CallR X (.builtin "all") (rDs X (bltD "all")) := by
  intro pins s σ H xs us Q I rv ⟨β, τ, h, ds, d, S, r, e, q⟩
  have r' := derefs_rep S r
  revert r' e
  generalize ds.map (deref h) = es
  intro e r'
  simp only [bltD] at e
  simp (config := { decide := true }) only [if_true, if_false] at e
  split at e
  · obtain ⟨v, rfl, r1⟩ := RepRs.one r'
    obtain ⟨ns, en, rfl⟩ := Option.map_eq_some_iff.mp e
    obtain ⟨a, vs, rfl, ha, r2⟩ := r1
    have w := boolsD_reps r2 en
    subst w
    exact cr_all hc pins s σ H _ us Q I rv ⟨a, ns, rfl, SqL.of ha, q H _ (Ext.refl _ _) S (by simp [Rep])⟩
  · cases e
theorem cr_anyD (hc : X.calm = true) : CallR X (.builtin "any") (rDs X (bltD "any")) := by
  intro pins s σ H xs us Q I rv ⟨β, τ, h, ds, d, S, r, e, q⟩
  have r' := derefs_rep S r
  revert r' e
  generalize ds.map (deref h) = es
  intro e r'
  simp only [bltD] at e
  simp (config := { decide := true }) only [if_true, if_false] at e
  split at e
  · obtain ⟨v, rfl, r1⟩ := RepRs.one r'
    obtain ⟨ns, en, rfl⟩ := Option.map_eq_some_iff.mp e
    obtain ⟨a, vs, rfl, ha, r2⟩ := r1
    have w := boolsD_reps r2 en
    subst w
    exact cr_any hc pins s σ H _ us Q I rv ⟨a, ns, rfl, SqL.of ha, q H _ (Ext.refl _ _) S (by simp [Rep])⟩
  · cases e
/-! ### repr -/
theorem vPy_reads {hp : Heap} {v : V} {u : Value} (hf : flatV1 v = true) (r : RelV v u) : Reads hp u (vPy v) [] := by
  cases v with
  | non => cases r; exact .none
  | bl b => cases r; exact .bool b
  | int i => obtain ⟨t, rfl⟩ := r; exact .int i t
  | str x => obtain ⟨t, rfl⟩ := r; exact .str x t
  | byt _ => simp [flatV1] at hf
  | flt _ => simp [flatV1] at hf
  | ref _ => simp [flatV1] at hf
  | ty _ => simp [flatV1] at hf
theorem pairs_keys {P : Program} {w : World} {hp : Heap} : ∀ {es : List DictEntry} {vs : List (Key × Value)} {kvs : List (Key × V)}, Pairs (mixKind P w) es vs → KV kvs vs → ReadsAll hp (es.map (·.key)) ((kvs.map fun p => (keyPy p.1, vPy p.2)).map (·.1)) []
  | _, _, _, .nil, .nil => .nil
  | e :: es, _, (k, v) :: kvs, .cons h1 h2 h3, .cons r1 r2 => by
    have t := pairs_keys (hp := hp) h3 r2
    obtain ⟨rk, rv⟩ := r1
    have hk : Reads hp e.key (keyPy k) [] := by
      rcases keyIs_shape h1 with ⟨i, t, e1, e2⟩ | ⟨x, t, e1, e2⟩
      · have z : k = Sum.inl i := rk.trans e1
        rw [z, e2]; exact .int i t
      · have z : k = Sum.inr x := rk.trans e1
        rw [z, e2]; exact .str x t
    exact ReadsAll.cons hk t
theorem pairs_vals {P : Program} {w : World} {hp : Heap} : ∀ {es : List DictEntry} {vs : List (Key × Value)} {kvs : List (Key × V)}, Pairs (mixKind P w) es vs → KV kvs vs → kvs.all (fun p => flatV1 p.2) = true → ReadsAll hp (es.map (·.val)) ((kvs.map fun p => (keyPy p.1, vPy p.2)).map (·.2)) []
  | _, _, _, .nil, .nil, _ => .nil
  | e :: es, _, (k, v) :: kvs, .cons h1 h2 h3, .cons r1 r2, hf => by
    simp only [List.all_cons, Bool.and_eq_true] at hf
    have t := pairs_vals (hp := hp) h3 r2 hf.2
    obtain ⟨rk, rv⟩ := r1
    have hv : Reads hp e.val (vPy v) [] := by rw [h2]; exact vPy_reads hf.1 rv
    exact ReadsAll.cons hv t
theorem reads_dct {pins : List (Addr × Obj)} {σ : L2.St} {s : Shared} (I : L2.Inv X pins σ H s) {a : Addr} {kvs : List (Key × V)} (ha : H a = some (.dK kvs)) (hf : kvs.all (fun p => flatV1 p.2) = true) :
    Reads s.heap (.ref a) (.dict (kvs.map fun p => (keyPy p.1, vPy p.2))) [a] ∧ a ≠ sysModules := by
  obtain ⟨z, ne, vs, rel, ob, es, ep, ho, hx, hd, _, hp, _⟩ := I.hok a _ ha
  refine ⟨?_, by simpa using ne⟩
  exact Reads.dict (as := []) (bs := []) ho hx.1 hd (pairs_keys hp rel) (pairs_vals hp rel hf)
theorem toPy_isDct {d : D} {p : PyData} (e : toPy d = some p) (hd : isDct p = true) : ∃ kvs, d = .dct kvs ∧ p = .dict (kvs.map fun p => (keyPy p.1, vPy p.2)) := by
  cases d with
  | dct kvs => simp only [toPy] at e; cases e; exact ⟨kvs, rfl, rfl⟩
  | tup xs => simp only [toPy] at e; obtain ⟨ps, _, rfl⟩ := Option.map_eq_some_iff.mp e; simp [isDct] at hd
  | lst xs => simp only [toPy] at e; obtain ⟨ps, _, rfl⟩ := Option.map_eq_some_iff.mp e; simp [isDct] at hd
  | non => simp only [toPy] at e; cases e; simp [isDct] at hd
  | bl _ => simp only [toPy] at e; cases e; simp [isDct] at hd
  | int _ => simp only [toPy] at e; cases e; simp [isDct] at hd
  | str _ => simp only [toPy] at e; cases e; simp [isDct] at hd
  | _ => simp [toPy] at e
theorem cr_reprD (hg : X.A.guards = some []) (hu : X.A.units + 65 < cLine) : CallR X (.builtin "repr") (rDs X (bltD "repr")) := by
  intro pins s σ H xs us Q I rv ⟨β, τ, h, ds, d, S, r, e, q⟩
  have r' := derefs_rep S r
  revert r' e
  generalize ds.map (deref h) = es
  intro e r'
  simp only [bltD] at e
  simp (config := { decide := true }) only [if_true, if_false] at e
  split at e
  · obtain ⟨v, rfl, r1⟩ := RepRs.one r'
    split at e
    · rename_i p ep
      split at e
      · rename_i hc
        simp only [Bool.and_eq_true, decide_eq_true_eq, Bool.or_eq_true] at hc
        obtain ⟨⟨⟨c1, c2⟩, c3⟩, c4⟩ := hc
        cases e
        have rd : ∀ u, RelV v u → ∃ as, Reads s.heap u p as ∧ (p.hasDict = true → sysModules ∉ as) := fun u ru => by
          rcases c4 with c4 | c4
          · obtain ⟨as, z⟩ := Dp.reads I p v u (toPy_dpR r1 ep c4) ru
            exact ⟨as, z, PySem.PyData.noDict_hsm (PySem.PyData.hasDict_of_canLay p c4)⟩
          · obtain ⟨kvs, ed, rfl⟩ := toPy_isDct ep c4
            subst ed
            simp only [RepR, Rep] at r1
            obtain ⟨a, rfl, ha, _, hf⟩ := r1
            cases ru
            obtain ⟨z1, z2⟩ := reads_dct I ha hf
            exact ⟨[a], z1, fun _ hm => z2 (List.mem_singleton.mp hm).symm⟩
        obtain ⟨u, rfl, ru⟩ : ∃ u, us = [u] ∧ RelV v u := by
          cases rv with
          | cons r1 r2 => cases r2; exact ⟨_, rfl, r1⟩
        obtain ⟨as, z, nz⟩ := rd u ru
        have fin : Q (.str p.shown) H := q H _ (Ext.refl _ _) S (by simp [Rep])
        cases z with
        | none =>
          refine P.repr_of_none ⟨.str _, H, I.tok _, ⟨_, rfl⟩, ?_⟩
          simpa only [PyData.shown] using fin
        | bool b =>
          refine P.repr_of_bool ⟨.str _, H, I.tok _, ⟨_, rfl⟩, ?_⟩
          simpa only [PyData.shown] using fin
        | int i t =>
          refine P.repr_of_int (by simpa [PyData.showable] using c1) ⟨.str _, H, I.tok _, ⟨_, rfl⟩, ?_⟩
          simpa only [PyData.shown] using fin
        | str x t =>
          refine P.repr_of_str ⟨.str _, H, I.tok _, ⟨_, rfl⟩, ?_⟩ (by simpa only [PyData.shown] using c3)
          simpa only [PyData.shown] using fin
        | list h1 h2 h3 h4 =>
          exact repr_of_reads' (.list h1 h2 h3 h4) c1 nz hg (by omega) (fun _ _ e => e) (fun h' u tk k => ⟨.str _, H, I.kept (t' := tk) k, ⟨_, rfl⟩, fin⟩) c3
        | tuple h1 h2 h3 h4 =>
          exact repr_of_reads' (.tuple h1 h2 h3 h4) c1 nz hg (by omega) (fun _ _ e => e) (fun h' u tk k => ⟨.str _, H, I.kept (t' := tk) k, ⟨_, rfl⟩, fin⟩) c3
        | dict h1 h2 h3 h4 h5 =>
          exact repr_of_reads' (.dict h1 h2 h3 h4 h5) c1 nz hg (by omega) (fun _ _ e => e) (fun h' u tk k => ⟨.str _, H, I.kept (t' := tk) k, ⟨_, rfl⟩, fin⟩) c3
      · cases e
    · cases e
  · cases e
end
end MP

set_option autoImplicit false
set_option Elab.async false
set_option linter.all false
set_option maxRecDepth 100000
set_option maxHeartbeats 1000000
/-! The functional Python is sound: what is walked, targets, calls. -/
namespace MP
open PySem PySem.Spec PyProof.Rows L2
/-! ### reserving an address -/
section
variable {K : PySem.W.Frag} {β τ : List Addr} {H : Hp} {h : Sto} {p : Addr} {o : HO}
theorem Fz.res {u : HO} {a : Addr} (hp : H p = none) (e : H a = some u) (z : Fz β τ a) : Fz β (p :: τ) a := ⟨z.1, by
  simp only [List.mem_cons, not_or]
  exact ⟨ne_of_none e hp, z.2⟩⟩
theorem Rd.fz {u : HO} {a : Addr} (hp : H p = none) (r : Rd H a u) (z : Fz β τ a) : Rd (upd H p o) a u ∧ Fz β (p :: τ) a := by
  rcases r with r | ⟨w, r⟩
  · exact ⟨.inl (by rw [upd_ne (ne_of_none r hp)]; exact r), Fz.res hp r z⟩
  · exact ⟨.inr ⟨w, by rw [upd_ne (ne_of_none r hp)]; exact r⟩, Fz.res hp r z⟩
mutual
theorem Rep.res (hp : H p = none) : ∀ {d : D} {v : V}, Rep K β τ H d v → Rep K β (p :: τ) (upd H p o) d v
  | .non, _, r => by simpa only [Rep] using r
  | .bl _, _, r => by simpa only [Rep] using r
  | .int _, _, r => by simpa only [Rep] using r
  | .str _, _, r => by simpa only [Rep] using r
  | .ty _, _, r => by simpa only [Rep] using r
  | .tup ds, _, r => by
    simp only [Rep] at r ⊢
    obtain ⟨a, vs, rfl, q, t⟩ := r
    refine ⟨a, vs, rfl, ?_, Reps.res hp t⟩
    rcases q with ⟨q, n⟩ | q
    · exact .inl (Rd.fz hp q n)
    · exact .inr q
  | .lst ds, _, r => by
    simp only [Rep] at r ⊢
    obtain ⟨a, vs, rfl, q, n, t⟩ := r
    exact ⟨a, vs, rfl, by rw [upd_ne (ne_of_none q hp)]; exact q, Fz.res hp q n, Reps.res hp t⟩
  | .dct kvs, _, r => by
    simp only [Rep] at r ⊢
    obtain ⟨a, rfl, q, n, z⟩ := r
    exact ⟨a, rfl, by rw [upd_ne (ne_of_none q hp)]; exact q, Fz.res hp q n, z⟩
  | .ref i, _, r => by simpa only [Rep] using r
  | .scr ns, _, r => by
    simp only [Rep] at r ⊢
    obtain ⟨a, rfl, q⟩ := r
    refine ⟨a, rfl, ?_⟩
    rcases q with ⟨q, n⟩ | q
    · exact .inl (Rd.fz hp q n)
    · exact .inr q
  | .rcd k ds, _, r => by
    simp only [Rep] at r ⊢
    obtain ⟨a, us, fp, rfl, q, sh, w⟩ := r
    exact ⟨a, us, fp, rfl, fun x hx => let ⟨h1, n, t⟩ := q x hx; ⟨by rw [upd_ne (ne_of_none h1 hp)]; exact h1, Fz.res hp h1 n, t⟩, sh, Reps.res hp w⟩
theorem Reps.res (hp : H p = none) : ∀ {ds : List D} {vs : List V}, Reps K β τ H ds vs → Reps K β (p :: τ) (upd H p o) ds vs
  | [], _, r => by simpa only [Reps] using r
  | d :: ds, _, r => by
    simp only [Reps] at r ⊢
    obtain ⟨v, t, rfl, h1, h2⟩ := r
    exact ⟨v, t, rfl, Rep.res hp h1, Reps.res hp h2⟩
end
theorem SRep.reserve {ws : List V} (S : SRep K β τ H h) (hp : H p = none) : SRep K β (p :: τ) (upd H p (.lst ws)) h where
  tab := tabs_upd S.tab _ (.inl hp)
  len := S.len
  nd := S.nd
  at_ := fun i ob a hi ha => by
    have m := S.at_ i ob a hi ha
    cases ob with
    | lst ds =>
      obtain ⟨vs, e, r⟩ := m
      exact ⟨vs, by rw [upd_ne (ne_of_none e hp)]; exact e, Reps.res hp r⟩
  off := fun a ha z => by
    rcases List.mem_cons.mp z with z | z
    · subst z; exact S.fresh hp ha
    · exact S.off a ha z
  res := fun a ha => by
    rcases List.mem_cons.mp ha with ha | ha
    · subst ha; exact ⟨_, upd_same⟩
    · obtain ⟨u, e⟩ := S.res a ha
      exact ⟨u, by rw [upd_ne (ne_of_none e hp)]; exact e⟩
theorem ERep.res {σ : L2.St} {ρ : Env} (E : ERep K β τ H σ ρ) (hp : H p = none) : ERep K β (p :: τ) (upd H p o) σ ρ :=
  ⟨E.1, fun i d hi => let ⟨v, hv, r⟩ := E.2 i d hi; ⟨v, hv, Rep.res hp r⟩⟩
/-! .. and giving it back: it holds a list that is plain from now on -/
theorem Fz.back {a : Addr} (z : Fz β (p :: τ) a) : Fz β τ a := ⟨z.1, fun q => z.2 (List.mem_cons_of_mem _ q)⟩
mutual
theorem Rep.back : ∀ {d : D} {v : V}, Rep K β (p :: τ) H d v → Rep K β τ H d v
  | .non, _, r => by simpa only [Rep] using r
  | .bl _, _, r => by simpa only [Rep] using r
  | .int _, _, r => by simpa only [Rep] using r
  | .str _, _, r => by simpa only [Rep] using r
  | .ty _, _, r => by simpa only [Rep] using r
  | .tup ds, _, r => by
    simp only [Rep] at r ⊢
    obtain ⟨a, vs, rfl, q, t⟩ := r
    refine ⟨a, vs, rfl, ?_, Reps.back t⟩
    rcases q with ⟨q, n⟩ | q
    · exact .inl ⟨q, n.back⟩
    · exact .inr q
  | .lst ds, _, r => by
    simp only [Rep] at r ⊢
    obtain ⟨a, vs, rfl, q, n, t⟩ := r
    exact ⟨a, vs, rfl, q, n.back, Reps.back t⟩
  | .dct kvs, _, r => by
    simp only [Rep] at r ⊢
    obtain ⟨a, rfl, q, n, z⟩ := r
    exact ⟨a, rfl, q, n.back, z⟩
  | .ref i, _, r => by simpa only [Rep] using r
  | .scr ns, _, r => by
    simp only [Rep] at r ⊢
    obtain ⟨a, rfl, q⟩ := r
    refine ⟨a, rfl, ?_⟩
    rcases q with ⟨q, n⟩ | q
    · exact .inl ⟨q, n.back⟩
    · exact .inr q
  | .rcd k ds, _, r => by
    simp only [Rep] at r ⊢
    obtain ⟨a, us, fp, rfl, q, sh, w⟩ := r
    exact ⟨a, us, fp, rfl, fun x hx => let ⟨h1, n, t⟩ := q x hx; ⟨h1, n.back, t⟩, sh, Reps.back w⟩
theorem Reps.back : ∀ {ds : List D} {vs : List V}, Reps K β (p :: τ) H ds vs → Reps K β τ H ds vs
  | [], _, r => by simpa only [Reps] using r
  | d :: ds, _, r => by
    simp only [Reps] at r ⊢
    obtain ⟨v, t, rfl, h1, h2⟩ := r
    exact ⟨v, t, rfl, Rep.back h1, Reps.back h2⟩
end
theorem SRep.back (S : SRep K β (p :: τ) H h) : SRep K β τ H h where
  tab := S.tab
  len := S.len
  nd := S.nd
  at_ := fun i ob a hi ha => by
    have m := S.at_ i ob a hi ha
    cases ob with
    | lst ds => obtain ⟨vs, e, r⟩ := m; exact ⟨vs, e, Reps.back r⟩
  off := fun a ha z => S.off a ha (List.mem_cons_of_mem _ z)
  res := fun a ha => S.res a (List.mem_cons_of_mem _ ha)
theorem ERep.back {σ : L2.St} {ρ : Env} (E : ERep K β (p :: τ) H σ ρ) : ERep K β τ H σ ρ :=
  ⟨E.1, fun i d hi => let ⟨v, hv, r⟩ := E.2 i d hi; ⟨v, hv, Rep.back r⟩⟩
/-- the reserved list grows -/
theorem neT {a : Addr} (hp : p ∈ τ) (n : Fz β τ a) : a ≠ p := by
  intro z; subst z; exact n.2 hp
mutual
theorem Rep.upd {u : HO} (hp : p ∈ τ) : ∀ {d : D} {v : V}, Rep K β τ H d v → Rep K β τ (upd H p u) d v
  | .non, _, r => by simpa only [Rep] using r
  | .bl _, _, r => by simpa only [Rep] using r
  | .int _, _, r => by simpa only [Rep] using r
  | .str _, _, r => by simpa only [Rep] using r
  | .ty _, _, r => by simpa only [Rep] using r
  | .tup ds, _, r => by
    simp only [Rep] at r ⊢
    obtain ⟨a, vs, rfl, q, t⟩ := r
    refine ⟨a, vs, rfl, ?_, Reps.upd hp t⟩
    rcases q with ⟨q, n⟩ | q
    · refine .inl ⟨?_, n⟩
      have ne : a ≠ p := neT hp n
      unfold Rd at q ⊢
      rw [upd_ne ne]; exact q
    · exact .inr q
  | .lst ds, _, r => by
    simp only [Rep] at r ⊢
    obtain ⟨a, vs, rfl, q, n, t⟩ := r
    exact ⟨a, vs, rfl, by rw [upd_ne (neT hp n)]; exact q, n, Reps.upd hp t⟩
  | .dct kvs, _, r => by
    simp only [Rep] at r ⊢
    obtain ⟨a, rfl, q, n, z⟩ := r
    exact ⟨a, rfl, by rw [upd_ne (neT hp n)]; exact q, n, z⟩
  | .ref i, _, r => by simpa only [Rep] using r
  | .scr ns, _, r => by
    simp only [Rep] at r ⊢
    obtain ⟨a, rfl, q⟩ := r
    refine ⟨a, rfl, ?_⟩
    rcases q with ⟨q, n⟩ | q
    · refine .inl ⟨?_, n⟩
      have ne : a ≠ p := neT hp n
      unfold Rd at q ⊢
      rw [upd_ne ne]; exact q
    · exact .inr q
  | .rcd k ds, _, r => by
    simp only [Rep] at r ⊢
    obtain ⟨a, us, fp, rfl, q, sh, w⟩ := r
    exact ⟨a, us, fp, rfl, fun x hx => let ⟨h1, n, t⟩ := q x hx; ⟨by rw [upd_ne (neT hp n)]; exact h1, n, t⟩, sh, Reps.upd hp w⟩
theorem Reps.upd {u : HO} (hp : p ∈ τ) : ∀ {ds : List D} {vs : List V}, Reps K β τ H ds vs → Reps K β τ (upd H p u) ds vs
  | [], _, r => by simpa only [Reps] using r
  | d :: ds, _, r => by
    simp only [Reps] at r ⊢
    obtain ⟨v, t, rfl, h1, h2⟩ := r
    exact ⟨v, t, rfl, Rep.upd hp h1, Reps.upd hp h2⟩
end
theorem SRep.upd {ws : List V} (hp : p ∈ τ) (S : SRep K β τ H h) : SRep K β τ (upd H p (.lst ws)) h where
  tab := tabs_upd S.tab _ (.inr (S.res p hp))
  len := S.len
  nd := S.nd
  at_ := fun i ob a hi ha => by
    have m := S.at_ i ob a hi ha
    have ne : a ≠ p := fun z => S.off a (List.mem_of_getElem? ha) (z ▸ hp)
    cases ob with
    | lst ds => obtain ⟨vs, e, r⟩ := m; exact ⟨vs, by rw [upd_ne ne]; exact e, Reps.upd hp r⟩
  off := S.off
  res := fun a ha => by
    by_cases z : a = p
    · subst z; exact ⟨_, upd_same⟩
    · obtain ⟨u, e⟩ := S.res a ha
      exact ⟨u, by rw [upd_ne z]; exact e⟩
theorem ERep.upd {u : HO} (hp : p ∈ τ) {σ : L2.St} {ρ : Env} (E : ERep K β τ H σ ρ) : ERep K β τ (upd H p u) σ ρ :=
  ⟨E.1, fun i d hi => let ⟨v, hv, r⟩ := E.2 i d hi; ⟨v, hv, Rep.upd hp r⟩⟩
end
/-! ### walks -/
inductive ItK (K : PySem.W.Frag) (β τ : List Addr) (H : Hp) : It → List D → Prop where
  | lst {a : Addr} {vs : List V} {ds : List D} : H a = some (.lst vs) → Fz β τ a → Reps K β τ H ds vs → ItK K β τ H (Itl K a) ds
  | tup {a : Addr} {vs : List V} {ds : List D} : ((Rd H a (.tup vs) ∧ Fz β τ a) ∨ KTup K a vs) → Reps K β τ H ds vs → ItK K β τ H (Itt K a) ds
  | rng (lo : Int) (n : Nat) : ItK K β τ H (Itr lo n) (range lo n)
  | zipL {a b : Addr} {vs us : List V} {ds es : List D} : H a = some (.lst vs) → Fz β τ a → Reps K β τ H ds vs → H b = some (.lst us) → Fz β τ b → Reps K β τ H es us → ItK K β τ H (Itz K a b) (zipD ds es)
  | zipT {a b : Addr} {vs us : List V} {ds es : List D} : ((Rd H a (.tup vs) ∧ Fz β τ a) ∨ KTup K a vs) → Reps K β τ H ds vs → ((Rd H b (.tup us) ∧ Fz β τ b) ∨ KTup K b us) → Reps K β τ H es us → ItK K β τ H (RZ.ItzT K a b) (zipD ds es)
  | enm {a : Addr} {vs : List V} {ds : List D} : H a = some (.lst vs) → Fz β τ a → Reps K β τ H ds vs → ItK K β τ H (Ite K a) (enumD 0 ds)
section
variable {K : PySem.W.Frag} {β τ : List Addr} {H : Hp} {h : Sto}
theorem tpE {β' : List Addr} {H' : Hp} (e : Ext β H β' H') {a : Addr} {vs : List V} (q : (Rd H a (.tup vs) ∧ Fz β τ a) ∨ KTup K a vs) : (Rd H' a (.tup vs) ∧ Fz β' τ a) ∨ KTup K a vs := by
  rcases q with ⟨q, n⟩ | q
  · exact .inl (e.rd q n)
  · exact .inr q
theorem ItK.ext {β' : List Addr} {H' : Hp} {J : It} {ds : List D} (e : Ext β H β' H') (k : ItK K β τ H J ds) : ItK K β' τ H' J ds := by
  cases k with
  | lst q n r => obtain ⟨q', n'⟩ := e.keep _ _ q n.1; exact .lst q' ⟨n', n.2⟩ (Reps.ext e r)
  | tup q r => exact .tup (tpE e q) (Reps.ext e r)
  | rng lo n => exact .rng lo n
  | zipL q n r q2 n2 r2 =>
    obtain ⟨q', n'⟩ := e.keep _ _ q n.1
    obtain ⟨q2', n2'⟩ := e.keep _ _ q2 n2.1
    exact .zipL q' ⟨n', n.2⟩ (Reps.ext e r) q2' ⟨n2', n2.2⟩ (Reps.ext e r2)
  | zipT q r q2 r2 => exact .zipT (tpE e q) (Reps.ext e r) (tpE e q2) (Reps.ext e r2)
  | enm q n r => obtain ⟨q', n'⟩ := e.keep _ _ q n.1; exact .enm q' ⟨n', n.2⟩ (Reps.ext e r)
theorem tpR {p : Addr} {o : HO} (hp : H p = none) {a : Addr} {vs : List V} (q : (Rd H a (.tup vs) ∧ Fz β τ a) ∨ KTup K a vs) : (Rd (upd H p o) a (.tup vs) ∧ Fz β (p :: τ) a) ∨ KTup K a vs := by
  rcases q with ⟨q, n⟩ | q
  · exact .inl (Rd.fz hp q n)
  · exact .inr q
theorem ItK.res {p : Addr} {o : HO} {J : It} {ds : List D} (hp : H p = none) (k : ItK K β τ H J ds) : ItK K β (p :: τ) (upd H p o) J ds := by
  cases k with
  | lst q n r => exact .lst (by rw [upd_ne (ne_of_none q hp)]; exact q) (Fz.res hp q n) (Reps.res hp r)
  | tup q r => exact .tup (tpR hp q) (Reps.res hp r)
  | rng lo n => exact .rng lo n
  | zipL q n r q2 n2 r2 =>
    exact .zipL (by rw [upd_ne (ne_of_none q hp)]; exact q) (Fz.res hp q n) (Reps.res hp r) (by rw [upd_ne (ne_of_none q2 hp)]; exact q2) (Fz.res hp q2 n2) (Reps.res hp r2)
  | zipT q r q2 r2 => exact .zipT (tpR hp q) (Reps.res hp r) (tpR hp q2) (Reps.res hp r2)
  | enm q n r => exact .enm (by rw [upd_ne (ne_of_none q hp)]; exact q) (Fz.res hp q n) (Reps.res hp r)
theorem tpU {p : Addr} {u : HO} (hp : p ∈ τ) {a : Addr} {vs : List V} (q : (Rd H a (.tup vs) ∧ Fz β τ a) ∨ KTup K a vs) : (Rd (upd H p u) a (.tup vs) ∧ Fz β τ a) ∨ KTup K a vs := by
  rcases q with ⟨q, n⟩ | q
  · refine .inl ⟨?_, n⟩
    have ne : a ≠ p := neT hp n
    unfold Rd at q ⊢
    rw [upd_ne ne]; exact q
  · exact .inr q
theorem ItK.upd {p : Addr} {u : HO} {J : It} {ds : List D} (hp : p ∈ τ) (k : ItK K β τ H J ds) : ItK K β τ (upd H p u) J ds := by
  cases k with
  | lst q n r => exact .lst (by rw [upd_ne (neT hp n)]; exact q) n (Reps.upd hp r)
  | tup q r => exact .tup (tpU hp q) (Reps.upd hp r)
  | rng lo n => exact .rng lo n
  | zipL q n r q2 n2 r2 =>
    exact .zipL (by rw [upd_ne (neT hp n)]; exact q) n (Reps.upd hp r) (by rw [upd_ne (neT hp n2)]; exact q2) n2 (Reps.upd hp r2)
  | zipT q r q2 r2 => exact .zipT (tpU hp q) (Reps.upd hp r) (tpU hp q2) (Reps.upd hp r2)
  | enm q n r => exact .enm (by rw [upd_ne (neT hp n)]; exact q) n (Reps.upd hp r)
theorem tpS {a : Addr} {vs : List V} (q : (Rd H a (.tup vs) ∧ Fz β τ a) ∨ KTup K a vs) : SqT K H a vs := q.elim (fun z => .inl z.1) .inr
theorem range_get {lo : Int} {n i : Nat} : (range lo n)[i]? = if i < n then some (.int (lo + (i : Int))) else none := by
  unfold range
  rw [List.getElem?_map]
  by_cases hi : i < n
  · rw [if_pos hi, List.getElem?_range hi]; rfl
  · rw [if_neg hi, List.getElem?_eq_none (by simp; omega)]; rfl
theorem zipD_get : ∀ {ds es : List D} {i : Nat} {d : D}, (zipD ds es)[i]? = some d → ∃ x y, ds[i]? = some x ∧ es[i]? = some y ∧ d = .tup [x, y]
  | [], _, i, d, e => by simp [zipD] at e
  | _ :: _, [], i, d, e => by simp [zipD] at e
  | x :: ds, y :: es, 0, d, e => by simp [zipD] at e; exact ⟨x, y, rfl, rfl, e.symm⟩
  | x :: ds, y :: es, i + 1, d, e => by
    simp only [zipD, List.getElem?_cons_succ] at e
    simpa using zipD_get e
theorem zipD_len : ∀ ds es : List D, (zipD ds es).length = min ds.length es.length
  | [], _ => by simp [zipD]
  | _ :: _, [] => by simp [zipD]
  | x :: ds, y :: es => by simp only [zipD, List.length_cons, zipD_len ds es]; omega
theorem enumD_get : ∀ {ds : List D} {k i : Nat} {d : D}, (enumD k ds)[i]? = some d → ∃ x, ds[i]? = some x ∧ d = .tup [.int ((k + i : Nat) : Int), x]
  | [], k, i, d, e => by simp [enumD] at e
  | x :: ds, k, 0, d, e => by simp [enumD] at e; exact ⟨x, rfl, e.symm⟩
  | x :: ds, k, i + 1, d, e => by
    simp only [enumD, List.getElem?_cons_succ] at e
    obtain ⟨y, h1, h2⟩ := enumD_get e
    exact ⟨y, by simpa using h1, by rw [h2]; congr 4; omega⟩
theorem enumD_len : ∀ (ds : List D) (k : Nat), (enumD k ds).length = ds.length
  | [], _ => rfl
  | x :: ds, k => by simp only [enumD, List.length_cons, enumD_len ds]
theorem ItK.go {J : It} {ds : List D} (k : ItK K β τ H J ds) {i : Nat} (hi : i < ds.length) : J.go i H := by
  cases k with
  | @lst a vs ds q n r =>
    have l := r.length
    exact ⟨vs, vs[i]'(by omega), SqL.of q, by simp [show i < vs.length by omega]⟩
  | @tup a vs ds q r =>
    have l := r.length
    exact ⟨vs, vs[i]'(by omega), tpS q, by simp [show i < vs.length by omega]⟩
  | rng lo n => simpa [range, Itr] using hi
  | @zipL a b vs us ds es q n r q2 n2 r2 =>
    have l := r.length
    have l2 := r2.length
    rw [zipD_len] at hi
    exact ⟨vs, us, vs[i]'(by omega), us[i]'(by omega), SqL.of q, SqL.of q2, by simp [show i < vs.length by omega], by simp [show i < us.length by omega]⟩
  | @zipT a b vs us ds es q r q2 r2 =>
    have l := r.length
    have l2 := r2.length
    rw [zipD_len] at hi
    exact ⟨vs, us, vs[i]'(by omega), us[i]'(by omega), tpS q, tpS q2, by simp [show i < vs.length by omega], by simp [show i < us.length by omega]⟩
  | @enm a vs ds q n r =>
    have l := r.length
    rw [enumD_len] at hi
    exact ⟨vs, vs[i]'(by omega), SqL.of q, by simp [show i < vs.length by omega]⟩
theorem ItK.stop {J : It} {ds : List D} (k : ItK K β τ H J ds) {i : Nat} (hi : ds.length ≤ i) : J.stop i H := by
  cases k with
  | @lst a vs ds q n r => exact ⟨vs, SqL.of q, by have := r.length; omega⟩
  | @tup a vs ds q r => exact ⟨vs, tpS q, by have := r.length; omega⟩
  | rng lo n => simpa [range, Itr] using hi
  | @zipL a b vs us ds es q n r q2 n2 r2 =>
    have l := r.length
    have l2 := r2.length
    rw [zipD_len] at hi
    exact ⟨vs, us, SqL.of q, SqL.of q2, by omega⟩
  | @zipT a b vs us ds es q r q2 r2 =>
    have l := r.length
    have l2 := r2.length
    rw [zipD_len] at hi
    exact ⟨vs, us, tpS q, tpS q2, by omega⟩
  | @enm a vs ds q n r =>
    have l := r.length
    rw [enumD_len] at hi
    exact ⟨vs, SqL.of q, by omega⟩
theorem ItK.yld {J : It} {ds : List D} (k : ItK K β τ H J ds) (S : SRep K β τ H h) {i : Nat} {d : D} {x : V} {H' : Hp} (hd : ds[i]? = some d) (y : J.yld i H x H') : Ext β H β H' ∧ SRep K β τ H' h ∧ Rep K β τ H' d x := by
  cases k with
  | @lst a vs ds q n r =>
    obtain ⟨rfl, f⟩ := y
    obtain ⟨v, hv, rv⟩ := Reps.get r hd
    have e := f vs (SqL.of q)
    rw [hv] at e; cases e
    exact ⟨Ext.refl _ _, S, rv⟩
  | @tup a vs ds q r =>
    obtain ⟨rfl, f⟩ := y
    obtain ⟨v, hv, rv⟩ := Reps.get r hd
    have e := f vs (tpS q)
    rw [hv] at e; cases e
    exact ⟨Ext.refl _ _, S, rv⟩
  | rng lo n =>
    obtain ⟨rfl, rfl⟩ := y
    rw [range_get] at hd
    split at hd
    · cases hd; exact ⟨Ext.refl _ _, S, by simp [Rep]⟩
    · cases hd
  | @zipL a b vs us ds es q n r q2 n2 r2 =>
    obtain ⟨T, x, y, rfl, hT, rfl, f1, f2⟩ := y
    obtain ⟨d1, d2, e1, e2, rfl⟩ := zipD_get hd
    obtain ⟨v, hv, rv⟩ := Reps.get r e1
    obtain ⟨u, hu, ru⟩ := Reps.get r2 e2
    have z1 := f1 vs (SqL.of q)
    have z2 := f2 us (SqL.of q2)
    rw [hv] at z1; cases z1
    rw [hu] at z2; cases z2
    exact new_tup S hT (Reps.cons rv (Reps.cons ru Reps.nil))
  | @zipT a b vs us ds es q r q2 r2 =>
    obtain ⟨T, x, y, rfl, hT, rfl, f1, f2⟩ := y
    obtain ⟨d1, d2, e1, e2, rfl⟩ := zipD_get hd
    obtain ⟨v, hv, rv⟩ := Reps.get r e1
    obtain ⟨u, hu, ru⟩ := Reps.get r2 e2
    have z1 := f1 vs (tpS q)
    have z2 := f2 us (tpS q2)
    rw [hv] at z1; cases z1
    rw [hu] at z2; cases z2
    exact new_tup S hT (Reps.cons rv (Reps.cons ru Reps.nil))
  | @enm a vs ds q n r =>
    obtain ⟨T, x, rfl, hT, rfl, f1⟩ := y
    obtain ⟨d1, e1, rfl⟩ := enumD_get hd
    obtain ⟨v, hv, rv⟩ := Reps.get r e1
    have z1 := f1 vs (SqL.of q)
    rw [hv] at z1; cases z1
    simp only [Nat.zero_add]
    exact new_tup S hT (Reps.cons (by simp [Rep]) (Reps.cons rv Reps.nil))
/-! ### targets -/
theorem ERep.set {σ : L2.St} {ρ : Env} {d : D} {v : V} (E : ERep K β τ H σ ρ) (i : Nat) (r : Rep K β τ H d v) : ERep K β τ H (σ.set i (some v)) (ρ.set i (some d)) := by
  refine ⟨by simp [E.1], fun j e hj => ?_⟩
  by_cases z : i = j
  · subst z
    have hl : i < ρ.length := by
      have := (List.getElem?_eq_some_iff.mp hj).1
      simpa using this
    rw [List.getElem?_set_self hl] at hj
    cases hj
    exact ⟨v, by rw [List.getElem?_set_self (by rw [← E.1]; exact hl)], r⟩
  · rw [List.getElem?_set_ne z] at hj ⊢
    exact E.2 j e hj
theorem ERep.unset {σ : L2.St} {ρ : Env} (E : ERep K β τ H σ ρ) (i : Nat) : ERep K β τ H (σ.set i none) (ρ.set i none) := by
  refine ⟨by simp [E.1], fun j e hj => ?_⟩
  by_cases z : i = j
  · subst z
    have hl : i < ρ.length := by
      have := (List.getElem?_eq_some_iff.mp hj).1
      simpa using this
    rw [List.getElem?_set_self hl] at hj
    cases hj
  · rw [List.getElem?_set_ne z] at hj ⊢
    exact E.2 j e hj
theorem ERep.wipe {σ : L2.St} {ρ : Env} (E : ERep K β τ H σ ρ) : ∀ vs : List Nat, ERep K β τ H (L2.wipe σ vs) (wipeE ρ vs)
  | [] => E
  | v :: vs => by unfold L2.wipe wipeE; exact (ERep.wipe E vs).unset v
end
def gD (K : PySem.W.Frag) : G → TG
  | .name i => gName i
  | .tup2 i j => gTup K 2 (gCons (gName i) (gCons (gName j) gNil))
  | .tup3 i j k => gTup K 3 (gCons (gName i) (gCons (gName j) (gCons (gName k) gNil)))
theorem wipe_set {σ : L2.St} {i : Nat} {v : Option V} : ∀ {vs : List Nat}, i ∈ vs → L2.wipe (σ.set i v) vs = L2.wipe σ vs
  | [], h => by cases h
  | j :: vs, h => by
    unfold L2.wipe
    by_cases z : i = j
    · subst z
      have key : ∀ us : List Nat, (L2.wipe (σ.set i v) us).set i none = (L2.wipe σ us).set i none := by
        intro us
        induction us with
        | nil => unfold L2.wipe; rw [List.set_set]
        | cons u us ih =>
          unfold L2.wipe
          by_cases w : u = i
          · subst w; rw [List.set_set, List.set_set]; exact ih
          · rw [List.set_comm _ _ w, ih, List.set_comm _ _ (Ne.symm w)]
      exact key vs
    · rcases List.mem_cons.mp h with h | h
      · exact absurd h z
      · rw [wipe_set h]
theorem put_ok {K : PySem.W.Frag} {β τ : List Addr} {H : Hp} {g : G} {d : D} {v : V} {σ : L2.St} {ρ ρ' : Env} {Q : L2.St → Hp → Prop} (E : ERep K β τ H σ ρ) (r : Rep K β τ H d v) (e : put g d ρ = some ρ')
    (q : ∀ σ', ERep K β τ H σ' ρ' → (∀ vs : List Nat, (∀ i ∈ g.slots, i ∈ vs) → L2.wipe σ' vs = L2.wipe σ vs) → Q σ' H) : gD K g v σ H Q := by
  unfold put at e
  split at e
  · cases e
    exact q _ (E.set _ r) fun vs hv => wipe_set (hv _ (by simp [G.slots]))
  · cases e
    obtain ⟨a, vs, rfl, ha, r1⟩ := Rep.sqT r
    simp only [Reps] at r1
    obtain ⟨v1, _, rfl, h1, v2, _, rfl, h2, rfl⟩ := r1
    refine ⟨a, _, rfl, ha, rfl, v1, _, rfl, v2, _, rfl, rfl, q _ ((E.set _ h1).set _ h2) fun vs hv => ?_⟩
    rw [wipe_set (hv _ (by simp [G.slots])), wipe_set (hv _ (by simp [G.slots]))]
  · cases e
    obtain ⟨a, vs, rfl, ha, r1⟩ := Rep.sqT r
    simp only [Reps] at r1
    obtain ⟨v1, _, rfl, h1, v2, _, rfl, h2, v3, _, rfl, h3, rfl⟩ := r1
    refine ⟨a, _, rfl, ha, rfl, v1, _, rfl, v2, _, rfl, v3, _, rfl, rfl, q _ (((E.set _ h1).set _ h2).set _ h3) fun vs hv => ?_⟩
    rw [wipe_set (hv _ (by simp [G.slots])), wipe_set (hv _ (by simp [G.slots])), wipe_set (hv _ (by simp [G.slots]))]
  · cases e
end MP

set_option autoImplicit false
set_option Elab.async false
set_option linter.all false
set_option maxRecDepth 100000
set_option maxHeartbeats 1000000
/-! The functional Python is sound: which terms stand for which syntax, and the expressions. -/
namespace MP
open PySem PySem.Spec PyProof.Rows L2

/-! ### a term stands for an expression -/
def noStar : Expr → Bool
  | .Starred .. => false
  | _ => true
def noSet : Expr → Bool
  | .Set .. => false
  | _ => true
def noSlice : Expr → Bool
  | .Slice .. => false
  | _ => true
def isVis (sc : Scope) (x : Str) : Bool := match sc.names.lookup x with
  | some .local => true
  | some .cell => true
  | some .free => true
  | _ => false
def isLoc (sc : Scope) (x : Str) : Bool := match sc.names.lookup x with
  | some .local => true
  | some .cell => true
  | _ => false
def isGl (sc : Scope) (x : Str) : Bool := match sc.names.lookup x with
  | some .globalImplicit => decide (x ≠ "__debug__")
  | _ => false
def ckG (N : List Str) (sc : Scope) : G → Expr → Bool
  | .name i, .Name x _ => decide (N[i]? = some x) && isLoc sc x
  | .tup2 i j, .Tuple [.Name x _, .Name y _] _ _ => decide (N[i]? = some x) && isLoc sc x && (decide (N[j]? = some y) && isLoc sc y)
  | .tup3 i j k, .Tuple [.Name x _, .Name y _, .Name z _] _ _ => decide (N[i]? = some x) && isLoc sc x && (decide (N[j]? = some y) && isLoc sc y) && (decide (N[k]? = some z) && isLoc sc z)
  | _, _ => false
def builtinFns : List Str := ["len", "isinstance", "abs", "max", "min", "sum", "sorted", "all", "any", "repr"]
def builtinTys : List Str := ["int", "str", "list", "tuple"]
def builtinNs : List Str := builtinFns ++ builtinTys ++ (["range", "zip", "enumerate", "bool", "dict", "set"] : List Str)
def ckDic (kvs : List (Int × Int)) (ks : List (Option Expr)) (vs : List Expr) : Bool := match kvs, ks, vs with
  | [], [], [] => true
  | [(k, v)], [some (.Constant (.int i) _ _)], [.Constant (.int j) _ _] => decide (k = i) && decide (v = j)
  | _, _, _ => false
/-- no parameters, no defaults -/
def noPar (ps : Arguments) : Bool := ps.posonlyargs.isEmpty && ps.args.isEmpty && ps.vararg.isNone && ps.kwonlyargs.isEmpty && ps.kw_defaults.isEmpty && ps.kwarg.isNone && ps.defaults.isEmpty
mutual
def ck (N : List Str) (cs : List (Str × Int)) (sc : Scope) : C → Expr → Bool
  | .var i, e0 => (match e0 with | .Name x _ => decide (N[i]? = some x) && isVis sc x && decide (x ≠ "__debug__") && decide (x ≠ "__classdict__") | _ => false)
  | .con y i, e0 => (match e0 with | .Name x _ => decide (y = x) && isGl sc x && decide (cs.lookup x = some i) | _ => false)
  | .typ y n, e0 => (match e0 with | .Name x _ => decide (y = x) && isGl sc x && decide (x ∈ builtinNs) && (match bootBuiltins x with | some (.type m) => decide (m = n) | _ => false) | _ => false)
  | .int i, e0 => (match e0 with | .Constant (.int j) _ _ => decide (i = j) | _ => false)
  | .str s, e0 => (match e0 with | .Constant (.str t) _ _ => decide (s = t) | _ => false)
  | .bl s, e0 => (match e0 with | .Constant (.bool t) _ _ => decide (s = t) | _ => false)
  | .non, e0 => (match e0 with | .Constant .none _ _ => true | _ => false)
  | .bin op a b, e0 => (match e0 with | .BinOp x op' y _ => decide (op = op') && ck N cs sc a x && ck N cs sc b y | _ => false)
  | .neg a, e0 => (match e0 with | .UnaryOp .USub x _ => ck N cs sc a x | _ => false)
  | .inv a, e0 => (match e0 with | .UnaryOp .Invert x _ => ck N cs sc a x | _ => false)
  | .cmp op a b, e0 => (match e0 with | .Compare x [op'] [y] _ => decide (op = op') && noSet y && ck N cs sc a x && ck N cs sc b y | _ => false)
  | .chn op1 op2 a b c, e0 => (match e0 with | .Compare x [o1, o2] [y, z] _ => decide (op1 = o1) && decide (op2 = o2) && noSet z && ck N cs sc a x && ck N cs sc b y && ck N cs sc c z | _ => false)
  | .and es, e0 => (match e0 with | .BoolOp .And xs _ => cks N cs sc es xs | _ => false)
  | .or es, e0 => (match e0 with | .BoolOp .Or xs _ => cks N cs sc es xs | _ => false)
  | .not a, e0 => (match e0 with | .UnaryOp .Not x _ => ck N cs sc a x | _ => false)
  | .ite t a b, e0 => (match e0 with | .IfExp x y z _ => ck N cs sc t x && ck N cs sc a y && ck N cs sc b z | _ => false)
  | .tup es, e0 => (match e0 with | .Tuple xs _ _ => cks N cs sc es xs | _ => false)
  | .lst es, e0 => (match e0 with | .List xs _ => cks N cs sc es xs | _ => false)
  | .idx a b, e0 => (match e0 with | .Subscript x y _ => noSlice y && ck N cs sc a x && ck N cs sc b y | _ => false)
  | .slc a lo hi, e0 => (match e0 with | .Subscript x (.Slice l u none _) _ => ck N cs sc a x && ckO N cs sc lo l && ckO N cs sc hi u | _ => false)
  | .rev a, e0 => (match e0 with | .Subscript x (.Slice none none (some (.UnaryOp .USub (.Constant (.int 1) _ _) _)) _) _ => ck N cs sc a x | _ => false)
  | .call f es, e0 => (match e0 with | .Call (.Name x _) xs [] _ => decide (f = x) && isGl sc x && cks N cs sc es xs && !xs.isEmpty | _ => false)
  | .blt f es, e0 => (match e0 with | .Call (.Name x _) xs [] _ => decide (f = x) && isGl sc x && (decide (x ∈ builtinFns) || decide (x ∈ builtinTys)) && cks N cs sc es xs && !xs.isEmpty | _ => false)
  | .mth m o es, e0 => (match e0 with | .Call (.Attribute (.Name x p1) y p2) xs [] p => decide (m = y) && ck N cs sc o (.Name x p1) && cks N cs sc es xs && decide (xs.length = 1) && (p2.endLine == p.line) && (decide (m = "append") || decide (m = "extend") || decide (m = "pop")) | _ => false)
  | .lrng a, e0 => (match e0 with | .Call (.Name x _) [.Call (.Name y _) [e] [] _] [] _ => decide (x = "list") && isGl sc x && decide (y = "range") && isGl sc y && noStar e && ck N cs sc a e | _ => false)
  | .dic kvs, e0 => (match e0 with | .Dict ks vs _ => ckDic kvs ks vs | _ => false)
  | .com own elt tg it ifs, e0 => (match e0 with | .ListComp e [⟨tg', it', fs, 0⟩] sc' _ => blkC N sc sc' own && ckI N cs sc it tg' it' && noSet it' && ckG N sc' tg tg' && (tg.slots.all fun i => (own.map (·.2)).contains i) && ck N cs sc' elt e && ckF N cs sc' ifs fs | _ => false)
  | .lamc f e, e0 => (match e0 with | .Call (.Name x _) [.Lambda ps b sc' _] [] _ => decide (f = x) && isGl sc x && noPar ps && LamX.lamSB sc sc' && ck N cs sc' e b | _ => false)
  | .act i, e0 => (match e0 with | .Call (.Name x _) [] [] _ => decide (N[i]? = some x) && isVis sc x && decide (x ≠ "__debug__") && decide (x ≠ "__classdict__") | _ => false)
  | .xf o f, e0 => (match e0 with | .Attribute (.Name x p) y _ => decide (f = y) && ck N cs sc o (.Name x p) | _ => false)
  | .isi o c, e0 => (match e0 with | .Call (.Name x _) [a, .Name y _] [] _ => decide (x = "isinstance") && isGl sc x && (decide (y = c) && isGl sc y) && noStar a && ck N cs sc o a | _ => false)
  | .srs _, _ => false
def cks (N : List Str) (cs : List (Str × Int)) (sc : Scope) : Cs → List Expr → Bool
  | .nil, e0 => (match e0 with | [] => true | _ => false)
  | .cons c r, e0 => (match e0 with | x :: xs => noStar x && ck N cs sc c x && cks N cs sc r xs | _ => false)
def ckO (N : List Str) (cs : List (Str × Int)) (sc : Scope) : C' → Option Expr → Bool
  | .no, e0 => (match e0 with | none => true | _ => false)
  | .yes c, e0 => (match e0 with | some x => ck N cs sc c x | _ => false)
def ckF (N : List Str) (cs : List (Str × Int)) (sc : Scope) : C' → List Expr → Bool
  | .no, e0 => (match e0 with | [] => true | _ => false)
  | .yes c, e0 => (match e0 with | [x] => ck N cs sc c x | _ => false)
def ckI (N : List Str) (cs : List (Str × Int)) (sc : Scope) : I → Expr → Expr → Bool
  | .of c, _, x => ck N cs sc c x
  | .rng1 a, t0, e0 => (match t0, e0 with | _, .Call (.Name x _) [e] [] _ => decide (x = "range") && isGl sc x && noStar e && ck N cs sc a e | _, _ => false)
  | .rng2 a b, t0, e0 => (match t0, e0 with | _, .Call (.Name x _) [e, f] [] _ => decide (x = "range") && isGl sc x && noStar e && noStar f && ck N cs sc a e && ck N cs sc b f | _, _ => false)
  | .zip a b, t0, e0 => (match t0, e0 with | .Tuple _ _ _, .Call (.Name x _) [e, f] [] _ => decide (x = "zip") && isGl sc x && noStar e && noStar f && ck N cs sc a e && ck N cs sc b f | _, _ => false)
  | .enum a, t0, e0 => (match t0, e0 with | .Tuple _ _ _, .Call (.Name x _) [e] [] _ => decide (x = "enumerate") && isGl sc x && noStar e && ck N cs sc a e | _, _ => false)
end
theorem vis_of {sc : Scope} {x : Str} (h : isVis sc x = true) : Vis sc x := by
  unfold isVis at h
  split at h
  · exact .inl (by assumption)
  · exact .inr (.inl (by assumption))
  · exact .inr (.inr (by assumption))
  · cases h
theorem loc_of {sc : Scope} {x : Str} (h : isLoc sc x = true) : Loc sc x := by
  unfold isLoc at h
  split at h
  · exact .inl (by assumption)
  · exact .inr (by assumption)
  · cases h
theorem gl_of {sc : Scope} {x : Str} (h : isGl sc x = true) : sc.names.lookup x = some .globalImplicit ∧ (x == ("__debug__" : Str)) = false := by
  unfold isGl at h
  split at h
  · exact ⟨by assumption, by simpa using h⟩
  · cases h
theorem star_cons {e : Expr} {es : List Expr} {env : PySem.Env} (h : noStar e = true) : starEach (e :: es) env = (false, eval e env) :: starEach es env := by
  cases e <;> first | rfl | (simp [noStar] at h)
theorem star_any {env : PySem.Env} {pos : Pos} : ∀ {es : List Expr}, es.all noStar = true → (backTo pos (starEach es env)).any (·.1) = false
  | [], _ => rfl
  | e :: es, h => by
    simp only [List.all_cons, Bool.and_eq_true] at h
    rw [star_cons h.1]
    have := star_any (env := env) (pos := pos) h.2
    unfold backTo at this ⊢
    rw [List.map_cons, List.any_cons, this]; rfl
theorem cks_cons {N : List Str} {cs : List (Str × Int)} {sc : Scope} {c : C} {r : Cs} {e : List Expr} (h : cks N cs sc (.cons c r) e = true) : ∃ x xs, e = x :: xs ∧ noStar x = true ∧ ck N cs sc c x = true ∧ cks N cs sc r xs = true := by
  cases e with
  | nil => simp [cks] at h
  | cons x xs =>
    unfold cks at h
    simp only [Bool.and_eq_true] at h
    exact ⟨x, xs, rfl, h.1.1, h.1.2, h.2⟩
theorem cks_star {N : List Str} {cs : List (Str × Int)} {sc : Scope} : ∀ {cl : Cs} {es : List Expr}, cks N cs sc cl es = true → es.all noStar = true
  | .nil, [], _ => rfl
  | .cons c r, e :: es, h => by
    simp only [cks, Bool.and_eq_true] at h
    simp only [List.all_cons, Bool.and_eq_true]
    exact ⟨h.1.1, cks_star h.2⟩
  | .nil, _ :: _, h => by simp [cks] at h
  | .cons _ _, [], h => by simp [cks] at h
theorem nobe {op : CmpOp} {e : Expr} (h : noSet e = true) : behindInMarks op e = false := by
  cases e <;> first | rfl | (simp [noSet] at h)
theorem nofold {e : Expr} {env : PySem.Env} (h : noSet e = true) : ∀ x, foldedSetIterable e env x = pure x := by
  intro x
  cases e <;> first | rfl | (simp [noSet] at h)
theorem plainix {e : Expr} (h : noSlice e = true) : PlainIx e := by
  intro o i
  cases e <;> first | rfl | (simp [noSlice] at h)

/-! ### defs that are called -/
structure FnG (P : Program) (w : World) (K : PySem.W.Frag) (mg : Str → Option Value) (base : Heap) (k : Nat) (f : Addr) (fd : FuncData) (ps : List Str) (sp : Sp) : Prop where
  len : ∀ vs H Q E, sp vs H Q E → vs.length = ps.length
  run : ∀ (A : Around) (fr : List PySem.Env) (s : Shared) (H : Hp) (as : Args) (us : List Value) (vs : List V) (Q : VK) (E : XK), A.guards = some [] → Room k A → Env0 P w K mg base A fr s H → BindsTo s fd as (ps.zip us) → Vals vs us → sp vs H Q E →
    codeAny (model P w) A (.call (.ref f) as) (CR (L2.CX P w) fr P w H s Q E) s
def spD (K : PySem.W.Frag) (mg : Str → Option Value) (call : Calls) (f : Str) (m : Nat) : Sp := fun vs H Q E => ∃ β τ ds h, Reps K β τ H ds vs ∧ ds.length = m ∧ SRep K β τ H h ∧
  match call f ds h with
  | .ok d h' => ∀ β' H' v, Ext β H β' H' → SRep K β' τ H' h' → Rep K β' τ H' d v → Q v H'
  | .exc x h' => ∀ β' H' cls dd, Ext β H β' H' → SRep K β' τ H' h' → XRep mg K β' τ H' x cls dd → E cls dd H'
  | .bad => False
def FnC (P : Program) (w : World) (K : PySem.W.Frag) (mg : Str → Option Value) (base : Heap) (k : Nat) (call : Calls) (f : Str) : Prop :=
  ∃ (a : Addr) (fd : FuncData) (ps : List Str), mg f = some (.ref a) ∧ PySem.W.keepIn K (.ref a) = true ∧ FnG P w K mg base k a fd ps (spD K mg call f ps.length) ∧ Binds K fd ps [] ∧ ∀ ds h, call f ds h ≠ .bad → ds.length = ps.length
/-- what is known of the classes of the text -/
structure ClsOk (K : PySem.W.Frag) (mg : Str → Option Value) (call : Calls) : Prop where
  isx : ∀ c c' b, call.isx c c' = some b → mg c = some (.ref (He.ga K c)) ∧ L2.ExcC K (He.ga K c) ∧ (c' == ("__debug__" : Str)) = false ∧
    ∃ cv, ((mg c' = some cv ∧ cv = .ref (He.ga K c')) ∨ (mg c' = none ∧ bootBuiltins c' = some cv ∧ c' ≠ "__name__" ∧ ∃ n, cv = .type n)) ∧ PySem.W.exmOne K (.ref (He.ga K c)) cv = some b ∧ PySem.W.kitOne K (.ref (He.ga K c)) cv = some b
  fld : ∀ c f, call.fld c f = true → XfC K (He.ga K c) ∧ PySem.W.findIn K (.ref (He.ga K c)) f = some none
/-- the end of a call of a def with a lambda -/
def PostC (K : PySem.W.Frag) (mg : Str → Option Value) (β τ : List Addr) (H : Hp) (Q : VK) (E : XK) : R D → Prop
  | .ok d h' => ∀ β' H' v, Ext β H β' H' → SRep K β' τ H' h' → Rep K β' τ H' d v → Q v H'
  | .exc x h' => ∀ β' H' cls dd, Ext β H β' H' → SRep K β' τ H' h' → XRep mg K β' τ H' x cls dd → E cls dd H'
  | .bad => False
/-- a() in the def that has got the lambda f: the reading -/
def tAct (Z : Cx) (W : WX) (i : Nat) (f c : Addr) (q : Str) (us : List V) (t : List D → Sto → R D) : TE := fun σ H Q => σ[i]? = some (some (.ref f)) ∧ H c = some (LamX.CodeO c q) ∧
  ∃ β τ ds h, SRep Z.K β τ H h ∧ Reps Z.K β τ H ds us ∧ PostG Z W β τ H σ (repV Z τ) Q (t ds h)
/-- a def whose one parameter is a lambda -/
structure LamG (P : Program) (w : World) (K : PySem.W.Frag) (mg : Str → Option Value) (base : Heap) (k : Nat) (call : Calls) (x : Str) (g : Addr) (fd : FuncData) (nm : Str) : Prop where
  run : ∀ (A : Around) (fr : List PySem.Env) (s : Shared) (H : Hp) (as : Args) (f c : Addr) (q : Str) (us : List V) (ds : List D) (t : List D → Sto → R D) (β τ : List Addr) (h : Sto) (Q : VK) (E : XK),
    A.guards = some [] → Room k A → Env0 P w K mg base A fr s H → BindsTo s fd as [(nm, .ref f)] → SRep K β τ H h → Reps K β τ H ds us → H c = some (LamX.CodeO c q) → Fz β τ c →
    (∀ (Ng : List Str) (qg : Str) (sg : Scope) (cdg : Value) (i : Nat) (y : Str) (pn : List (Addr × Obj)) (xe : Value → Shared → Prop) (W : WX) (p1 p2 : Pos), Ng[i]? = some y → Vis sg y → (y == ("__debug__" : Str)) = false → (y == ("__classdict__" : Str)) = false →
      Takes ((cxOf (L2.CX P w) P w K mg base Ng qg sg g cdg A fr s H E).tr pn xe) W → PE ((cxOf (L2.CX P w) P w K mg base Ng qg sg g cdg A fr s H E).tr pn xe) (.Call (.Name y p1) [] [] p2) (tAct ((cxOf (L2.CX P w) P w K mg base Ng qg sg g cdg A fr s H E).tr pn xe) W i f c q us t)) →
    PostC K mg β τ H Q E (call.lam x f c q us ds t h) → codeAny (model P w) A (.call (.ref g) as) (CR (L2.CX P w) fr P w H s Q E) s
def LamC (P : Program) (w : World) (K : PySem.W.Frag) (mg : Str → Option Value) (base : Heap) (k : Nat) (call : Calls) (x : Str) : Prop :=
  ∃ (g : Addr) (fd : FuncData) (nm : Str), mg x = some (.ref g) ∧ PySem.W.keepIn K (.ref g) = true ∧ LamG P w K mg base k call x g fd nm ∧ Binds K fd [nm] []
/-- a context's code object has a table for its lambdas -/
def LamTab (X : Cx) : Prop := ∃ c P, LamX.TabB X.base X.mg c P ∧ X.env.code = .ref c ∧ (P, X.env.qual ++ "<lambda>") ∈ lamT X.K ∧ ∀ p ∈ lamT X.K, p.1 = P → p.2 = X.env.qual ++ "<lambda>"
/-- what is known where a body runs -/
structure Good (X : Cx) (W : WX) (call : Calls) (fs : List Str) (cs : List (Str × Int)) (k : Nat) (N : List Str) (sc : Scope) : Prop where
  hN : X.N = N
  vis : ∀ x, isVis sc x = true → Vis X.env.scope x
  gl : ∀ x, isGl sc x = true → Gl X x
  loc : ∀ x, isLoc sc x = true → Loc X.env.scope x ∧ (X.fn x = true ∨ X.env.scope.names.lookup x = some .local)
  fre : ∀ x, (sc.names.lookup x = some .cell ∨ sc.names.lookup x = some .free) → (X.env.scope.names.lookup x = some .cell ∨ X.env.scope.names.lookup x = some .free)
  nd : N.Nodup
  calm : X.calm = true
  tk : Takes X W
  own : PassesOwn (model X.prog X.w) X.A X.env X.xe
  gd : X.A.guards = some []
  rm : Room k X.A
  blt : ∀ x ∈ builtinNs, X.mg x = none
  con : ∀ x i, cs.lookup x = some i → ∃ t, X.mg x = some (.int i t)
  fns : ∀ f ∈ fs, FnC X.prog X.w X.K X.mg X.base k call f
  cls : ClsOk X.K X.mg call
  lam : ∀ x f c q us ds t h, call.lam x f c q us ds t h ≠ .bad → Room (k + 2) X.A ∧ LamC X.prog X.w X.K X.mg X.base k call x ∧ LamTab X
  act : ∀ i x p1 p2, N[i]? = some x → isVis sc x = true → (x == ("__debug__" : Str)) = false → (x == ("__classdict__" : Str)) = false → PE X (.Call (.Name x p1) [] [] p2) (tD X W (ev call (.act i)))
theorem Good.pg {X : Cx} {W : WX} {call : Calls} {fs : List Str} {cs : List (Str × Int)} {k : Nat} {N : List Str} {sc : Scope} (g : Good X W call fs cs k N sc) {x : Str} {i : Nat} {pos : Pos} (hi : N[i]? = some x) (h : isLoc sc x = true) : PG X (.Name x pos) (gName i) := by
  exact pg_name (by rw [g.hN]; exact g.nd) (by rw [g.hN]; exact hi) (g.loc x h).1 (g.loc x h).2
theorem Good.tg {X : Cx} {W : WX} {call : Calls} {fs : List Str} {cs : List (Str × Int)} {k : Nat} {N : List Str} {sc : Scope} (g : Good X W call fs cs k N sc) {t : G} {e : Expr} (h : ckG N sc t e = true) : PG X e (gD X.K t) := by
  unfold ckG at h
  split at h
  · simp only [Bool.and_eq_true, decide_eq_true_eq] at h
    exact g.pg h.1 h.2
  · simp only [Bool.and_eq_true, decide_eq_true_eq] at h
    exact pg_tup g.calm (pgs_cons (g.pg h.1.1 h.1.2) (pgs_cons (g.pg h.2.1 h.2.2) pgs_nil))
  · simp only [Bool.and_eq_true, decide_eq_true_eq] at h
    exact pg_tup g.calm (pgs_cons (g.pg h.1.1.1 h.1.1.2) (pgs_cons (g.pg h.1.2.1 h.1.2.2) (pgs_cons (g.pg h.2.1 h.2.2) pgs_nil)))
  · cases h
/-- a call of a def -/
theorem pe_callG {X : Cx} {W : WX} {k : Nat} {f : Addr} {fd : FuncData} {ps : List Str} {sp : Sp} {x : Str} {p pos : Pos} {e : Expr} {es : List Expr} {t : TA} (F : FnG X.prog X.w X.K X.mg X.base k f fd ps sp) (hA : X.A.guards = some []) (room : Room k X.A)
    (glo : Gl X x) (nd : (x == ("__debug__" : Str)) = false) (mf : X.mg x = some (.ref f)) (kf : PySem.W.keepIn X.K (.ref f) = true) (bd : Binds X.K fd ps []) (tk : Takes X W) (as : PA X (e :: es) t) (st : (e :: es).all noStar = true) :
    PE X (.Call (.Name x p) (e :: es) [] pos) (fun σ H Q => t σ H fun vs H1 => sp vs H1 Q fun c d H' => W c d σ H') := by
  simp only [List.all_cons, Bool.and_eq_true] at st
  refine ⟨fun pins s0 σ H Q J go => ?_⟩
  refine wpAny_Call_Name_kw (ld_glob J glo mf ?_ nd)
  refine PySem.W.callWith_K (h₀ := X.base) J.ok.mod.kin kf (thn (as.run pos pins s0 σ H _ J go) fun us s1 ⟨vs, H1, J1, rv, said⟩ => ⟨J1.kIn, ?_⟩) (star_cons st.1) (star_any st.2)
  have many : (us ++ ([] : List Value)).length = ps.length := by
    rw [List.append_nil, ← rv.length]
    exact F.len _ _ _ _ said
  have bound := bd s1 us J1.kIn many
  rw [List.append_nil] at bound
  refine wpAny_call (codeAny_mono (F.run X.A X.stack s1 H1 ⟨us, []⟩ us vs Q _ hA room J1.env0 bound rv said) fun r s2 got => ?_)
  cases r with
  | error v => exact L2.passAt tk σ pins H1 s1 v s2 J1 got
  | ok fl =>
    cases fl with
    | ret u => exact J1.after got
    | _ => exact got.elim
end MP

set_option autoImplicit false
set_option Elab.async false
set_option linter.all false
set_option maxRecDepth 100000
set_option maxHeartbeats 1000000
/-! The functional Python is sound: the expressions. -/
namespace MP
open PySem PySem.Spec PyProof.Rows L2
section
variable {X : Cx} {W : WX} {call : Calls} {fs : List Str} {cs : List (Str × Int)} {k : Nat} {N : List Str} {sc : Scope}
theorem Good.b {x : Str} (g : Good X W call fs cs k N sc) (h : x ∈ builtinNs) : X.mg x = none := g.blt x h
theorem scal {β τ : List Addr} {H : Hp} {σ : L2.St} {h : Sto} {d : D} {v : V} {Q : VK} (S : SRep X.K β τ H h) (r : Rep X.K β τ H d v) (p : PostG X W β τ H σ (repV X τ) Q (.ok d h)) : Q v H := p β H v (Ext.refl _ _) S r
/-- the reading of an operator of two places -/
theorem tOp_D {ma mb : Env → Sto → R D} {op : D → D → Option D} {σ : L2.St} {H : Hp} {Q : VK} (h : tD X W (fun ρ h => (ma ρ h).bind fun x h => (mb ρ h).bind fun y h => R.of (op (deref h x) (deref h y)) h) σ H Q) :
    tOp (rD X op) (tD X W ma) (tD X W mb) σ H Q := by
  obtain ⟨β, τ, ρ, h, R0, p⟩ := h
  refine ⟨β, τ, ρ, h, R0, (PostG.bind (repV X τ) p).wk fun v H1 ⟨β1, x, h1, e1, s1, r1, p1⟩ => ?_⟩
  refine ⟨β1, τ, ρ, h1, R0.ext e1 s1, (PostG.bind (repV X τ) p1).wk fun u H2 ⟨β2, y, h2, e2, s2, r2, p2⟩ => ?_⟩
  cases o : op (deref h2 x) (deref h2 y) with
  | none => rw [o] at p2; exact p2.elim
  | some d =>
    rw [o] at p2
    exact ⟨β2, τ, h2, x, y, d, s2, r1.ext e2, r2, o, fun H' v e s r => p2 β2 H' v e s r⟩
theorem tCB_D {ms : Env → Sto → R (List D)} {op : List D → Option D} {σ : L2.St} {H : Hp} {Q : VK} (h : tD X W (fun ρ h => (ms ρ h).bind fun xs h => R.of (op (xs.map (deref h))) h) σ H Q) :
    tCB (rDs X op) (tDA X W ms) σ H Q := by
  obtain ⟨β, τ, ρ, h, R0, p⟩ := h
  refine ⟨β, τ, ρ, h, R0, (PostG.bind (repL X τ) p).wk fun v H1 ⟨β1, xs, h1, e1, s1, r1, p1⟩ => ?_⟩
  cases o : op (xs.map (deref h1)) with
  | none => rw [o] at p1; exact p1.elim
  | some d =>
    rw [o] at p1
    exact ⟨β1, τ, h1, xs, d, s1, r1, o, fun H' v e s r => p1 β1 H' v e s r⟩
/-- a value's truth -/
theorem truV_of {β τ : List Addr} {H : Hp} {d : D} {v : V} {b : Bool} (r : RepR X.K β τ H d v) (e : truD d = some b) : TruV X.K v H b := by
  cases d with
  | non => simp only [RepR, Rep] at r; subst r; cases e; rfl
  | bl c => simp only [RepR, Rep] at r; subst r; cases e; rfl
  | int c => simp only [RepR, Rep] at r; subst r; cases e; rfl
  | str c =>
    simp only [RepR, Rep] at r; subst r
    simp only [truD] at e
    split at e
    · rename_i hz; cases e; exact ⟨hz, rfl⟩
    · cases e
  | tup xs =>
    obtain ⟨a, vs, rfl, ha, r1⟩ := r.tup
    cases e
    refine .inr (.inl ⟨vs, ha, ?_⟩)
    have l := r1.length
    cases xs <;> cases vs <;> simp_all
  | lst xs =>
    obtain ⟨a, vs, rfl, ha, r1⟩ := r
    cases e
    refine .inl ⟨vs, SqL.of ha, ?_⟩
    have l := r1.length
    cases xs <;> cases vs <;> simp_all
  | ty _ => cases e
  | dct _ => cases e
  | ref _ => cases e
  | scr _ => cases e
  | rcd _ _ => cases e
theorem truth_D {m : Env → Sto → R D} {σ : L2.St} {H : Hp} {Q : Bool → Hp → Prop} (h : tDT X W (fun ρ h => (m ρ h).bind fun x h => R.of (truD (deref h x)) h) σ H Q) :
    tD X W m σ H fun x H' => ∃ b, TruV X.K x H' b ∧ Q b H' := by
  obtain ⟨β, τ, ρ, h, R0, p⟩ := h
  refine ⟨β, τ, ρ, h, R0, (PostG.bind (repV X τ) p).wk fun v H1 ⟨β1, x, h1, e1, s1, r1, p1⟩ => ?_⟩
  cases o : truD (deref h1 x) with
  | none => rw [o] at p1; exact p1.elim
  | some b =>
    rw [o] at p1
    exact ⟨b, truV_of (deref_rep s1 r1) o, p1 β1 H1 b (Ext.refl _ _) s1 rfl⟩
theorem bool_of {β τ : List Addr} {H : Hp} {b : Bool} {v : V} (r : Rep X.K β τ H (.bl b) v) : v = .bl b := by simpa only [Rep] using r
theorem int_of {β τ : List Addr} {H : Hp} {b : Int} {v : V} (r : Rep X.K β τ H (.int b) v) : v = .int b := by simpa only [Rep] using r
/-- the chain a op b op' c -/
theorem tChain_D {ma mb mc : Env → Sto → R D} {f g : D → D → Option Bool} {σ : L2.St} {H : Hp} {Q : VK}
    (h : tD X W (fun ρ h => (ma ρ h).bind fun x h => (mb ρ h).bind fun y h => match f (deref h x) (deref h y) with
      | some true => (mc ρ h).bind fun z h => R.of ((g (deref h y) (deref h z)).map .bl) h
      | some false => .ok (.bl false) h
      | none => .bad) σ H Q) :
    tChain (rD X fun x y => (f x y).map .bl) (rD X fun x y => (g x y).map .bl) (tD X W ma) (tD X W mb) (tD X W mc) σ H Q := by
  obtain ⟨β, τ, ρ, h, R0, p⟩ := h
  refine ⟨β, τ, ρ, h, R0, (PostG.bind (repV X τ) p).wk fun v H1 ⟨β1, x, h1, e1, s1, r1, p1⟩ => ?_⟩
  refine ⟨β1, τ, ρ, h1, R0.ext e1 s1, (PostG.bind (repV X τ) p1).wk fun u H2 ⟨β2, y, h2, e2, s2, r2, p2⟩ => ?_⟩
  cases o : f (deref h2 x) (deref h2 y) with
  | none => rw [o] at p2; exact p2.elim
  | some b =>
    rw [o] at p2
    refine ⟨β2, τ, h2, x, y, .bl b, s2, r1.ext e2, r2, by simp [o], fun H3 w e3 s3 r3 => ⟨b, bool_of r3, ?_⟩⟩
    cases b with
    | false =>
      rw [if_neg Bool.false_ne_true]
      exact p2 β2 H3 (.bl false) e3 s3 (by simp [Rep])
    | true =>
      rw [if_pos rfl]
      have p3 := PostG.mono e3 p2
      refine ⟨β2, τ, ρ, h2, ((R0.ext e1 s1).ext e2 s2).ext e3 s3, (PostG.bind (repV X τ) p3).wk fun u4 H4 ⟨β4, z, h4, e4, s4, r4, p4⟩ => ?_⟩
      cases o2 : g (deref h4 y) (deref h4 z) with
      | none => rw [o2] at p4; exact p4.elim
      | some b2 =>
        rw [o2] at p4
        exact ⟨β4, τ, h4, y, z, .bl b2, s4, (r2.ext e3).ext e4, r4, by simp [o2], fun H' v e s r => p4 β4 H' v e s r⟩
/-- a test of a comparison's value -/
theorem test_D {op : D → D → Option Bool} {ma mb : Env → Sto → R D} {σ : L2.St} {H : Hp} {Q : Bool → Hp → Prop} (h : tDT X W (fun ρ h => (ma ρ h).bind fun x h => (mb ρ h).bind fun y h => R.of (op (deref h x) (deref h y)) h) σ H Q) :
    tTest (tOp (rD X fun x y => (op x y).map .bl) (tD X W ma) (tD X W mb)) σ H Q := by
  obtain ⟨β, τ, ρ, h, R0, p⟩ := h
  refine ⟨β, τ, ρ, h, R0, (PostG.bind (repV X τ) p).wk fun v H1 ⟨β1, x, h1, e1, s1, r1, p1⟩ => ?_⟩
  refine ⟨β1, τ, ρ, h1, R0.ext e1 s1, (PostG.bind (repV X τ) p1).wk fun u H2 ⟨β2, y, h2, e2, s2, r2, p2⟩ => ?_⟩
  cases o : op (deref h2 x) (deref h2 y) with
  | none => rw [o] at p2; exact p2.elim
  | some b =>
    rw [o] at p2
    exact ⟨β2, τ, h2, x, y, .bl b, s2, r1.ext e2, r2, by simp [o], fun H' v e s r => ⟨b, bool_of r, p2 β2 H' b e s rfl⟩⟩
end
end MP

set_option autoImplicit false
set_option Elab.async false
set_option linter.all false
set_option maxRecDepth 100000
set_option maxHeartbeats 1000000
/-! The functional Python is sound: comprehensions. -/
namespace MP
open PySem PySem.Spec PyProof.Rows L2
section
variable (X : Cx) (W : WX) (β τ : List Addr) (H : Hp) (σ : L2.St)
/-- the end of an expression that makes a new list: it is told as new -/
def PostFr (Q : VK) : R D → Prop
  | .ok (.lst xs) h' => ∀ β' H' p vs, FrT H p → Ext β H β' H' → SRep X.K β' (p :: τ) H' h' → H' p = some (.lst vs) → Reps X.K β' (p :: τ) H' xs vs → Q (.ref p) H'
  | .exc x h' => ∀ β' H' cls dd, Ext β H β' H' → SRep X.K β' τ H' h' → XRep X.mg X.K β' τ H' x cls dd → W cls dd σ H'
  | _ => False
end
theorem Ext.frt {β β1 τ : List Addr} {H H1 : Hp} {K : PySem.W.Frag} {h1 : Sto} (e : Ext β H β1 H1) (S : SRep K β1 τ H1 h1) {p : Addr} (hp : FrT H1 p) : FrT H p := fun o q => by
  by_cases hb : p ∈ β
  · obtain ⟨t, rfl⟩ := e.pre
    obtain ⟨vs, z⟩ := S.lst_of (List.mem_append_left t hb)
    obtain ⟨ps, y⟩ := hp _ z
    cases y
  · by_cases t : ∃ ps, o = .tbl ps
    · exact t
    · exact hp o (e.keepN p o q hb fun ps z => t ⟨ps, z⟩).1
theorem PostFr.mono {X : Cx} {W : WX} {β β1 τ : List Addr} {H H1 : Hp} {σ : L2.St} {Q : VK} {r : R D} {h1 : Sto} (e : Ext β H β1 H1) (S : SRep X.K β1 τ H1 h1) (p : PostFr X W β τ H σ Q r) : PostFr X W β1 τ H1 σ Q r := by
  cases r with
  | ok a h =>
    cases a with
    | lst xs => intro β' H' p' vs hp e' s hv rv; exact p β' H' p' vs (e.frt S hp) (e.trans e') s hv rv
    | _ => exact p
  | exc x h => intro β' H' c d e' s q; exact p β' H' c d (e.trans e') s q
  | bad => exact p
theorem PostG.fr {X : Cx} {W : WX} {β τ : List Addr} {H : Hp} {σ : L2.St} {Q : VK} {r : R D} (hl : ∀ d h, r = .ok d h → ∃ xs, d = .lst xs) {h0 : Sto} (S : SRep X.K β τ H h0) (p : PostG X W β τ H σ (fun β' H' => Rep X.K β' τ H') Q r) : PostFr X W β τ H σ Q r := by
  cases r with
  | ok a h =>
    obtain ⟨xs, rfl⟩ := hl a h rfl
    intro β' H' q vs hp e s hv rv
    refine p β' H' (.ref q) e s.back ?_
    simp only [Rep]
    exact ⟨q, vs, rfl, hv, ⟨fun z => s.off q z List.mem_cons_self, S.offTauT hp⟩, Reps.back rv⟩
  | exc x h => exact p
  | bad => exact p
abbrev WF : WX := fun _ _ _ _ => False
section
variable (X : Cx) (W : WX)
abbrev repI (τ : List Addr) : List Addr → Hp → List D → It → Prop := fun β H ds J => ItK X.K β τ H J ds
def tI (m : Env → Sto → R (List D)) : TI := fun σ H Q => ∃ β τ ρ h, Rel X.K β τ σ H ρ h ∧ PostG X W β τ H σ (repI X τ) Q (m ρ h)
end
theorem wipe_get {σ : L2.St} {j : Nat} : ∀ {vs : List Nat}, (L2.wipe σ vs)[j]? = if j ∈ vs ∧ j < σ.length then some none else σ[j]?
  | [] => by simp [L2.wipe]
  | v :: vs => by
    unfold L2.wipe
    by_cases e : v = j
    · subst e
      by_cases hl : v < σ.length
      · rw [List.getElem?_set_self (by rw [wipe_length]; exact hl), if_pos ⟨List.mem_cons_self, hl⟩]
      · rw [if_neg (fun z => hl z.2), List.getElem?_eq_none (by rw [List.length_set, wipe_length]; omega), List.getElem?_eq_none (by omega)]
    · rw [List.getElem?_set_ne e, wipe_get]
      have : (j ∈ v :: vs) ↔ j ∈ vs := by simp [Ne.symm e]
      simp only [this]
theorem wipe_twice (σ : L2.St) (vs : List Nat) : L2.wipe (L2.wipe σ vs) vs = L2.wipe σ vs := by
  apply List.ext_getElem?
  intro j
  rw [wipe_get, wipe_get, wipe_length]
  split <;> rfl
section
variable {X : Cx} {W : WX}
/-- what stands between two turns -/
structure Mid (X : Cx) (β1 τ : List Addr) (H1 : Hp) (σ : L2.St) (ρ : Env) (J : It) (ds : List D) (turn : D → Sto → R (Option D)) (all : R D) (p : Addr) (i : Nat) (H : Hp) : Prop where
  ex : ∃ β h acc vs, i ≤ ds.length ∧ Ext β1 H1 β H ∧ SRep X.K β (p :: τ) H h ∧ H p = some (.lst vs) ∧ Reps X.K β (p :: τ) H acc vs ∧ ItK X.K β (p :: τ) H J ds ∧ ERep X.K β (p :: τ) H σ ρ ∧ comLoop turn (ds.drop i) acc h = all
theorem com_F {call : Calls} {own : List (Str × Nat)} {elt : C} {tg : G} {it : I} {ifs : C'} {σ : L2.St} {H : Hp} {Q : VK} (hs : ∀ i ∈ tg.slots, i ∈ own.map (·.2))
    (h : ∃ β τ ρ h, Rel X.K β τ σ H ρ h ∧ PostFr X W β τ H σ Q (ev call (.com own elt tg it ifs) ρ h)) : tLc (tI X W (evI call it)) (gD X.K tg) (tDT X WF (tstO call.noact ifs)) (tD X WF (ev call.noact elt)) (own.map (·.2)) σ H Q := by
  obtain ⟨β, τ, ρ, h, R0, p⟩ := h
  simp only [ev] at p
  refine ⟨β, τ, ρ, h, R0, ?_⟩
  cases hi : evI call it ρ h with
  | exc x h1 => rw [hi] at p; exact p
  | bad => rw [hi] at p; exact p.elim
  | ok ds h1 =>
  rw [hi] at p
  intro β1 H1 J e1 s1 k1 q hq
  have p1 := PostFr.mono e1 s1 p
  simp only [R.bind_ok] at p1
  have R1 := R0.ext e1 s1
  generalize ht : (fun (x : D) (h : Sto) => match put tg x (wipeE ρ (own.map (·.2))) with
        | some ρ' => (tstO call.noact ifs ρ' h).bind fun c h => if c then (ev call.noact elt ρ' h).bind fun y h => .ok (some y) h else .ok none h
        | none => (R.bad : R (Option D))) = turn at p1
  have nq : q ∉ τ := s1.offTau hq
  refine ⟨fun i m H' => m = ds.length - i ∧ Mid X β1 τ H1 σ ρ J ds turn (comLoop turn ds [] h1) q i H', ⟨_, rfl, ⟨β1, h1, [], [], Nat.zero_le _, Ext.new _ hq, s1.reserve hq, upd_same, Reps.nil, k1.res hq, R1.e.res hq, by simp⟩⟩, ?_⟩
  rintro i m H2 ⟨rfl, ⟨β2, h2, acc, vs, hi, e2, s2, hv, ra, k2, E2, go⟩⟩
  have nb : q ∉ β2 := fun z => s2.off q z List.mem_cons_self
  by_cases hl : i < ds.length
  · refine .inr ⟨k2.go hl, fun H' => Mid X β1 τ H1 σ ρ J ds turn (comLoop turn ds [] h1) q (i + 1) H', fun H' n => ⟨ds.length - (i + 1), by omega, rfl, n⟩, fun x H3 y => ?_⟩
    have hd : ds[i]? = some ds[i] := by simp [hl]
    have dr : ds.drop i = ds[i] :: ds.drop (i + 1) := (List.drop_eq_getElem_cons hl)
    rw [dr] at go
    revert hd go
    generalize ds[i] = d
    intro go hd
    obtain ⟨e3, s3, rx⟩ := k2.yld s2 hd y
    -- the turn ends well, for what is made in the end is no «bad»
    have well : ∀ r, turn d h2 = r → (∃ o h', r = .ok o h') := fun r er => by
      have g2 := go
      simp only [comLoop] at g2
      rw [er] at g2
      cases r with
      | ok o h' => exact ⟨o, h', rfl⟩
      | exc _ _ => rw [← g2] at p1; exact p1.elim
      | bad => rw [← g2] at p1; exact p1.elim
    obtain ⟨o, h', eo⟩ := well _ rfl
    have go1 := go
    simp only [comLoop] at go1
    rw [eo] at go1
    rw [← ht] at eo
    simp only at eo
    cases pe : put tg d (wipeE ρ (own.map (·.2))) with
    | none => rw [pe] at eo; cases eo
    | some ρ' =>
      rw [pe] at eo
      simp only at eo
      refine put_ok ((E2.ext e3).wipe _) rx pe fun σ' E3 wp => ?_
      refine ⟨by rw [wp _ hs]; exact wipe_twice σ _, ?_⟩
      cases te : tstO call.noact ifs ρ' h2 with
      | exc _ _ => rw [te] at eo; cases eo
      | bad => rw [te] at eo; cases eo
      | ok c h4 =>
        rw [te] at eo
        simp only [R.bind_ok] at eo
        refine ⟨β2, q :: τ, ρ', h2, ⟨E3, s3⟩, ?_⟩
        rw [te]
        intro β4 H4 b e4 s4 eb
        subst eb
        have q4 := e4.keep q _ (e3.keep q _ hv nb).1 (fun z => s3.off q z List.mem_cons_self)
        cases b with
        | false =>
          rw [if_neg Bool.false_ne_true] at eo ⊢
          cases eo
          exact ⟨⟨β4, h', acc, vs, hl, (e2.trans e3).trans e4, s4, q4.1, (Reps.ext e3 ra |>.ext e4), (k2.ext e3).ext e4, (E2.ext e3).ext e4, go1⟩⟩
        | true =>
          rw [if_pos rfl] at eo ⊢
          cases ve : ev call.noact elt ρ' h4 with
          | exc _ _ => rw [ve] at eo; cases eo
          | bad => rw [ve] at eo; cases eo
          | ok y5 h5 =>
            rw [ve] at eo
            simp only [R.bind_ok] at eo
            cases eo
            refine ⟨β4, q :: τ, ρ', h4, ⟨E3.ext e4, s4⟩, ?_⟩
            rw [ve]
            intro β5 H5 v5 e5 s5 r5
            have q5 := e5.keep q _ q4.1 q4.2
            simp only at go1
            have small : acc.length < sizeLine := by
              by_cases z : acc.length < sizeLine
              · exact z
              · rw [if_neg z] at go1
                rw [← go1] at p1
                exact p1.elim
            rw [if_pos small] at go1
            have ra5 : Reps X.K β5 (q :: τ) H5 acc vs := Reps.ext e5 (Reps.ext e4 (Reps.ext e3 ra))
            have mq : q ∈ q :: τ := List.mem_cons_self
            refine ⟨vs, q5.1, by rw [ra5.length]; exact small, ⟨⟨β5, h', acc ++ [y5], vs ++ [v5], hl, ?_, s5.upd mq, upd_same, Reps.upd mq (Reps.append ra5 (Reps.cons r5 Reps.nil)), (((k2.ext e3).ext e4).ext e5).upd mq, (((E2.ext e3).ext e4).ext e5).upd mq, go1⟩⟩⟩
            have e6 := ((e2.trans e3).trans e4).trans e5
            refine ⟨e6.pre, fun a u ha na nt => ?_⟩
            obtain ⟨z1, z2⟩ := e6.keepN a u ha na nt
            refine ⟨?_, z2⟩
            rw [upd_ne (ne_of_none ha hq)]
            exact z1
  · have ei : i = ds.length := by omega
    subst ei
    refine .inl ⟨k2.stop (Nat.le_refl _), ?_⟩
    rw [List.drop_length] at go
    simp only [comLoop] at go
    rw [← go] at p1
    exact p1 β2 H2 q vs (.none hq) e2 s2 hv ra
theorem comLoop_lst {turn : D → Sto → R (Option D)} : ∀ {xs acc : List D} {h : Sto} {d : D} {h' : Sto}, comLoop turn xs acc h = .ok d h' → ∃ ys, d = .lst ys
  | [], acc, h, d, h', e => by simp only [comLoop] at e; cases e; exact ⟨acc, rfl⟩
  | x :: xs, acc, h, d, h', e => by
    simp only [comLoop] at e
    split at e
    · split at e
      · exact comLoop_lst e
      · cases e
    · exact comLoop_lst e
    · cases e
theorem com_lst {call : Calls} {own : List (Str × Nat)} {elt : C} {tg : G} {it : I} {ifs : C'} {ρ : Env} {h : Sto} {d : D} {h' : Sto} (e : ev call (.com own elt tg it ifs) ρ h = .ok d h') : ∃ xs, d = .lst xs := by
  simp only [ev] at e
  cases hi : evI call it ρ h with
  | exc x h1 => rw [hi] at e; cases e
  | bad => rw [hi] at e; cases e
  | ok ds h1 => rw [hi] at e; exact comLoop_lst e
theorem com_D {call : Calls} {own : List (Str × Nat)} {elt : C} {tg : G} {it : I} {ifs : C'} {σ : L2.St} {H : Hp} {Q : VK} (hs : ∀ i ∈ tg.slots, i ∈ own.map (·.2))
    (h : tD X W (ev call (.com own elt tg it ifs)) σ H Q) : tLc (tI X W (evI call it)) (gD X.K tg) (tDT X WF (tstO call.noact ifs)) (tD X WF (ev call.noact elt)) (own.map (·.2)) σ H Q := by
  obtain ⟨β, τ, ρ, h, R0, p⟩ := h
  exact com_F hs ⟨β, τ, ρ, h, R0, p.fr (fun d h' e => com_lst e) R0.s⟩
end
end MP

set_option autoImplicit false
set_option Elab.async false
set_option linter.all false
set_option maxRecDepth 100000
set_option maxHeartbeats 2000000
/-! The functional Python is sound: all expressions. -/
namespace MP
open PySem PySem.Spec PyProof.Rows L2
section
theorem relab (env : PySem.Env) (x : Str) : ∀ names : List (Str × NameKind), (names.map fun (n, k) => if (k == NameKind.free && env.scope.kind == .function && env.kindOf n == some .cell) then (n, NameKind.cell) else (n, k)).lookup x =
    (names.lookup x).map fun k => if (k == NameKind.free && env.scope.kind == .function && env.kindOf x == some .cell) then NameKind.cell else k
  | [] => rfl
  | (n, k) :: r => by
    have ih := relab env x r
    show List.lookup x ((if (k == NameKind.free && env.scope.kind == .function && env.kindOf n == some .cell) = true then (n, NameKind.cell) else (n, k)) :: _) = _
    cases hx : x == n with
    | true =>
      have e : x = n := by simpa using hx
      subst e
      by_cases hc : (k == NameKind.free && env.scope.kind == .function && env.kindOf x == some .cell) = true
      · rw [if_pos hc]; simp only [List.lookup_cons, hx, Option.map_some, if_pos hc]
      · rw [if_neg hc]; simp only [List.lookup_cons, hx, Option.map_some, if_neg hc]
    | false =>
      by_cases hc : (k == NameKind.free && env.scope.kind == .function && env.kindOf n == some .cell) = true
      · rw [if_pos hc]; simp only [List.lookup_cons, hx]; exact ih
      · rw [if_neg hc]; simp only [List.lookup_cons, hx]; exact ih
variable {call : Calls} {fs : List Str} {cs : List (Str × Int)} {k : Nat} {N : List Str}
theorem blk_look {sc' : Scope} {cl : List (Str × Addr)} {C : Addr} {env : PySem.Env} {x : Str} : (PySem.compEnvC sc' cl C env).scope.names.lookup x = (sc'.names.lookup x).map fun k => if (k == NameKind.free && env.scope.kind == .function && env.kindOf x == some .cell) then NameKind.cell else k := relab env x sc'.names
theorem Good.blk {X : Cx} {W : WX} {sc : Scope} (g : Good X W call fs cs k N sc) {sc' : Scope} (s : Shared) (H : Hp) (C : Addr) (cl : List (Str × Addr)) (fp : List Addr) :
    Good (X.blk s H sc' (PySem.compEnvC sc' cl C X.env) fp) WF call.noact fs cs k N sc' where
  hN := g.hN
  vis := fun x h => by
    have e := blk_look (sc' := sc') (cl := cl) (C := C) (env := X.env) (x := x)
    show (PySem.compEnvC sc' cl C X.env).scope.names.lookup x = _ ∨ (PySem.compEnvC sc' cl C X.env).scope.names.lookup x = _ ∨ (PySem.compEnvC sc' cl C X.env).scope.names.lookup x = _
    rcases vis_of h with h | h | h
    · rw [h] at e; exact .inl e
    · rw [h] at e; exact .inr (.inl e)
    · rw [h] at e
      simp only [Option.map_some] at e
      split at e
      · exact .inr (.inl e)
      · exact .inr (.inr e)
  gl := fun x h => by
    have e := blk_look (sc' := sc') (cl := cl) (C := C) (env := X.env) (x := x)
    rw [(gl_of h).1] at e
    exact e
  loc := fun x h => by
    have e := blk_look (sc' := sc') (cl := cl) (C := C) (env := X.env) (x := x)
    rcases loc_of h with h | h
    · rw [h] at e; exact ⟨.inl e, .inr e⟩
    · rw [h] at e; exact ⟨.inr e, .inl (by show (sc'.names.lookup x == some .cell) = true; rw [h]; rfl)⟩
  fre := fun x h => by
    have e := blk_look (sc' := sc') (cl := cl) (C := C) (env := X.env) (x := x)
    rcases h with h | h
    · rw [h] at e; exact .inl e
    · rw [h] at e
      simp only [Option.map_some] at e
      split at e
      · exact .inl e
      · exact .inr e
  nd := g.nd
  calm := g.calm
  tk := takes0
  own := PassesOwn.never
  gd := g.gd
  rm := g.rm
  blt := g.blt
  con := g.con
  fns := g.fns
  cls := ⟨g.cls.isx, g.cls.fld⟩
  lam := fun x f c q us ds t h e => let ⟨h1, ⟨gg, fd, nm, a1, a2, a3, a4⟩, h3⟩ := g.lam x f c q us ds t h e; ⟨h1, ⟨gg, fd, nm, a1, a2, ⟨a3.run⟩, a4⟩, h3⟩
  act := fun i x p1 p2 _ _ _ _ => ⟨fun pins s σ H Q I q => by
    obtain ⟨β, τ, ρ, h, R0, p⟩ := q
    simp only [ev, Calls.noact] at p
    split at p <;> exact p.elim⟩
theorem Good.blkOk {X : Cx} {W : WX} {sc : Scope} (g : Good X W call fs cs k N sc) {sc' : Scope} {own : List (Str × Nat)} (b : blkC N sc sc' own = true) : BlkOk X.N X.env.scope sc' own := by
  have o := blkOk_by b
  rw [g.hN]
  exact ⟨o.kind, o.uniq, o.ix, fun y hy e => g.fre y.1 (o.free y hy e), o.own⟩
theorem PTs.imp {X : Cx} {es : List Expr} {t t' : TT} (p : PTs X es t) (h : ∀ σ H Q, t' σ H Q → t σ H Q) : PTs X es t' := ⟨fun pins s σ H Q I q => p.run pins s σ H Q I (h σ H Q q)⟩
theorem PI.imp {X : Cx} {tg e : Expr} {t t' : TI} (p : PI X tg e t) (h : ∀ σ H Q, t' σ H Q → t σ H Q) : PI X tg e t' := ⟨fun pins s σ H Q I q => p.run pins s σ H Q I (h σ H Q q)⟩
theorem PI.either {X : Cx} {tg e : Expr} {t t' : TI} (p : PI X tg e t) (p' : PI X tg e t') : PI X tg e (fun σ H Q => t σ H Q ∨ t' σ H Q) := ⟨fun pins s σ H Q I q => q.elim (p.run pins s σ H Q I) (p'.run pins s σ H Q I)⟩
end
end MP

set_option autoImplicit false
set_option Elab.async false
set_option linter.all false
set_option maxRecDepth 100000
set_option maxHeartbeats 4000000
/-! The functional Python is sound: all expressions. -/
namespace MP
open PySem PySem.Spec PyProof.Rows L2
section
variable {call : Calls} {fs : List Str} {cs : List (Str × Int)} {k : Nat} {N : List Str} {X : Cx} {W : WX} {sc : Scope}
theorem Good.hu (g : Good X W call fs cs k N sc) : X.A.units + 65 < cLine := by have := g.rm.un; omega
theorem vals1_of {vs : List V} {d : D} {β τ : List Addr} {H : Hp} (r : Reps X.K β τ H [d] vs) : ∃ v, vs = [v] ∧ Rep X.K β τ H d v := by
  simp only [Reps] at r
  obtain ⟨v, _, rfl, h1, rfl⟩ := r
  exact ⟨v, rfl, h1⟩
theorem vals2_of {vs : List V} {d e : D} {β τ : List Addr} {H : Hp} (r : Reps X.K β τ H [d, e] vs) : ∃ v u, vs = [v, u] ∧ Rep X.K β τ H d v ∧ Rep X.K β τ H e u := by
  simp only [Reps] at r
  obtain ⟨v, _, rfl, h1, u, _, rfl, h2, rfl⟩ := r
  exact ⟨v, u, rfl, h1, h2⟩
/-- arguments one by one -/
theorem tCons_D {m : Env → Sto → R D} {ms : Env → Sto → R (List D)} {σ : L2.St} {H : Hp} {Q : List V → Hp → Prop} (h : tDA X W (fun ρ h => (m ρ h).bind fun x h => (ms ρ h).bind fun xs h => .ok (x :: xs) h) σ H Q) :
    tCons (tD X W m) (tDA X W ms) σ H Q := by
  obtain ⟨β, τ, ρ, h, R0, p⟩ := h
  refine ⟨β, τ, ρ, h, R0, (PostG.bind (repV X τ) p).wk fun v H1 ⟨β1, x, h1, e1, s1, r1, p1⟩ => ?_⟩
  refine ⟨β1, τ, ρ, h1, R0.ext e1 s1, (PostG.bind (repL X τ) p1).wk fun us H2 ⟨β2, xs, h2, e2, s2, r2, p2⟩ => ?_⟩
  exact p2 β2 H2 _ (Ext.refl _ _) s2 (Reps.cons (r1.ext e2) r2)
theorem tNil_D {σ : L2.St} {H : Hp} {Q : List V → Hp → Prop} (h : tDA X W (fun _ h => .ok [] h) σ H Q) : tNil σ H Q := by
  obtain ⟨β, τ, ρ, h, R0, p⟩ := h
  exact p β H [] (Ext.refl _ _) R0.s Reps.nil
theorem bltFn_case {X : Cx} (g : Good X W call fs cs k N sc) {x : Str} (h : x ∈ builtinFns) : ∃ id, bootBuiltins x = some (.builtin id) ∧ CallR X (.builtin id) (rDs X (bltD x)) := by
  simp only [builtinFns, List.mem_cons, List.not_mem_nil, or_false] at h
  have hg := g.gd
  have hu := g.hu
  have hc := g.calm
  rcases h with rfl | rfl | rfl | rfl | rfl | rfl | rfl | rfl | rfl | rfl
  · exact ⟨_, boot_len, cr_len⟩
  · exact ⟨_, PyProof.Rows.boot_isinstance, cr_isinstance⟩
  · exact ⟨_, PyProof.Rows.boot_abs, cr_absD⟩
  · exact ⟨_, PyProof.Rows.boot_max, cr_maxD hc⟩
  · exact ⟨_, PyProof.Rows.boot_min, cr_minD hc⟩
  · exact ⟨_, PyProof.Rows.boot_sum, cr_sumD hc⟩
  · exact ⟨_, PyProof.Rows.boot_sorted, cr_sortedD⟩
  · exact ⟨_, PyProof.Rows.boot_all, cr_allD hc⟩
  · exact ⟨_, PyProof.Rows.boot_any, cr_anyD hc⟩
  · exact ⟨_, PyProof.Rows.boot_repr, cr_reprD hg hu⟩
theorem bltTy_case {X : Cx} {x : Str} (h : x ∈ builtinTys) : ∃ id, bootBuiltins x = some (.type id) ∧ CallR X (.type id) (rDs X (bltD x)) := by
  simp only [builtinTys, List.mem_cons, List.not_mem_nil, or_false] at h
  rcases h with rfl | rfl | rfl | rfl
  · exact ⟨"int", by decide +kernel, cr_intD⟩
  · exact ⟨"str", by decide +kernel, cr_strD⟩
  · exact ⟨"list", by decide +kernel, cr_listD⟩
  · exact ⟨"tuple", by decide +kernel, cr_tupleD⟩
theorem mem_ns {x : Str} (h : x ∈ builtinFns ∨ x ∈ builtinTys) : x ∈ builtinNs := by
  unfold builtinNs
  rcases h with h | h
  · exact List.mem_append_left _ (List.mem_append_left _ h)
  · exact List.mem_append_left _ (List.mem_append_right _ h)
theorem ns_name {x : Str} (h : x ∈ builtinNs) : x ≠ "__name__" := by
  intro z
  subst z
  revert h
  decide +kernel
/-- a call of a def, by what it does -/
theorem call_D {f : Str} {ms : Env → Sto → R (List D)} {m : Nat} {σ : L2.St} {H : Hp} {Q : VK} (h : tD X W (fun ρ h => (ms ρ h).bind fun xs h => call f xs h) σ H Q) (hm : ∀ ds h, call f ds h ≠ .bad → ds.length = m) :
    tDA X W ms σ H fun vs H1 => spD X.K X.mg call f m vs H1 Q fun c d H' => W c d σ H' := by
  obtain ⟨β, τ, ρ, h, R0, p⟩ := h
  change PostG X W β τ H σ (repV X τ) Q ((ms ρ h).bind fun xs h => call f xs h) at p
  refine ⟨β, τ, ρ, h, R0, ?_⟩
  cases e : ms ρ h with
  | ok xs h1 =>
    rw [e] at p
    change PostG X W β τ H σ (repV X τ) Q (call f xs h1) at p
    intro β1 H1 vs e1 s1 r1
    have ar : call f xs h1 ≠ .bad := fun z => by rw [z] at p; exact p
    refine ⟨β1, τ, xs, h1, r1, hm xs h1 ar, s1, ?_⟩
    cases e2 : call f xs h1 with
    | ok d h2 => rw [e2] at p; intro β2 H2 v e2 s2 r2; exact p β2 H2 v (e1.trans e2) s2 r2
    | exc x h2 => rw [e2] at p; intro β2 H2 c dd e2 s2 r2; exact p β2 H2 c dd (e1.trans e2) s2 r2
    | bad => rw [e2] at p; exact p
  | exc x h1 => rw [e] at p; exact p
  | bad => rw [e] at p; exact p
theorem evs_len {cl : Cs} {es : List Expr} (hk : cks N cs sc cl es = true) : ∀ {ρ : Env} {h h' : Sto} {xs : List D}, evs call cl ρ h = .ok xs h' → xs.length = es.length := by
  induction es generalizing cl with
  | nil =>
    cases cl with
    | nil => intro ρ h h' xs e; simp only [evs] at e; cases e; rfl
    | cons c r => simp [cks] at hk
  | cons x es ih =>
    cases cl with
    | nil => simp [cks] at hk
    | cons c r =>
      simp only [cks, Bool.and_eq_true] at hk
      intro ρ h h' xs e
      simp only [evs] at e
      cases e1 : ev call c ρ h with
      | ok x1 h1 =>
        rw [e1] at e
        simp only [R.bind_ok] at e
        cases e2 : evs call r ρ h1 with
        | ok x2 h2 =>
          rw [e2] at e
          simp only [R.bind_ok] at e
          cases e
          simp [ih hk.2 e2]
        | exc _ _ => rw [e2] at e; cases e
        | bad => rw [e2] at e; cases e
      | exc _ _ => rw [e1] at e; cases e
      | bad => rw [e1] at e; cases e
/-- a method of a cell -/
theorem mt_D {m : Str} {id : String} (hm : (m = "append" ∧ id = "list.append") ∨ (m = "extend" ∧ id = "list.extend") ∨ (m = "pop" ∧ id = "list.pop")) :
    MtR X id (fun x vs H Q => ∃ β τ h i ds as ys y, SRep X.K β τ H h ∧ Rep X.K β τ H (.ref i) x ∧ Reps X.K β τ H as vs ∧ h[i]? = some (.lst ds) ∧ mthD m ds (if m = "extend" then as.map (deref h) else as) = some (y, ys) ∧
      ∀ H' v, Ext β H β H' → SRep X.K β τ H' (h.set i (.lst ys)) → Rep X.K β τ H' y v → Q v H') := by
  intro pins s σ H x vs v us Q I rx rv ⟨β, τ, h, i, ds, as, ys, y, S, qx, ra, hi, e, q⟩
  obtain ⟨a, cs, ha, hc, rc⟩ := S.get hi
  simp only [Rep] at qx
  obtain ⟨b, rfl, hb⟩ := qx
  rw [ha] at hb; cases hb
  have lc := rc.length
  rcases hm with ⟨rfl, rfl⟩ | ⟨rfl, rfl⟩ | ⟨rfl, rfl⟩
  · simp only [mthD] at e
    simp (config := { decide := true }) only [if_true, if_false] at e
    split at e
    · rename_i z
      obtain ⟨w, rfl, rw'⟩ := vals1_of ra
      split at e
      · rename_i hl
        cases e
        refine mt_append pins s σ H _ _ v us Q I rx rv ⟨a, cs, w, rfl, rfl, hc, by rw [lc]; exact hl, ?_⟩
        exact q _ _ (Ext.write _ ha) (S.write ha (Reps.append rc (Reps.cons rw' Reps.nil))) (by simp [Rep])
      · cases e
    · cases e
  · simp only [mthD] at e
    simp (config := { decide := true }) only [if_true, if_false] at e
    split at e
    · rename_i zs has
      have ra' := derefs_rep S ra
      rw [has] at ra'
      obtain ⟨w, rfl, rw'⟩ := RepRs.one ra'
      obtain ⟨b, bs, rfl, hb, rb⟩ := rw'
      have lb := rb.length
      split at e
      · rename_i hl
        cases e
        refine mt_extend pins s σ H _ _ v us Q I rx rv ⟨a, b, cs, bs, rfl, rfl, hc, hb, by omega, ?_⟩
        exact q _ _ (Ext.write _ ha) (S.write ha (Reps.append rc rb)) (by simp [Rep])
      · cases e
    · cases e
  · simp only [mthD] at e
    simp (config := { decide := true }) only [if_true, if_false] at e
    split at e
    · rename_i z
      obtain ⟨w, rfl, rw'⟩ := vals1_of ra
      have ew := int_of rw'
      subst ew
      split at e
      · rename_i hl
        split at e
        · rename_i j ej
          obtain ⟨z1, ez, ee⟩ := Option.map_eq_some_iff.mp e
          cases ee
          obtain ⟨u1, hu1, ru1⟩ := Reps.get rc ez
          refine mt_popAt pins s σ H _ _ v us Q I rx rv ⟨a, cs, _, j, u1, rfl, rfl, hc, hl.1, hl.2, (ixN_seq (by rw [lc]; exact ej)).1, hu1, ?_⟩
          exact q _ _ (Ext.write _ ha) (S.write ha (Reps.eraseIdx j rc)) (ru1.ext (Ext.write _ ha))
        · cases e
      · cases e
    · cases e
theorem few1 {X : Cx} {e : Expr} {p : Pos} (h : noStar e = true) : ((backTo p (starEach [e] X.env)).all (fun x => !x.1) && (backToKw p (keywordEach [] X.env)).all (fun x => x.1.isSome)
      && decide (([e] : List Expr).length + ([] : List Keyword).length + (if ([] : List Keyword).isEmpty then 0 else 1) < 30)) = true := by
  rw [star_cons h]; rfl
end
end MP

set_option autoImplicit false
set_option Elab.async false
set_option linter.all false
set_option maxRecDepth 100000
set_option maxHeartbeats 2000000
/-! try with several clauses, named or not; what is caught is tracked in the suite. -/
namespace MP
open PySem PySem.Spec PyProof.Rows L2
/-- a clause: its class, the slot of its name, the reading of its suite -/
abbrev Clause := Value × Option Nat × (Addr → Value → Option Addr → TS)
def endsAt (D : Ends) (i : Nat) : Ends := { nx := fun σ H => D.nx (σ.set i none) H, rt := D.rt, bk := fun σ H => D.bk (σ.set i none) H, ct := fun σ H => D.ct (σ.set i none) H }
/-- what the clauses wish of an exception -/
def wHd (K : PySem.W.Frag) (Wout : WX) (D : Ends) : List Clause → WX
  | [] => Wout
  | (c, o, ts) :: r => fun cls d σ H => ∃ b, PySem.W.exmOne K cls c = some b ∧ (b = false → wHd K Wout D r cls d σ H) ∧
      (b = true → ∀ a, H a = none → match o with
        | none => ts a cls d D σ (upd H a (XO a cls d))
        | some i => ts a cls d (endsAt D i) (σ.set i (some (.ref a))) (upd H a (XO a cls d)))
/-- the clauses of the syntax -/
inductive HdOk (X : Cx) : List ExceptHandler → List Clause → Prop
  | nil : HdOk X [] []
  | cons {x : Str} {nm : Option Str} {c : Value} {o : Option Nat} {ts : Addr → Value → Option Addr → TS} {s₀ : Stmt} {su : List Stmt} {p p' : Pos} {hs : List ExceptHandler} {l : List Clause} (hx : Names X x c)
      (hn : match nm, o with
        | none, none => True
        | some n, some i => X.N[i]? = some n ∧ X.env.kindOf n = some .local
        | _, _ => False)
      (hsu : ∀ (a : Addr) (cls : Value) (d : Option Addr) (pn : List (Addr × Obj)), PSs (X.suite a pn) (s₀ :: su) (ts a cls d)) (r : HdOk X hs l) :
      HdOk X (.ExceptHandler (some (.Name x p)) nm (s₀ :: su) p' :: hs) ((c, o, ts) :: l)
section
variable {X : Cx} {pins : List (Addr × Obj)} {σ : L2.St} {H : Hp} {s : Shared}
/-- something that stands is told -/
theorem tell {a : Addr} {o : HO} {ob : Obj} (I : L2.Inv X pins σ H s) (ha : H a = none) (hob : s.heap.get? a = some ob) (nc : ∀ v, ob.data ≠ .cell v) (n0 : X.s_0.heap.get? a = none) (nL : a ≠ X.env.locals) (np : ∀ p ∈ X.pn ++ pins, p.1 ≠ a)
    (new : ObjOk X.prog X.w (upd H a o) s.heap a o) : L2.Inv X pins σ (upd H a o) s := by
  have base : Un X.fs X.ex X.H_0 (upd H a o) X.s_0.heap s.heap := by
    have b := I.base
    exact {
      keep := b.keep
      slot := b.slot
      free := fun c u q n e => by
        rw [upd_ne (fun z => by rw [z, n0] at q; cases q)]
        exact b.free c u q n e
      there := b.there
      tups := fun c xs q => by
        have t := b.tups c xs q
        rw [upd_ne (fun z => by rw [z, ha] at t; cases t)]
        exact t
      frzs := fun c u xs q => by
        have t := b.frzs c u xs q
        rw [upd_ne (fun z => by rw [z, ha] at t; cases t)]
        exact t
      tbls := fun c ps q => by
        obtain ⟨m, t⟩ := b.tbls c ps q
        rw [upd_ne (fun z => by rw [z, ha] at t; cases t)]
        exact ⟨m, t⟩ }
  refine ⟨I.ok, I.os, I.bare, base, I.loc, I.cell, ?_, fun x c e => ?_, fun p hp => ?_, fun b u e => ?_, I.len⟩
  · rw [upd_ne (Ne.symm nL)]; exact I.free
  · rw [upd_ne]
    · exact I.freeC x c e
    · intro z
      subst z
      obtain ⟨v, oc, h1, h2⟩ := I.cell x _ e
      rw [hob] at h1
      cases h1
      exact nc _ h2
  · obtain ⟨h1, h2, h3⟩ := I.pin p hp
    exact ⟨h1, by rw [upd_ne (np p hp)]; exact h2, h3⟩
  · by_cases z : b = a
    · subst z
      rw [upd_same] at e
      cases e
      exact new
    · rw [upd_ne z] at e
      refine (I.hok b u e).stay (fun c v _ q => q) (fun c q => ?_) fun c xs q => ?_
      · rw [upd_ne (ne_of_none q ha)]; exact q
      · rw [upd_ne (ne_of_none q ha)]; exact q
theorem xo_ok {P : Program} {w : World} {h : Heap} {a : Addr} {cls : Value} {d : Option Addr} {oe : Obj} {vs : Array Value} (he : h.get? a = some oe) (hz : Zc cls d oe) (hd : oe.data = .fields vs) : ObjOk P w H h a (XO a cls d) :=
  ⟨⟨oe, vs, he, hz, hd⟩, ⟨oe, he⟩, fun _ _ ⟨u, v, q, r⟩ k => ⟨u, v, k u q, r⟩⟩
end
section
variable {X : Cx} {body : List Stmt} {hd₀ : ExceptHandler} {hds : List ExceptHandler} {l : List Clause} {pos : Pos} {tb : WX → TS} {Wout : WX}
/-- try: body / except .. as ..: .., as many clauses as there are -/
theorem ps_tryD (stk : X.stack = X.env :: X.outer) (frm : X.env.frame = some X.env.locals) (nd : X.N.Nodup) (hex : X.ex = []) (tk : Takes X Wout)
    (hb : ∀ (W : WX) (pn : List (Addr × Obj)) (xe : Value → Shared → Prop), Takes (X.tr pn xe) W → PassesOwn (model X.prog X.w) X.A X.env xe → PSs (X.tr pn xe) body (tb W))
    (ok : HdOk X (hd₀ :: hds) l) : PS X (.Try body (hd₀ :: hds) [] [] pos) (fun D σ H => tb (wHd X.K Wout D l) D σ H) := by
  refine ⟨fun pins s σ H D I start => ?_⟩
  have okX := I.ok
  have frA : X.A.frames = some (X.env :: X.outer) := by rw [okX.frames, stk]
  refine wpAny_Try_except ?_
  have run := (hb (wHd X.K Wout D l) (X.pn ++ pins)
    (fun e s₁ => wpAny (model X.prog X.w) X.A (noteFrame e X.env) (fun _ s₂ => wpAny (model X.prog X.w) X.A (setFlight e none) (fun _ s₃ => wpAny (model X.prog X.w) X.A (handleBy e X.env (hd₀ :: hds)) (SP X pins D) X.xe s₃) X.xe s₂) X.xe s₁)
    (fun u s' air => ?_) PassesOwn.looking).run [] s σ H D (I.toTry _) start
  · refine wpAny_mono run (fun f s1 z => ?_) fun _ _ z => z
    cases f with
    | next => exact let ⟨σ', H', J, q⟩ := z; wpAny_execs_nil ⟨σ', H', J.ofTry okX, q⟩
    | brk => exact let ⟨σ', H', J, q⟩ := z; ⟨σ', H', J.ofTry okX, q⟩
    | cont => exact let ⟨σ', H', J, q⟩ := z; ⟨σ', H', J.ofTry okX, q⟩
    | ret u => exact let ⟨v, σ', H', J, r, q⟩ := z; ⟨v, σ', H', J.ofTry okX, r, q⟩
  · obtain ⟨a, B, sI, pins', σ', H', cls, d, rfl, J', nb, up, sky, na, os, ag, wish⟩ := air
    have J : L2.Inv X pins σ' H' sI := J'.ofTry okX
    have hB : B.get? a = none := by
      rcases sky with ⟨_, z, _⟩ | ⟨_, z, _⟩ | ⟨_, z, _⟩ <;> exact z
    have skyE : Sky B (X.env :: X.outer) a (Zc cls d) X.env.locals s'.heap := by rw [← stk]; exact sky
    show wpAny (model X.prog X.w) X.A (noteFrame (.ref a) X.env) _ _ _
    refine Sky.land Zc.steady frA frm skyE fun h3 fl3 up3 => ?_
    have J3 : L2.Inv X pins σ' H' { s' with heap := h3 } := J.landed nb fl3.1 (up.trans up3) os ag
    obtain ⟨oe3, vs3, he3, hz3, hd3⟩ := fl3.there
    have off : ∀ {h : Heap} {o : Obj} {vs : Array Value}, h.FunFrames B (X.env :: X.outer) → h.get? a = some o → o.data = .fields vs → a ∉ frs (X.env :: X.outer) := fun {h o vs} ff e dd m => by
      obtain ⟨_, o', e', nf⟩ := ff.mem m
      rw [e] at e'
      cases e'
      exact nf _ dd
    have nfr := off fl3.2.2.1 he3 hd3
    have nL : a ≠ X.env.locals := fun z => nfr (List.mem_filterMap.mpr ⟨X.env, List.mem_cons_self, by rw [frm, z]⟩)
    have nfrS : a ∉ frs X.stack := by rw [stk]; exact nfr
    have gone : ∀ {o : Obj}, sI.heap.get? a = some o → False := fun {o} e => by
      have := nb a o e nfrS
      rw [hB] at this
      cases this
    have nFs : a ∉ X.fs := fun m => by
      obtain ⟨e, he, q⟩ := List.mem_filterMap.mp m
      exact nfr (List.mem_filterMap.mpr ⟨e, List.mem_cons_of_mem _ he, q⟩)
    have old : X.s_0.heap.get? a = none := by
      cases e : X.s_0.heap.get? a with
      | none => rfl
      | some o =>
        obtain ⟨o', e'⟩ := J.base.there a o e (by rw [hex]; simp)
        exact (gone e').elim
    have noPin : ∀ p ∈ X.pn ++ pins, p.1 ≠ a := fun p hp z => by
      obtain ⟨e, _⟩ := J.pin p hp
      rw [z] at e
      exact gone e
    have go : ∀ {hs : List ExceptHandler} {ls : List Clause}, HdOk X hs ls → wHd X.K Wout D ls cls d σ' H' → wpAny (model X.prog X.w) X.A (handleBy (.ref a) X.env hs) (SP X pins D) X.xe { s' with heap := h3 } := by
      intro hs ls hk
      induction hk with
      | nil =>
        intro w
        refine wpAny_handleBy_nil ?_
        obtain ⟨k1, k2, k3, oe, vs, T, oT, ts', he, hz, hd, h1, hr⟩ := id fl3
        unfold PySem.passOn
        refine wpAny_bind (wpAny_field he hd h1 ?_)
        rw [if_neg (show ¬ ((Value.ref T == Value.none) = true) from by simp)]
        have last : wpAny (model X.prog X.w) X.A (setFlight (.ref a) X.env.frame) (fun _ s4 => wpAny (model X.prog X.w) X.A (throw (.ref a) : Sem PySem.Flow) (SP X pins D) X.xe s4) X.xe { s' with heap := h3 } := by
          rw [frm]
          refine HandSPX.setFlight_upZ fl3 fun h4 held up4 => wpAny_throw (tk _ _ ?_)
          exact ⟨a, B, sI, pins, σ', H', cls, d, rfl, J, nb, (up.trans up3).trans up4, .inr (.inr (by rw [stk]; exact held)), na, os, ag, w⟩
        first
          | exact wpAny_bind (wpAny_pure (wpAny_bind last))
          | exact wpAny_bind last
      | @cons x nm c o ts s₀ su p p' hs2 l2 hx hn hsu r ih =>
        intro w
        obtain ⟨b, hm, no, yes⟩ := w
        refine wpAny_handleBy_cons (codeAny_handlers_test ?_) (by intro q; cases q)
        have LT : PySem.W.Looks (model X.prog X.w) h3 (typeOf (.ref a)) cls := fun A Q E s k q => wpAny_typeOf_ref (k _ _ he3) (by rw [hz3.1]; exact q)
        have LM := PySem.W.exm_one (M := model X.prog X.w) (J3.kIn) LT hm
        have S3 : L2.Inv (X.suite a (X.pn ++ pins)) [] σ' H' { s' with heap := h3 } := ⟨J3.ok.suite _ _, J3.os, J3.bare, J3.base, J3.loc, J3.cell, J3.free, J3.freeC, fun q hq => J3.pin q (by rw [List.append_nil] at hq; exact hq), J3.hok, J3.len⟩
        have ask : ∀ {Q : Value → Shared → Prop} {E : Value → Shared → Prop}, Q c { s' with heap := h3 } → wpAny (model X.prog X.w) (X.A.mark (some (.ref a))) (eval (.Name x p) X.env) Q E { s' with heap := h3 } := fun {Q E} q => by
          obtain ⟨g1, g2, g3 | ⟨g3, g4, g5⟩⟩ := hx
          · exact ld_glob (X := X.suite a (X.pn ++ pins)) S3 g1 g3 q g2
          · exact ld_blt (X := X.suite a (X.pn ++ pins)) S3 g1 g3 g4 q g5 g2
        refine ask (LM.here ?_)
        cases b with
        | false =>
          show wpAny _ X.A (handleBy (.ref a) X.env hs2) _ _ _
          exact ih (no rfl)
        | true =>
          have inside : ∀ h4, HandSPX.FlyingZ B (X.env :: X.outer) a (Zc cls d) h4 → h3.UpToSlots h4 → L2.Inv (X.suite a (X.pn ++ pins)) [] σ' (upd H' a (XO a cls d)) { s' with heap := h4 } := fun h4 fl4 up4 => by
            have J4 : L2.Inv X pins σ' H' { s' with heap := h4 } := J.landed nb fl4.1 ((up.trans up3).trans up4) os ag
            obtain ⟨oe4, vs4, he4, hz4, hd4⟩ := fl4.there
            have T := tell (o := XO a cls d) J4 na he4 (fun v z => by rw [hd4] at z; cases z) old nL noPin (xo_ok he4 hz4 hd4)
            exact ⟨T.ok.suite _ _, T.os, T.bare, T.base, T.loc, T.cell, T.free, T.freeC, fun q hq => T.pin q (by rw [List.append_nil] at hq; exact hq), T.hok, T.len⟩
          have back : ∀ {σ6 : L2.St} {H6 : Hp} {s6 : Shared}, L2.Inv (X.suite a (X.pn ++ pins)) [] σ6 H6 s6 → L2.Inv X pins σ6 H6 s6 := fun S => ⟨okX, S.os, S.bare, S.base, S.loc, S.cell, S.free, S.freeC, fun q hq => S.pin q (by rw [List.append_nil]; exact hq), S.hok, S.len⟩
          have wish := yes rfl a na
          cases nm with
          | none =>
            cases o with
            | some i => exact hn.elim
            | none =>
              refine codeAny_handlers_suite ?_
              refine HandSPX.lands_againZ fl3 fun h4 fl4 up4 => ?_
              refine wpAny_mono ((hsu a cls d (X.pn ++ pins)).run [] _ _ _ _ (inside h4 fl4 up4) wish) (fun f s6 z => ?_) (fun _ _ z => False.elim z)
              cases f with
              | next => exact let ⟨σ6, H6, S6, q6⟩ := z; ⟨_, _, back S6, q6⟩
              | brk => exact let ⟨σ6, H6, S6, q6⟩ := z; ⟨_, _, back S6, q6⟩
              | cont => exact let ⟨σ6, H6, S6, q6⟩ := z; ⟨_, _, back S6, q6⟩
              | ret u => exact let ⟨v6, σ6, H6, S6, r6, q6⟩ := z; ⟨_, _, _, back S6, r6, q6⟩
          | some n =>
            cases o with
            | none => exact hn.elim
            | some i =>
              obtain ⟨hi, hl⟩ := hn
              refine codeAny_handlers_suite_as ?_
              refine HandSPX.lands_againZ fl3 fun h4 fl4 up4 => ?_
              refine store_ok (X := X.suite a (X.pn ++ pins)) (v := .ref a) (inside h4 fl4 up4) nd hi (.inl hl) rfl (fun s5 S5 => ?_) (.inr hl)
              refine wpAny_mono ((hsu a cls d (X.pn ++ pins)).run [] s5 _ _ _ S5 wish) (fun f s6 z => ?_) (fun _ _ z => False.elim z)
              have over : ∀ {σ6 : L2.St} {H6 : Hp} {Q : Shared → Prop}, L2.Inv (X.suite a (X.pn ++ pins)) [] σ6 H6 s6 → (∀ s7, L2.Inv X pins (σ6.set i none) H6 s7 → Q s7) →
                  wpAny (model X.prog X.w) X.A (do bindName X.env n .none; unbindBehindTheSuite X.env n p') (fun _ s7 => Q s7) X.xe s6 := fun {σ6 H6 Q} S6 hq => gone_ok (back S6) nd hi hl hq
              cases f with
              | next => exact let ⟨σ6, H6, S6, q6⟩ := z; over S6 fun s7 J7 => ⟨_, _, J7, q6⟩
              | brk => exact let ⟨σ6, H6, S6, q6⟩ := z; over S6 fun s7 J7 => ⟨_, _, J7, q6⟩
              | cont => exact let ⟨σ6, H6, S6, q6⟩ := z; over S6 fun s7 J7 => ⟨_, _, J7, q6⟩
              | ret u => exact let ⟨v6, σ6, H6, S6, r6, q6⟩ := z; over S6 fun s7 J7 => ⟨_, _, _, J7, r6, q6⟩
    exact go ok wish
end
end MP

set_option autoImplicit false
set_option Elab.async false
set_option linter.all false
set_option maxRecDepth 100000
set_option maxHeartbeats 2000000
/-! A field of a caught exception; a lambda that is handed to a def. -/
namespace MP
open PySem PySem.Spec PyProof.Rows L2
/-- e.n, e a tracked exception -/
theorem pe_fldX {X : Cx} {e : Expr} {te : TE} {pos : Pos} {n : Str} (he : PE X e te) (hb : attributeBase e n X.env (eval e X.env) = eval e X.env) :
    PE X (.Attribute e n pos) (fun σ H Q => te σ H fun x H1 => ∃ (a C dd : Addr) (fs : List (Str × V)) (v : V), x = .ref a ∧ XfC X.K C ∧ PySem.W.findIn X.K (.ref C) n = some none ∧ H1 a = some (XO a (.ref C) (some dd)) ∧ H1 dd = some (.xd fs) ∧ fs.lookup n = some v ∧ Q v H1) := by
  refine ⟨fun pins s σ H Q I h => ?_⟩
  refine attr_of hb (thn (he.run pins s σ H _ I h) fun u s1 ⟨x, H1, I1, rx, a, C, dd, fs, v, ex, T, hno, ha, hdd, l, q⟩ => ?_)
  subst ex
  obtain rfl : u = Value.ref a := rx
  obtain ⟨⟨oe, vs, e1, hz, hd⟩, _⟩ := I1.hok a _ ha
  have hx : ObjOk X.prog X.w H1 s1.heap dd (.xd fs) := I1.hok dd _ hdd
  obtain ⟨mA, hns, hr⟩ := hx
  obtain ⟨od, ho, hl⟩ := lookIn_ns hns
  obtain ⟨u, hu, ru⟩ := RelO.some_of (v := v) (o := mA n) (by rw [← l]; exact hr n)
  have J : PySem.W.InstAt s1.heap a oe C (some od) := ⟨e1, hz.1, by unfold PySem.W.notCls; rw [hd] <;> rfl, by rw [hz.2]; exact ho⟩
  exact HandSPX.exc_get I1.kIn J T.ga T.gg T.exC (PySem.W.findObj_own T.hdC hno rfl (by rw [hl, hu])) (handed_of ru) ⟨v, H1, I1.tok _, ru, q⟩
/-- isinstance(e, c), e a tracked exception without a dict -/
theorem cr_isiX {X : Cx} : CallR X (.builtin "isinstance") (fun xs H Q => ∃ (a D : Addr) (c : V) (cv : Value) (b : Bool), xs = [.ref a, c] ∧ (∀ u, RelV c u → u = cv) ∧ ExcC X.K D ∧ H a = some (XO a (.ref D) none) ∧ PySem.W.kitOne X.K (.ref D) cv = some b ∧ Q (.bl b) H) := by
  intro pins s σ H xs us Q I r ⟨a, D, c, cv, b, e, hcv, C, ha, k, q⟩
  subst e
  cases r with
  | cons rx rr =>
    cases rr with
    | cons rt rr =>
      cases rr
      cases rx
      have ec := hcv _ rt
      subst ec
      obtain ⟨⟨oe, vs, e1, hz, hd⟩, _⟩ := I.hok a _ ha
      have J : PySem.W.InstAt s.heap a oe D none := ⟨e1, hz.1, by unfold PySem.W.notCls; rw [hd] <;> rfl, by rw [hz.2]; trivial⟩
      exact PySem.W.kia_one (PySem.W.handS_kitx_exc C.hg C.hk C.hs C.hd C.ha C.hn C.ht C.hm) I.kIn J k (fun z => nomatch z) fun tk => ⟨.bl b, H, I.kept (t' := tk) fun _ _ z => z, rfl, q⟩
section
variable {X : Cx} {pins : List (Addr × Obj)} {σ : L2.St} {H : Hp} {s : Shared}
/-- the lambda f of the context X is called in the def g that has got it -/
theorem lam_act {Ng : List Str} {qg : Str} {sg : Scope} {g f c' : Addr} {cdg pm ctv : Value} {ps : Arguments} {body : Expr} {scope : Scope} {k i : Nat} {nm : Str} {pn : List (Addr × Obj)} {xe : Value → Shared → Prop} {W : WX} {E : XK} {tb : XK → TE} {p1 p2 : Pos}
    (I : L2.Inv X pins σ H s) (L : LamX.LamS X.env.scope scope) (hf : s.heap.get? f = some (PySem.W.kla_obj "<lambda>" (X.env.qual ++ "<lambda>") ps body scope (cloFrom X.env.cells scope.names []) pm c' ctv)) (hfn : H f = none) (hfr : f ∉ frs X.stack)
    (bind : bindArgs (PySem.W.kla_fn "<lambda>" (X.env.qual ++ "<lambda>") ps body scope (cloFrom X.env.cells scope.names []) pm (.ref c') ctv) ⟨[], []⟩ = pure [])
    (tk : Takes ((cxOf (L2.CX X.prog X.w) X.prog X.w X.K X.mg X.base Ng qg sg g cdg X.A X.stack s H E).tr pn xe) W) (room : Room (k + 1) (X.A.deeper (envOfC qg sg s.heap.objs.size g cdg)))
    (hbody : ∀ (A : Around) (outer : List PySem.Env) (s : Shared) (H : Hp) (E : XK), A.guards = X.A.guards → Room k (A.deeper (LamX.lamEnv X scope s.heap.objs.size f c')) → PE (LamX.lamCx X A outer s H E scope f c') body (tb E))
    (hN : Ng[i]? = some nm) (hv : Vis sg nm) (hd : (nm == ("__debug__" : Str)) = false) (hcd : (nm == ("__classdict__" : Str)) = false) :
    PE ((cxOf (L2.CX X.prog X.w) X.prog X.w X.K X.mg X.base Ng qg sg g cdg X.A X.stack s H E).tr pn xe) (.Call (.Name nm p1) [] [] p2)
      (fun σZ HZ Q => σZ[i]? = some (some (.ref f)) ∧ HZ c' = some (LamX.CodeO c' (X.env.qual ++ "<lambda>")) ∧ tb (fun cls d H' => W cls d σZ H') σ HZ Q) := by
  refine ⟨fun pz sz σZ HZ Q IZ ⟨hs, hc, ht⟩ => ?_⟩
  refine wpAny_Call_Name_kw (thn ((pe_var (pos := p1) (i := i) hN hv hd hcd).run pz sz σZ HZ (fun v H1 => v = .ref f ∧ H1 = HZ) IZ ⟨.ref f, hs, rfl, rfl⟩) fun u s1 ⟨v, H1, I1, r1, ev, eH⟩ => ?_)
  subst ev
  rw [eH] at I1
  obtain rfl : u = Value.ref f := r1
  have at_f := I1.base.keep f _ hf hfn hfr (fun z => nomatch (show f ∈ ([] : List Addr) from z))
  refine PySem.W.callWith_F0 ⟨_, _, _, _, at_f⟩ ?_
  have un : Un (frs X.stack) [] H HZ s.heap s1.heap := I1.base
  obtain ⟨⟨oc, vs, t, hoc, hdc, hvc⟩, _, _⟩ := I1.hok c' _ hc
  have called : codeAny (model X.prog X.w) (X.A.deeper (envOfC qg sg s.heap.objs.size g cdg)) (.call (.ref f) ⟨[], []⟩) (CR (L2.CX X.prog X.w) (envOfC qg sg s.heap.objs.size g cdg :: X.stack) X.prog X.w HZ s1 Q (fun cls d H' => W cls d σZ H')) s1 := by
    refine PySem.W.kla_callFunE room.depth at_f rfl L.co L.gen rfl ⟨c', oc, vs, t, rfl, hoc, hdc, hvc⟩ ?_
    rw [bind]
    refine wpAny_pure (wpAny_newFunctionEnv (fun y hy => (L.own y hy).2) (fun y hy => absurd hy (by simp)) (fun h₁ hns hsb => ⟨I1.nolimit.fresh _ hsb, ?_⟩) L.kind)
    show codeAny _ _ (.expr body (LamX.lamEnv X scope s1.heap.objs.size f c')) _ _
    have kp : ∀ b o, s1.heap.get? b = some o → h₁.get? b = some o := fun b o e => hsb.extBut b o (Nat.ne_of_lt (Heap.lt_size e)) (Heap.get?_push_of_some _ e)
    have J := LamX.lam_start2 (tk := s1.toks + ([] : List (Str × Value)).length) (E := fun cls d H' => W cls d σZ H') (c' := c') (f := f) I L I1.env0 room.hd un hns kp
    refine PySem.W.kla_codeExpr (wpAny_mono ((hbody (X.A.deeper (envOfC qg sg s.heap.objs.size g cdg)) (envOfC qg sg s.heap.objs.size g cdg :: X.stack) s1 HZ (fun cls d H' => W cls d σZ H') rfl (room.deeper _)).run [] _ _ HZ Q J ht) (fun v s' ⟨w', H', J', rv, q⟩ => ⟨w', H', J'.os, J'.bare, J'.base, J'.hok, rv, q⟩) fun e s' hq => hq)
  refine wpAny_call (codeAny_mono called fun r s' hq => ?_)
  cases r with
  | error e => exact L2.passAt tk σZ pz HZ s1 e s' I1 hq
  | ok fl =>
    cases fl with
    | ret u => exact I1.after hq
    | _ => exact hq.elim
end
/-- what a lambda sees of the names -/
def seen (ρ : Env) (σ : L2.St) : List V := List.zipWith (fun o v => match o, v with
  | some _, some v => v
  | _, _ => V.non) ρ σ
theorem seen_reps {K : PySem.W.Frag} {β τ : List Addr} {H : Hp} : ∀ {σ : L2.St} {ρ : Env}, ERep K β τ H σ ρ → Reps K β τ H (ρ.map (·.getD .non)) (seen ρ σ)
  | [], [], _ => by simp [seen, Reps]
  | [], _ :: _, h => by have := h.1; simp at this
  | _ :: _, [], h => by have := h.1; simp at this
  | v :: σ, o :: ρ, h => by
    have hr : ERep K β τ H σ ρ := ⟨by have := h.1; simpa using this, fun i d hi => by simpa using h.2 (i + 1) d (by simpa using hi)⟩
    have ih := seen_reps hr
    simp only [List.map_cons, seen, List.zipWith_cons_cons]
    refine Reps.cons ?_ ih
    cases o with
    | none => simp [Rep]
    | some d =>
      obtain ⟨w, hw, r⟩ := h.2 0 d rfl
      simp only [List.getElem?_cons_zero, Option.some.injEq] at hw
      subst hw
      exact r
theorem relock_rep {K : PySem.W.Frag} {β τ β' τ' : List Addr} {H H' : Hp} : ∀ {σ : L2.St} {ρ : Env} {ds : List D}, ERep K β τ H σ ρ → Reps K β' τ' H' ds (seen ρ σ) → ERep K β' τ' H' σ (relock ρ ds)
  | [], [], ds, _, _ => ⟨by simp [relock], fun i d hi => by simp [relock] at hi⟩
  | [], _ :: _, _, h, _ => by have := h.1; simp at this
  | _ :: _, [], _, h, _ => by have := h.1; simp at this
  | v :: σ, o :: ρ, ds, h, r => by
    have hr : ERep K β τ H σ ρ := ⟨by have := h.1; simpa using this, fun i d hi => by simpa using h.2 (i + 1) d (by simpa using hi)⟩
    cases ds with
    | nil => simp [seen, Reps] at r
    | cons d ds =>
      simp only [seen, List.zipWith_cons_cons, Reps] at r
      obtain ⟨w, ws, e, r1, r2⟩ := r
      have ih := relock_rep hr (ds := ds) (by have := (List.cons.inj e).2; unfold seen; rw [this]; exact r2)
      refine ⟨by simp only [relock, List.zipWith_cons_cons, List.length_cons]; rw [← ih.1]; rfl, fun i d' hi => ?_⟩
      cases i with
      | succ i =>
        simp only [relock, List.zipWith_cons_cons, List.getElem?_cons_succ] at hi
        simpa using ih.2 i d' hi
      | zero =>
        simp only [relock, List.zipWith_cons_cons, List.getElem?_cons_zero, Option.some.injEq] at hi
        cases o with
        | none => simp at hi
        | some d0 =>
          simp only [Option.map_some, Option.some.injEq] at hi
          subst hi
          obtain ⟨w', hw, _⟩ := h.2 0 d0 rfl
          simp only [List.getElem?_cons_zero, Option.some.injEq] at hw
          subst hw
          have e1 := (List.cons.inj e).1
          simp only at e1
          exact ⟨w', rfl, e1 ▸ r1⟩
theorem noPar_is {ps : Arguments} (h : noPar ps = true) : ps = { posonlyargs := [], args := [], vararg := none, kwonlyargs := [], kw_defaults := [], kwarg := none, defaults := [] } := by
  obtain ⟨a, b, c, d, e, f, g⟩ := ps
  simp only [noPar, Bool.and_eq_true, List.isEmpty_iff, Option.isNone_iff_eq_none] at h
  obtain ⟨⟨⟨⟨⟨⟨h1, h2⟩, h3⟩, h4⟩, h5⟩, h6⟩, h7⟩ := h
  subst h1 h2 h3 h4 h5 h6 h7
  rfl
section
variable {X : Cx} {W : WX} {call : Calls} {fs : List Str} {cs : List (Str × Int)} {k : Nat} {N : List Str} {sc : Scope}
theorem backTo_plain {pos : Pos} {t : Sem Value} {rest : List (Bool × Sem Value)} : backTo pos ((false, t) :: rest) = (false, t) :: backTo pos rest := by
  unfold backTo
  rw [List.map_cons]
  rfl
/-- x(lambda: body) -/
theorem pe_lamD (g : Good X W call fs cs k N sc) {x : Str} {e : C} {p lpos pos : Pos} {ps : Arguments} {body : Expr} {scope : Scope} (hx : isGl sc x = true) (np : noPar ps = true) (ls : LamX.lamSB sc scope = true)
    (hbody : ∀ (A : Around) (outer : List PySem.Env) (s : Shared) (H : Hp) (E : XK) (f c' : Addr), A.guards = some [] → Room k (A.deeper (LamX.lamEnv X scope s.heap.objs.size f c')) → PE (LamX.lamCx X A outer s H E scope f c') body (tD X (fun cls d _ H => E cls d H) (ev call.low e))) :
    PE X (.Call (.Name x p) [.Lambda ps body scope lpos] [] pos) (tD X W (ev call (.lamc x e))) := by
  have ep := noPar_is np
  subst ep
  have L0 := LamX.lamS_by ls
  have L : LamX.LamS X.env.scope scope := ⟨L0.kind, L0.co, L0.gen, L0.own, fun y hy e => g.fre y.1 (L0.free y hy e)⟩
  refine ⟨fun pins s σ H Q I ⟨β, τ, ρ, h, R0, post⟩ => ?_⟩
  simp only [ev] at post
  generalize ht : (fun (ds : List D) (h : Sto) => ev call.low e (relock ρ ds) h) = t at post
  have nb : (lamR fun a c q us => call.lam x a c q us (ρ.map (·.getD .non)) t h) ≠ .bad := fun z => by rw [z] at post; exact post
  obtain ⟨rm2, ⟨gA, fd, nm, hm, hk, LG, bd⟩, c, P, TB, hcode, hmT, hu⟩ := g.lam x 0 0 "" [] (ρ.map (·.getD .non)) t h (by rw [lamR_at nb 0 0 "" []]; exact nb)
  refine wpAny_Call_Name_kw (ld_glob I (g.gl _ hx) hm ?_ (gl_of hx).2)
  refine PySem.W.callWith_K (h₀ := X.base) I.ok.mod.kin hk ?_ (star_cons (e := .Lambda _ body scope lpos) (es := []) rfl) rfl
  rw [star_cons (e := .Lambda _ body scope lpos) (es := []) rfl]
  rw [backTo_plain]
  refine Calls.spliced_cons (LamX.lam_make2 I TB hcode hmT hu R0.s.tab rfl (L.has I.ok) fun f c' pm' ctv H1 s' I1 eN T1 hf hfn hfr hco => ?_)
  refine Calls.spliced_nil ⟨I1.kIn, ?_⟩
  have e1 : Ext β H β H1 := ⟨⟨[], by simp⟩, fun b o hb nb nt => ⟨eN b o hb nt, nb⟩⟩
  have s1 : SRep X.K β τ H1 h := R0.s.ext e1 (fun a ha => by
    obtain ⟨vs, z⟩ := R0.s.lst_of ha
    rw [z]; exact eN a _ z (by intro ps y; cases y)) T1
  have E1 := R0.e.ext e1
  have fz : Fz β τ c' := by
    refine ⟨fun z => ?_, fun z => ?_⟩
    · obtain ⟨vs, y⟩ := s1.lst_of z
      rw [hco] at y; unfold LamX.CodeO at y; cases y
    · obtain ⟨vs, y⟩ := s1.res _ z
      rw [hco] at y; unfold LamX.CodeO at y; cases y
  have post1 : PostC X.K X.mg β τ H1 Q (fun cls d H => W cls d σ H) (call.lam x f c' (X.env.qual ++ "<lambda>") (seen ρ σ) (ρ.map (·.getD .non)) t h) := by
    rw [lamR_at nb]
    have q := PostG.mono e1 post
    revert q
    generalize (lamR fun a c q us => call.lam x a c q us (ρ.map (·.getD .non)) t h) = r
    intro q
    cases r with
    | ok d h2 => exact q
    | exc y h2 => exact q
    | bad => exact q
  have bound := bd s' [.ref f] I1.kIn rfl
  have act := LG.run X.A X.stack s' H1 ⟨[.ref f], []⟩ f c' (X.env.qual ++ "<lambda>") (seen ρ σ) (ρ.map (·.getD .non)) t β τ h Q (fun cls d H => W cls d σ H) g.gd (rm2.mono (by omega)) I1.env0 bound s1 (seen_reps E1) hco fz
    (fun Ng qg sg cdg i y pn xe W' p1 p2 hN hv hd hcd tk' => PE.imp (lam_act (tb := fun E => tD X (fun cls d _ H => E cls d H) (ev call.low e)) I1 L hf hfn hfr rfl tk' (Room.deeper (k := k + 1) rm2 _) (fun A outer s H E hg hr => hbody A outer s H E f c' (hg.trans g.gd) hr) hN hv hd hcd)
      fun σZ HZ Q' ⟨z1, z2, β', τ', ds', h', s2, r2, post2⟩ => ⟨z1, z2, β', τ', relock ρ ds', h', ⟨relock_rep E1 r2, s2⟩, by subst ht; exact post2⟩) post1
  refine wpAny_call (codeAny_mono act fun r s2 hq => ?_)
  cases r with
  | error e => exact L2.passAt g.tk σ pins H1 s' e s2 I1 hq
  | ok fl =>
    cases fl with
    | ret u => exact I1.after hq
    | _ => exact hq.elim
end
end MP

set_option autoImplicit false
set_option Elab.async false
set_option linter.all false
set_option maxRecDepth 100000
set_option maxHeartbeats 4000000
/-! The functional Python is sound: all expressions. -/
namespace MP
open PySem PySem.Spec PyProof.Rows L2
section
variable {fs : List Str} {cs : List (Str × Int)} {k : Nat} {N : List Str}
/-- the names of defs that a term calls are among fs -/
abbrev In (fs : List Str) (f : Str) : Prop := f ∈ fs
mutual
def calls : C → List Str
  | .bin _ a b => calls a ++ calls b
  | .neg a => calls a
  | .cmp _ a b => calls a ++ calls b
  | .chn _ _ a b c => calls a ++ (calls b ++ calls c)
  | .and es => callsS es
  | .or es => callsS es
  | .not a => calls a
  | .ite t a b => calls t ++ (calls a ++ calls b)
  | .tup es => callsS es
  | .lst es => callsS es
  | .idx a b => calls a ++ calls b
  | .slc a lo hi => calls a ++ (callsO lo ++ callsO hi)
  | .rev a => calls a
  | .call f es => f :: callsS es
  | .blt _ es => callsS es
  | .mth _ o es => calls o ++ callsS es
  | .lrng a => calls a
  | .inv a => calls a
  | .lamc _ e => calls e
  | .xf o _ => calls o
  | .isi o _ => calls o
  | .srs e => calls e
  | .com _ elt _ it ifs => calls elt ++ (callsI it ++ callsO ifs)
  | _ => []
def callsS : Cs → List Str
  | .nil => []
  | .cons c r => calls c ++ callsS r
def callsO : C' → List Str
  | .no => []
  | .yes c => calls c
def callsI : I → List Str
  | .of c => calls c
  | .rng1 a => calls a
  | .rng2 a b => calls a ++ calls b
  | .zip a b => calls a ++ calls b
  | .enum a => calls a
end
theorem sub_l {a b : List Str} (h : ∀ f ∈ a ++ b, f ∈ fs) : ∀ f ∈ a, f ∈ fs := fun f hf => h f (List.mem_append_left _ hf)
theorem sub_r {a b : List Str} (h : ∀ f ∈ a ++ b, f ∈ fs) : ∀ f ∈ b, f ∈ fs := fun f hf => h f (List.mem_append_right _ hf)
theorem const_D {X : Cx} {W : WX} {d : D} {v : V} {σ : L2.St} {H : Hp} {Q : VK} (r : ∀ β τ H, Rep X.K β τ H d v) (h : tD X W (fun _ h => .ok d h) σ H Q) : tC v σ H Q := by
  obtain ⟨β, τ, ρ, h, R0, p⟩ := h
  exact p β H v (Ext.refl _ _) R0.s (r _ _ _)
theorem bool_D {X : Cx} {W : WX} {m : Env → Sto → R D} {σ : L2.St} {H : Hp} {Q : V → Hp → Prop} {f : Bool → Sto → R D} (h : tD X W (fun ρ h => (m ρ h).bind fun x h => match x with | .bl b => f b h | _ => .bad) σ H Q) :
    tD X W m σ H fun x H1 => ∃ b, x = .bl b ∧ ∃ β τ ρ h, Rel X.K β τ σ H1 ρ h ∧ (∃ h0 H0 β0, Rel X.K β0 τ σ H0 ρ h0 ∧ Ext β0 H0 β H1 ∧ m ρ h0 = .ok (.bl b) h) ∧ PostG X W β τ H1 σ (repV X τ) Q (f b h) := by
  obtain ⟨β, τ, ρ, h, R0, p⟩ := h
  change PostG X W β τ H σ (repV X τ) Q ((m ρ h).bind fun x h => match x with | .bl b => f b h | _ => .bad) at p
  refine ⟨β, τ, ρ, h, R0, ?_⟩
  cases e : m ρ h with
  | exc x h1 => rw [e] at p; exact p
  | bad => rw [e] at p; exact p
  | ok x h1 =>
    rw [e] at p
    simp only [R.bind_ok] at p
    intro β1 H1 v e1 s1 r1
    cases x with
    | bl b =>
      simp only at p
      exact ⟨b, bool_of r1, β1, τ, ρ, h1, R0.ext e1 s1, ⟨h, H, β, R0, e1, e⟩, PostG.mono e1 p⟩
    | _ => exact p.elim
theorem test1_D {X : Cx} {W : WX} {m : Env → Sto → R Bool} {f : Bool → Env → Sto → R Bool} {σ : L2.St} {H : Hp} {Q : Bool → Hp → Prop} (h : tDT X W (fun ρ h => (m ρ h).bind fun c h => f c ρ h) σ H Q) :
    tDT X W m σ H fun b H1 => tDT X W (f b) σ H1 Q := by
  obtain ⟨β, τ, ρ, h, R0, p⟩ := h
  refine ⟨β, τ, ρ, h, R0, (PostG.bind repB p).wk fun v H1 ⟨β1, c, h1, e1, s1, r1, p1⟩ => ?_⟩
  subst r1
  exact ⟨β1, τ, ρ, h1, R0.ext e1 s1, p1⟩
theorem testE_D {X : Cx} {W : WX} {m : Env → Sto → R Bool} {f : Bool → Env → Sto → R D} {σ : L2.St} {H : Hp} {Q : VK} (h : tD X W (fun ρ h => (m ρ h).bind fun c h => f c ρ h) σ H Q) :
    tDT X W m σ H fun b H1 => tD X W (f b) σ H1 Q := by
  obtain ⟨β, τ, ρ, h, R0, p⟩ := h
  refine ⟨β, τ, ρ, h, R0, (PostG.bind repB p).wk fun v H1 ⟨β1, c, h1, e1, s1, r1, p1⟩ => ?_⟩
  subst r1
  exact ⟨β1, τ, ρ, h1, R0.ext e1 s1, p1⟩
theorem one_D {X : Cx} {W : WX} {α γ : Type} {m : Env → Sto → R D} {f : D → Sto → R α} {rep : List Addr → List Addr → Hp → α → γ → Prop} {σ : L2.St} {H : Hp} {Q : γ → Hp → Prop}
    (h : ∃ β τ ρ h, Rel X.K β τ σ H ρ h ∧ PostG X W β τ H σ (rep τ) Q ((m ρ h).bind f)) :
    tD X W m σ H fun v H1 => ∃ β τ x ρ h, Rel X.K β τ σ H1 ρ h ∧ Rep X.K β τ H1 x v ∧ PostG X W β τ H1 σ (rep τ) Q (f x h) := by
  obtain ⟨β, τ, ρ, h, R0, p⟩ := h
  exact ⟨β, τ, ρ, h, R0, (PostG.bind (repV X τ) p).wk fun v H1 ⟨β1, x, h1, e1, s1, r1, p1⟩ => ⟨β1, τ, x, ρ, h1, R0.ext e1 s1, r1, p1⟩⟩
theorem noT {X : Cx} {W : WX} {e : Expr} {m : Env → Sto → R Bool} (h : ∀ ρ h, m ρ h = .bad) : PT X e (tDT X W m) := ⟨fun pins s σ H Q I q => by
  obtain ⟨β, τ, ρ, h0, R0, p⟩ := q
  rw [h] at p; exact p.elim⟩
theorem noE {X : Cx} {W : WX} {e : Expr} {m : Env → Sto → R D} (h : ∀ ρ h, m ρ h = .bad) : PE X e (tD X W m) := ⟨fun pins s σ H Q I q => by
  obtain ⟨β, τ, ρ, h0, R0, p⟩ := q
  rw [h] at p; exact p.elim⟩
theorem noW {X : Cx} {W : WX} {e : Expr} {m : Env → Sto → R Bool} (h : ∀ ρ h, m ρ h = .bad) : PW X e (tDT X W m) := ⟨fun wh pins s σ H Q I q => by
  obtain ⟨β, τ, ρ, h0, R0, p⟩ := q
  rw [h] at p; exact p.elim⟩
theorem pe_never {X : Cx} {e : Expr} : PE X e (fun _ _ _ => False) := ⟨fun _ _ _ _ _ _ h => h.elim⟩
theorem fldD_of {ok : Str → Str → Bool} {d y : D} {f : Str} (e : fldD ok d f = some y) : ∃ c fn ds, d = .rcd (.exc c fn) ds ∧ ok c f = true ∧ (fn.zip ds).lookup f = some y := by
  unfold fldD at e
  split at e
  · split at e
    · rename_i h; exact ⟨_, _, _, rfl, h, e⟩
    · cases e
  · cases e
theorem isiD_of {isx : Str → Str → Option Bool} {d : D} {c : Str} {b : Bool} (e : isiD isx d c = some b) : ∃ c' ds, d = .rcd (.exc c' []) ds ∧ isx c' c = some b := by
  unfold isiD at e
  split at e
  · exact ⟨_, _, rfl, e⟩
  · cases e
theorem exc_rep {K : PySem.W.Frag} {β τ : List Addr} {H : Hp} {c : Str} {fn : List Str} {ds : List D} {v : V} (r : Rep K β τ H (.rcd (.exc c fn) ds) v) (ne : fn ≠ []) :
    ∃ a dd us, v = .ref a ∧ H a = some (XO a (.ref (He.ga K c)) (some dd)) ∧ H dd = some (.xd (fn.zip us)) ∧ us.length = fn.length ∧ Reps K β τ H ds us := by
  simp only [Rep] at r
  obtain ⟨a, us, fp, rfl, q, ⟨h1, h2⟩, w⟩ := r
  rcases h2 with ⟨z, _⟩ | ⟨_, dd, rfl⟩
  · exact absurd z ne
  · exact ⟨a, dd, us, rfl, (q _ List.mem_cons_self).1, (q _ (List.mem_cons_of_mem _ List.mem_cons_self)).1, h1, w⟩
theorem exm_rep {K : PySem.W.Frag} {β τ : List Addr} {H : Hp} {c : Str} {ds : List D} {v : V} (r : Rep K β τ H (.rcd (.exc c []) ds) v) : ∃ a us, v = .ref a ∧ H a = some (XO a (.ref (He.ga K c)) none) ∧ Reps K β τ H ds us := by
  simp only [Rep] at r
  obtain ⟨a, us, fp, rfl, q, ⟨h1, h2⟩, w⟩ := r
  rcases h2 with ⟨_, rfl⟩ | ⟨z, _⟩
  · exact ⟨a, us, rfl, (q _ List.mem_cons_self).1, w⟩
  · exact absurd rfl z
theorem zip_look {K : PySem.W.Frag} {β τ : List Addr} {H : Hp} {f : Str} {y : D} : ∀ {fn : List Str} {us : List V} {ds : List D}, us.length = fn.length → Reps K β τ H ds us → (fn.zip ds).lookup f = some y → ∃ u, (fn.zip us).lookup f = some u ∧ Rep K β τ H y u
  | [], us, ds, _, _, e => by simp at e
  | n :: fn, [], ds, l, _, _ => by simp at l
  | n :: fn, u :: us, [], _, r, _ => by simp [Reps] at r
  | n :: fn, u :: us, d :: ds, l, r, e => by
    simp only [Reps] at r
    obtain ⟨v, w, ew, r1, r2⟩ := r
    cases ew
    simp only [List.zip_cons_cons, List.lookup_cons] at e ⊢
    cases z : f == n with
    | true => rw [z] at e; cases e; exact ⟨u, rfl, r1⟩
    | false => rw [z] at e; exact zip_look (by simpa using l) r2 e
mutual
theorem sndE : ∀ (c : C) {call : Calls} {X : Cx} {W : WX} {sc : Scope} {e : Expr}, Good X W call fs cs k N sc → (∀ f ∈ calls c, f ∈ fs) → ck N cs sc c e = true → PE X e (tD X W (ev call c))
  | .var i, call, X, W, sc, e, g, hc, h => by
    simp only [ck] at h
    split at h <;> first | cases h | skip
    rename_i x p
    simp only [Bool.and_eq_true, decide_eq_true_eq] at h
    obtain ⟨⟨⟨h1, h2⟩, h3⟩, h4⟩ := h
    refine PE.imp (pe_var (i := i) (by rw [g.hN]; exact h1) (g.vis x h2) (by simpa using h3) (by simpa using h4)) fun σ H Q q => ?_
    obtain ⟨β, τ, ρ, h, R0, p⟩ := q
    simp only [ev] at p
    cases z : ρ[i]? with
    | none => rw [z] at p; exact p.elim
    | some o =>
      cases o with
      | none => rw [z] at p; exact p.elim
      | some d =>
        rw [z] at p
        obtain ⟨v, hv, rv⟩ := R0.e.2 i d z
        exact ⟨v, hv, p β H v (Ext.refl _ _) R0.s rv⟩
  | .con y i, call, X, W, sc, e, g, hc, h => by
    simp only [ck] at h
    split at h <;> first | cases h | skip
    rename_i x p
    simp only [Bool.and_eq_true, decide_eq_true_eq] at h
    obtain ⟨⟨rfl, h2⟩, h3⟩ := h
    obtain ⟨t, ht⟩ := g.con _ _ h3
    exact PE.imp (pe_glob (v := .int i) (g.gl _ h2) ht ⟨t, rfl⟩ (gl_of h2).2) fun σ H Q q => const_D (fun _ _ _ => by simp [Rep]) q
  | .typ y n, call, X, W, sc, e, g, hc, h => by
    simp only [ck] at h
    split at h <;> first | cases h | skip
    rename_i x p
    simp only [Bool.and_eq_true, decide_eq_true_eq] at h
    obtain ⟨⟨⟨rfl, h2⟩, h3⟩, h4⟩ := h
    split at h4
    · rename_i m hm
      simp only [decide_eq_true_eq] at h4
      subst h4
      exact PE.imp (pe_bltn (v := .ty m) (g.gl _ h2) (g.blt _ h3) hm rfl (ns_name h3) (gl_of h2).2) fun σ H Q q => const_D (fun _ _ _ => by simp [Rep]) q
    · cases h4
  | .int i, call, X, W, sc, e, g, hc, h => by
    simp only [ck] at h
    split at h <;> first | cases h | skip
    simp only [decide_eq_true_eq] at h
    subst h
    exact PE.imp pe_int fun σ H Q q => const_D (fun _ _ _ => by simp [Rep]) q
  | .str s, call, X, W, sc, e, g, hc, h => by
    simp only [ck] at h
    split at h <;> first | cases h | skip
    simp only [decide_eq_true_eq] at h
    subst h
    exact PE.imp pe_str fun σ H Q q => const_D (fun _ _ _ => by simp [Rep]) q
  | .bl b, call, X, W, sc, e, g, hc, h => by
    simp only [ck] at h
    split at h <;> first | cases h | skip
    simp only [decide_eq_true_eq] at h
    subst h
    exact PE.imp pe_bl fun σ H Q q => const_D (fun _ _ _ => by simp [Rep]) q
  | .non, call, X, W, sc, e, g, hc, h => by
    simp only [ck] at h
    split at h <;> first | cases h | skip
    exact PE.imp pe_non fun σ H Q q => const_D (fun _ _ _ => by simp [Rep]) q
  | .bin op a b, call, X, W, sc, e, g, hc, h => by
    simp only [ck] at h
    split at h <;> first | cases h | skip
    simp only [Bool.and_eq_true, decide_eq_true_eq] at h
    obtain ⟨⟨rfl, h1⟩, h2⟩ := h
    simp only [calls] at hc
    exact PE.imp (pe_op (op_binD op) (sndE a g (sub_l hc) h1) (sndE b g (sub_r hc) h2)) fun σ H Q q => tOp_D (by simpa only [ev] using q)
  | .neg a, call, X, W, sc, e, g, hc, h => by
    simp only [ck] at h
    split at h <;> first | cases h | skip
    simp only [calls] at hc
    refine PE.imp (pe_un un_negD (sndE a g hc h)) fun σ H Q q => ?_
    obtain ⟨β, τ, ρ, h, R0, p⟩ := q
    simp only [ev] at p
    refine ⟨β, τ, ρ, h, R0, (PostG.bind (repV X τ) p).wk fun v H1 ⟨β1, x, h1, e1, s1, r1, p1⟩ => ?_⟩
    cases o : negD x with
    | none => rw [o] at p1; exact p1.elim
    | some d =>
      rw [o] at p1
      exact ⟨β1, τ, h1, x, d, s1, r1, o, fun H' v e s r => p1 β1 H' v e s r⟩
  | .inv a, call, X, W, sc, e, g, hc, h => by
    simp only [ck] at h
    split at h <;> first | cases h | skip
    simp only [calls] at hc
    refine PE.imp (pe_un un_invD (sndE a g hc h)) fun σ H Q q => ?_
    obtain ⟨β, τ, ρ, h, R0, p⟩ := q
    simp only [ev] at p
    refine ⟨β, τ, ρ, h, R0, (PostG.bind (repV X τ) p).wk fun v H1 ⟨β1, x, h1, e1, s1, r1, p1⟩ => ?_⟩
    cases o : invD x with
    | none => rw [o] at p1; exact p1.elim
    | some d =>
      rw [o] at p1
      exact ⟨β1, τ, h1, x, d, s1, r1, o, fun H' v e s r => p1 β1 H' v e s r⟩
  | .cmp op a b, call, X, W, sc, e, g, hc, h => by
    simp only [ck] at h
    split at h <;> first | cases h | skip
    simp only [Bool.and_eq_true, decide_eq_true_eq] at h
    obtain ⟨⟨⟨rfl, h0⟩, h1⟩, h2⟩ := h
    simp only [calls] at hc
    exact PE.imp (pe_cmpR (op_cmpD g.hu op) (sndE a g (sub_l hc) h1) (sndE b g (sub_r hc) h2) (nobe h0)) fun σ H Q q => tOp_D (op := fun x y => (cmpD op x y).map .bl) (by simpa only [ev] using q)
  | .chn op op' a b c, call, X, W, sc, e, g, hc, h => by
    simp only [ck] at h
    split at h <;> first | cases h | skip
    simp only [Bool.and_eq_true, decide_eq_true_eq] at h
    obtain ⟨⟨⟨⟨⟨rfl, rfl⟩, h0⟩, h1⟩, h2⟩, h3⟩ := h
    simp only [calls] at hc
    exact PE.imp (pe_chain (op_cmpD g.hu op) (op_cmpD g.hu op') (sndE a g (sub_l hc) h1) (sndE b g (sub_l (sub_r hc)) h2) (sndE c g (sub_r (sub_r hc)) h3) (nobe h0)) fun σ H Q q => by
      simp only [ev] at q
      exact tChain_D q
  | .and es, call, X, W, sc, e, g, hc, h => by
    simp only [ck] at h
    split at h <;> first | cases h | skip
    simp only [calls] at hc
    exact PE.imp (sndAnd es g hc h) fun σ H Q q => by simpa only [ev] using q
  | .or es, call, X, W, sc, e, g, hc, h => by
    simp only [ck] at h
    split at h <;> first | cases h | skip
    simp only [calls] at hc
    exact PE.imp (sndOr es g hc h) fun σ H Q q => by simpa only [ev] using q
  | .not a, call, X, W, sc, e, g, hc, h => by
    simp only [ck] at h
    split at h <;> first | cases h | skip
    simp only [calls] at hc
    refine PE.imp (pe_not (sndE a g hc h)) fun σ H Q q => ?_
    simp only [ev] at q
    obtain ⟨β, τ, ρ, h, R0, p⟩ := bool_D (f := fun b h => .ok (.bl (!b)) h) q
    exact ⟨β, τ, ρ, h, R0, p.wk fun v H1 ⟨b, eb, β1, τ1, ρ1, h1, R1, _, p1⟩ => ⟨b, eb, p1 β1 H1 _ (Ext.refl _ _) R1.s (by simp [Rep])⟩⟩
  | .ite t a b, call, X, W, sc, e, g, hc, h => by
    simp only [ck] at h
    split at h <;> first | cases h | skip
    simp only [Bool.and_eq_true] at h
    simp only [calls] at hc
    refine PE.imp (pe_ifExp (sndT t g (sub_l hc) h.1.1) (sndE a g (sub_l (sub_r hc)) h.1.2) (sndE b g (sub_r (sub_r hc)) h.2)) fun σ H Q q => ?_
    obtain ⟨β, τ, ρ, h, R0, p⟩ := testE_D (f := fun c ρ h => if c then ev call a ρ h else ev call b ρ h) (by simpa only [ev] using q)
    refine ⟨β, τ, ρ, h, R0, p.wk fun c H1 z => ?_⟩
    cases c with
    | true => rw [if_pos rfl]; exact z
    | false => rw [if_neg Bool.false_ne_true]; exact z
  | .tup es, call, X, W, sc, e, g, hc, h => by
    simp only [ck] at h
    split at h <;> first | cases h | skip
    simp only [calls] at hc
    refine PE.imp (pe_tup (sndEs es g hc h)) fun σ H Q q => ?_
    obtain ⟨β, τ, ρ, h, R0, p⟩ := q
    simp only [ev] at p
    refine ⟨β, τ, ρ, h, R0, (PostG.bind (repL X τ) p).wk fun vs H1 ⟨β1, xs, h1, e1, s1, r1, p1⟩ => ?_⟩
    by_cases z : xs.length ≤ sizeLine
    · rw [if_pos z] at p1
      refine ⟨by rw [r1.length]; exact z, fun p hp => ?_⟩
      obtain ⟨e2, s2, r2⟩ := new_tup s1 hp r1
      exact p1 β1 _ _ e2 s2 r2
    · rw [if_neg z] at p1; exact p1.elim
  | .lst es, call, X, W, sc, e, g, hc, h => by
    simp only [ck] at h
    split at h <;> first | cases h | skip
    simp only [calls] at hc
    refine PE.imp (pe_lst (sndEs es g hc h)) fun σ H Q q => ?_
    obtain ⟨β, τ, ρ, h, R0, p⟩ := q
    simp only [ev] at p
    refine ⟨β, τ, ρ, h, R0, (PostG.bind (repL X τ) p).wk fun vs H1 ⟨β1, xs, h1, e1, s1, r1, p1⟩ => ?_⟩
    by_cases z : xs.length ≤ sizeLine
    · rw [if_pos z] at p1
      refine ⟨by rw [r1.length]; exact z, fun p hp => ?_⟩
      obtain ⟨e2, s2, r2⟩ := new_lst s1 hp r1
      exact p1 β1 _ _ e2 s2 r2
    · rw [if_neg z] at p1; exact p1.elim
  | .idx a b, call, X, W, sc, e, g, hc, h => by
    simp only [ck] at h
    split at h <;> first | cases h | skip
    simp only [Bool.and_eq_true] at h
    simp only [calls] at hc
    refine PE.imp (pe_ix ix_D (sndE a g (sub_l hc) h.1.2) (sndE b g (sub_r hc) h.2) (plainix h.1.1)) fun σ H Q q => ?_
    obtain ⟨β, τ, ρ, h, R0, p⟩ := q
    simp only [ev] at p
    refine ⟨β, τ, ρ, h, R0, (PostG.bind (repV X τ) p).wk fun v H1 ⟨β1, x, h1, e1, s1, r1, p1⟩ => ?_⟩
    refine ⟨β1, τ, ρ, h1, R0.ext e1 s1, (PostG.bind (repV X τ) p1).wk fun u H2 ⟨β2, y, h2, e2, s2, r2, p2⟩ => ?_⟩
    cases o : idxD (deref h2 x) y with
    | none => rw [o] at p2; exact p2.elim
    | some d =>
      rw [o] at p2
      exact ⟨β2, τ, h2, x, y, d, s2, r1.ext e2, r2, o, fun H' v e s r => p2 β2 H' v e s r⟩
  | .slc a lo hi, call, X, W, sc, e, g, hc, h => by
    simp only [ck] at h
    split at h <;> first | cases h | skip
    simp only [Bool.and_eq_true] at h
    simp only [calls] at hc
    refine PE.imp (pe_slice sl_D (sndE a g (sub_l hc) h.1.1) (sndO lo g (sub_l (sub_r hc)) h.1.2) (sndO hi g (sub_r (sub_r hc)) h.2)) fun σ H Q q => ?_
    obtain ⟨β, τ, ρ, h, R0, p⟩ := q
    simp only [ev] at p
    refine ⟨β, τ, ρ, h, R0, (PostG.bind (repV X τ) p).wk fun v H1 ⟨β1, x, h1, e1, s1, r1, p1⟩ => ?_⟩
    refine ⟨β1, τ, ρ, h1, R0.ext e1 s1, (PostG.bind repO p1).wk fun l H2 ⟨β2, y, h2, e2, s2, r2, p2⟩ => ?_⟩
    subst r2
    refine ⟨β2, τ, ρ, h2, (R0.ext e1 s1).ext e2 s2, (PostG.bind repO p2).wk fun u H3 ⟨β3, y3, h3, e3, s3, r3, p3⟩ => ?_⟩
    subst r3
    cases o : slcD (deref h3 x) l u with
    | none => rw [o] at p3; exact p3.elim
    | some d =>
      rw [o] at p3
      exact ⟨β3, τ, h3, x, d, s3, (r1.ext e2).ext e3, o, fun H' v e s r => p3 β3 H' v e s r⟩
  | .rev a, call, X, W, sc, e, g, hc, h => by
    simp only [ck] at h
    split at h <;> first | cases h | skip
    simp only [calls] at hc
    refine PE.imp (pe_back (sndE a g hc h)) fun σ H Q q => ?_
    obtain ⟨β, τ, ρ, h, R0, p⟩ := q
    simp only [ev] at p
    refine ⟨β, τ, ρ, h, R0, (PostG.bind (repV X τ) p).wk fun v H1 ⟨β1, x, h1, e1, s1, r1, p1⟩ => ?_⟩
    have rr := deref_rep s1 r1
    revert p1 rr
    generalize deref h1 x = y
    intro p1 rr
    cases y with
    | tup xs =>
      obtain ⟨a, vs, rfl, ha, r2⟩ := rr.tup
      refine .inr ⟨a, vs, rfl, ha, fun p hp => ?_⟩
      obtain ⟨e2, s2, r3⟩ := new_tup s1 hp r2.reverse
      exact p1 β1 _ _ e2 s2 r3
    | lst xs =>
      obtain ⟨a, vs, rfl, ha, r2⟩ := rr
      refine .inl ⟨a, vs, rfl, SqL.of ha, fun p hp => ?_⟩
      obtain ⟨e2, s2, r3⟩ := new_lst s1 hp r2.reverse
      exact p1 β1 _ _ e2 s2 r3
    | _ => exact p1.elim
  | .call f es, call, X, W, sc, e, g, hc, h => by
    simp only [ck] at h
    split at h <;> first | cases h | skip
    rename_i x p xs pos
    simp only [Bool.and_eq_true, decide_eq_true_eq] at h
    obtain ⟨⟨⟨rfl, h1⟩, h2⟩, h3⟩ := h
    simp only [calls] at hc
    obtain ⟨a, fd, ps, mf, kf, F, bd, ar⟩ := g.fns f (hc f List.mem_cons_self)
    cases xs with
    | nil => simp at h3
    | cons y ys =>
      have ia := sndEs es g (fun f hf => hc f (List.mem_cons_of_mem _ hf)) h2
      have st := cks_star h2
      exact PE.imp (pe_callG F g.gd g.rm (g.gl _ h1) (gl_of h1).2 mf kf bd g.tk ia st) fun σ H Q q => call_D (m := ps.length) (by simpa only [ev] using q) ar
  | .blt f es, call, X, W, sc, e, g, hc, h => by
    simp only [ck] at h
    split at h <;> first | cases h | skip
    rename_i x p xs pos
    simp only [Bool.and_eq_true, decide_eq_true_eq, Bool.or_eq_true] at h
    obtain ⟨⟨⟨⟨rfl, h1⟩, h2⟩, h3⟩, h4⟩ := h
    simp only [calls] at hc
    cases xs with
    | nil => simp at h4
    | cons y ys =>
      have ia := sndEs es g hc h3
      have st := cks_star h3
      simp only [List.all_cons, Bool.and_eq_true] at st
      have nn := mem_ns h2
      rcases h2 with h2 | h2
      · obtain ⟨id, hb, cr⟩ := bltFn_case g h2
        exact PE.imp (pe_callB cr (g.gl _ h1) (g.blt _ nn) hb ia (ns_name nn) (gl_of h1).2 (star_cons st.1) (star_any st.2)) fun σ H Q q => tCB_D (by simpa only [ev] using q)
      · obtain ⟨id, hb, cr⟩ := bltTy_case (X := X) h2
        exact PE.imp (pe_callTy cr (g.gl _ h1) (g.blt _ nn) hb ia (ns_name nn) (gl_of h1).2 (star_cons st.1) (star_any st.2)) fun σ H Q q => tCB_D (by simpa only [ev] using q)
  | .mth m o es, call, X, W, sc, e, g, hc, h => by
    simp only [ck] at h
    split at h <;> first | cases h | skip
    rename_i x p1 y p2 xs pos
    simp only [Bool.and_eq_true, decide_eq_true_eq] at h
    obtain ⟨⟨⟨⟨⟨rfl, h1⟩, h2⟩, h3⟩, h4⟩, h5⟩ := h
    simp only [calls] at hc
    have io := sndE o g (sub_l hc) h1
    have ia := sndEs es g (sub_r hc) h2
    have st := cks_star h2
    cases xs with
    | nil => simp at h3
    | cons z zs =>
      cases zs with
      | cons _ _ => simp at h3
      | nil =>
        simp only [List.all_cons, Bool.and_eq_true] at st
        have fin : ∀ {id : String} (pa : PlainAttrs "list") (slot : Slot "list" m id) (ty : typeOf (.builtin id) = pure (.type "method_descriptor")) (w : (m = "append" ∧ id = "list.append") ∨ (m = "extend" ∧ id = "list.extend") ∨ (m = "pop" ∧ id = "list.pop")),
            PE X (.Call (.Attribute (.Name x p1) m p2) [z] [] pos) (tD X W (ev call (.mth m o es))) := fun {id} pa slot ty w => by
          refine PE.imp (pe_bm pa slot ty (mt_D w) io ia rfl (few1 st.1) h4 (star_cons st.1) (star_any rfl)) fun σ H Q q => ?_
          obtain ⟨β, τ, ρ, h, R0, p⟩ := q
          simp only [ev] at p
          refine ⟨β, τ, ρ, h, R0, (PostG.bind (repV X τ) p).wk fun v H1 ⟨β1, x1, h1, e1, s1, r1, p1⟩ => ?_⟩
          cases x1 with
          | ref i =>
            have r0 := r1
            simp only [Rep] at r0
            obtain ⟨a, rfl, ha⟩ := r0
            have hl : i < h1.length := by rw [s1.len]; exact (List.getElem?_eq_some_iff.mp ha).1
            have hx : h1[i]? = some h1[i] := by simp [hl]
            refine ⟨?_, β1, τ, ρ, h1, R0.ext e1 s1, (PostG.bind (repL X τ) p1).wk fun vs H2 ⟨β2, as, h2, e2, s2, r2, p2⟩ => ?_⟩
            · have m1 := s1.at_ i _ a hx ha
              revert m1
              generalize h1[i] = ob
              intro m1
              cases ob with
              | lst ds => obtain ⟨cs, hcs, _⟩ := m1; exact .inl ⟨rfl, cs, SqL.of hcs⟩
            · cases hi : h2[i]? with
              | none => rw [hi] at p2; exact p2.elim
              | some ob =>
                cases ob with
                | lst ds =>
                  rw [hi] at p2
                  dsimp only at p2
                  cases hm : mthD m ds (if m = "extend" then as.map (deref h2) else as) with
                  | none => rw [hm] at p2; exact p2.elim
                  | some pr =>
                    obtain ⟨y1, ys⟩ := pr
                    rw [hm] at p2
                    exact ⟨β2, τ, h2, i, ds, as, ys, y1, s2, r1.ext e2, r2, hi, hm, fun H' v e s r => p2 β2 H' v e s r⟩
          | _ => exact p1.elim
        simp only [Bool.or_eq_true, decide_eq_true_eq] at h5
        rcases h5 with (rfl | rfl) | rfl
        · exact fin PySem.F.plainAttrs_list PySem.F.slot_list_append PySem.F.type_list_append (.inl ⟨rfl, rfl⟩)
        · exact fin PySem.F.plainAttrs_list PySem.F.slot_list_extend PySem.F.type_list_extend (.inr (.inl ⟨rfl, rfl⟩))
        · exact fin PySem.F.plainAttrs_list PySem.F.slot_list_pop PySem.F.type_list_pop (.inr (.inr ⟨rfl, rfl⟩))
  | .lrng a, call, X, W, sc, e, g, hc, h => by
    simp only [ck] at h
    split at h <;> first | cases h | skip
    rename_i x p y p2 e p3 p4
    simp only [Bool.and_eq_true, decide_eq_true_eq] at h
    obtain ⟨⟨⟨⟨⟨rfl, h1⟩, rfl⟩, h2⟩, h3⟩, h4⟩ := h
    simp only [calls] at hc
    have b1 : ("list" : Str) ∈ builtinNs := by decide +kernel
    have b2 : ("range" : Str) ∈ builtinNs := by decide +kernel
    refine PE.imp (pe_listRg g.calm (g.gl _ h1) (g.blt _ b1) (prg_1 (g.gl _ h2) (g.blt _ b2) (sndE a g hc h4) (star_cons h3)) rfl) fun σ H Q q => ?_
    obtain ⟨β, τ, ρ, h, R0, p⟩ := q
    simp only [ev] at p
    refine ⟨β, τ, ρ, h, R0, (PostG.bind (repV X τ) p).wk fun v H1 ⟨β1, x, h1, e1, s1, r1, p1⟩ => ?_⟩
    cases x with
    | int j =>
      simp only at p1
      by_cases z : -(2 ^ 62) ≤ j ∧ j < 2 ^ 20
      · rw [if_pos z] at p1
        refine ⟨j, int_of r1, ⟨by decide, by decide, z.1, by omega, by omega⟩, fun p hp => ?_⟩
        have rr : Reps X.K β1 τ H1 (range 0 j.toNat) (rgV 0 j) := by
          unfold range rgV
          rw [Int.sub_zero]
          generalize List.range j.toNat = l
          induction l with
          | nil => simp [Reps]
          | cons i l ih => exact Reps.cons (by simp [Rep]) ih
        obtain ⟨e2, s2, r2⟩ := new_lst s1 hp rr
        exact p1 β1 _ _ e2 s2 r2
      · rw [if_neg z] at p1; exact p1.elim
    | _ => exact p1.elim
  | .dic kvs, call, X, W, sc, e, g, hc, h => by
    simp only [ck] at h
    split at h <;> first | cases h | skip
    unfold ckDic at h
    split at h
    · refine PE.imp pe_dnewK fun σ H Q q => ?_
      obtain ⟨β, τ, ρ, h, R0, p⟩ := q
      simp only [ev] at p
      intro a ha
      exact p β _ _ (Ext.new _ ha) (R0.s.new _ ha) (by simp only [Rep]; exact ⟨a, rfl, upd_same, ⟨R0.s.fresh ha, R0.s.offTau ha⟩, by simp⟩)
    · simp only [Bool.and_eq_true, decide_eq_true_eq] at h
      obtain ⟨rfl, rfl⟩ := h
      refine PE.imp (pe_disp (pps_cons pe_int pe_int pps_nil) rfl rfl (fun z => by cases z) (by simp)) fun σ H Q q => ?_
      obtain ⟨β, τ, ρ, h, R0, p⟩ := q
      simp only [ev] at p
      intro a ha
      refine ⟨upd_same, [(Sum.inl _, V.int _)], rfl, by simp, ?_⟩
      rw [upd_upd]
      exact p β _ _ (Ext.new _ ha) (R0.s.new _ ha) (by simp only [Rep]; exact ⟨a, rfl, upd_same, ⟨R0.s.fresh ha, R0.s.offTau ha⟩, by simp [flatV1]⟩)
    · cases h
  | .com own elt tg it ifs, call, X, W, sc, e, g, hc, h => by
    simp only [ck] at h
    split at h <;> first | cases h | skip
    simp only [Bool.and_eq_true, List.all_eq_true] at h
    obtain ⟨⟨⟨⟨⟨⟨h1, h2⟩, h3⟩, h4⟩, h5⟩, h6⟩, h7⟩ := h
    simp only [calls] at hc
    refine PE.imp (pe_lc (g := gD X.K tg) (tt := tDT X WF (tstO call.noact ifs)) (te := tD X WF (ev call.noact elt)) g.calm (by rw [g.hN]; exact g.nd) (sndI it g (sub_l (sub_r hc)) h2) (g.blkOk h1) (fun s H C cl fp => (g.blk s H C cl fp).tg h4)
      (fun s H C cl fp => sndF ifs (g.blk s H C cl fp) (sub_r (sub_r hc)) h7) (fun s H C cl fp => sndE elt (g.blk s H C cl fp) (sub_l hc) h6) (nofold h3)) fun σ H Q q => ?_
    exact com_D (fun i hi => by simpa using h5 i hi) q
  | .lamc f b, call, X, W, sc, e, g, hc, h => by
    simp only [ck] at h
    split at h <;> first | cases h | skip
    rename_i x p ps body sc' lpos pos
    simp only [Bool.and_eq_true, decide_eq_true_eq] at h
    obtain ⟨⟨⟨⟨rfl, h1⟩, h2⟩, h3⟩, h4⟩ := h
    simp only [calls] at hc
    have L := LamX.lamS_by h3
    refine pe_lamD g h1 h2 h3 fun A outer s H E f c' hg hr => ?_
    have gl : Good (LamX.lamCx X A outer s H E sc' f c') (fun cls d _ H => E cls d H) call.low fs cs k N sc' := {
      hN := g.hN
      vis := fun x hx => vis_of hx
      gl := fun x hx => (gl_of hx).1
      loc := fun x hx => by
        rcases loc_of hx with z | z
        · exact absurd rfl (L.own _ (PySem.mem_of_lookup z)).1
        · exact absurd rfl (L.own _ (PySem.mem_of_lookup z)).2
      fre := fun x hx => hx
      nd := g.nd
      calm := rfl
      tk := takes_of rfl rfl rfl rfl
      own := passes_of rfl
      gd := hg
      rm := hr
      blt := g.blt
      con := g.con
      fns := g.fns
      cls := ⟨g.cls.isx, g.cls.fld⟩
      lam := fun _ _ _ _ _ _ _ _ z => absurd rfl z
      act := fun i x p1 p2 _ _ _ _ => noE (by
        intro ρ h
        simp only [ev, Calls.low]
        split <;> rfl) }
    exact sndE b gl hc h4
  | .act i, call, X, W, sc, e, g, hc, h => by
    simp only [ck] at h
    split at h <;> first | cases h | skip
    simp only [Bool.and_eq_true, decide_eq_true_eq] at h
    exact g.act i _ _ _ h.1.1.1 h.1.1.2 (by simpa using h.1.2) (by simpa using h.2)
  | .xf o f, call, X, W, sc, e, g, hc, h => by
    simp only [ck] at h
    split at h <;> first | cases h | skip
    simp only [Bool.and_eq_true, decide_eq_true_eq] at h
    obtain ⟨rfl, h1⟩ := h
    simp only [calls] at hc
    refine PE.imp (pe_fldX (sndE o g hc h1) (by rfl)) fun σ H Q q => ?_
    obtain ⟨β, τ, ρ, h, R0, p⟩ := q
    simp only [ev] at p
    refine ⟨β, τ, ρ, h, R0, (PostG.bind (repV X τ) p).wk fun v H1 ⟨β1, d, h1, e1, s1, r1, p1⟩ => ?_⟩
    cases z : fldD call.fld d f with
    | none => rw [z] at p1; exact p1.elim
    | some y =>
      rw [z] at p1
      obtain ⟨c, fn, ds, rfl, ok, lk⟩ := fldD_of z
      obtain ⟨T, hno⟩ := g.cls.fld c f ok
      obtain ⟨a, dd, us, rfl, ha, hdd, lu, ru⟩ := exc_rep r1 (by rintro rfl; simp at lk)
      obtain ⟨u, hu, ry⟩ := zip_look lu ru lk
      exact ⟨a, _, dd, fn.zip us, u, rfl, T, hno, ha, hdd, hu, p1 β1 H1 u (Ext.refl _ _) s1 ry⟩
  | .isi o y, call, X, W, sc, e, g, hc, h => by
    simp only [ck] at h
    split at h <;> first | cases h | skip
    rename_i x p a y' p' pos
    simp only [Bool.and_eq_true, decide_eq_true_eq] at h
    obtain ⟨⟨⟨⟨h0, h1⟩, h2, h3⟩, h4⟩, h5⟩ := h
    subst h0 h2
    simp only [calls] at hc
    by_cases hy : ∃ c b, call.isx c y' = some b
    · obtain ⟨c0, b0, e0⟩ := hy
      obtain ⟨_, _, hdb, cv, hcv, _, _⟩ := g.cls.isx _ _ _ e0
      obtain ⟨cvV, pn, det⟩ : ∃ v : V, PE X (.Name y' p') (tC v) ∧ ∀ u, RelV v u → u = cv := by
        rcases hcv with ⟨m1, rfl⟩ | ⟨m1, m2, m3, n, rfl⟩
        · exact ⟨.ref _, pe_glob (v := .ref _) (g.gl _ h3) m1 rfl hdb, fun u r => r⟩
        · exact ⟨.ty n, pe_bltn (v := .ty n) (g.gl _ h3) m1 m2 rfl m3 hdb, fun u r => r⟩
      refine PE.imp (pe_callB cr_isiX (g.gl _ h1) (g.blt _ (by decide)) (by rfl) (pa_cons (sndE o g hc h5) (pa_cons pn pa_nil) (star_cons h4)) (by decide) (by decide) (star_cons h4) (star_any (by simp [noStar]))) fun σ H Q q => ?_
      obtain ⟨β, τ, ρ, h, R0, p⟩ := q
      simp only [ev] at p
      refine ⟨β, τ, ρ, h, R0, (PostG.bind (repV X τ) p).wk fun v H1 ⟨β1, d, h1, e1, s1, r1, p1⟩ => ?_⟩
      cases z : isiD call.isx d y' with
      | none => rw [z] at p1; exact p1.elim
      | some b =>
        rw [z] at p1
        obtain ⟨c, ds, rfl, hx⟩ := isiD_of z
        obtain ⟨a, us, rfl, ha, _⟩ := exm_rep r1
        obtain ⟨_, C, _, cv', hcv', _, k1⟩ := g.cls.isx _ _ _ hx
        have ec : cv' = cv := by
          rcases hcv with ⟨m1, m2⟩ | ⟨m1, m2, m3, n, m4⟩
          · rcases hcv' with ⟨m1', m2'⟩ | ⟨m1', _⟩
            · rw [m1] at m1'; cases m1'; rfl
            · rw [m1] at m1'; cases m1'
          · rcases hcv' with ⟨m1', m2'⟩ | ⟨m1', m2', _⟩
            · rw [m1] at m1'; cases m1'
            · rw [m2] at m2'; cases m2'; rfl
        subst ec
        exact ⟨a, _, cvV, cv', b, rfl, det, C, ha, k1, p1 β1 H1 _ (Ext.refl _ _) s1 (by simp [Rep])⟩
    · refine PE.imp (pe_callB cr_isiX (g.gl _ h1) (g.blt _ (by decide)) (by rfl) (pa_cons (sndE o g hc h5) (pa_cons (pe_never (e := .Name y' p')) pa_nil) (star_cons h4)) (by decide) (by decide) (star_cons h4) (star_any (by simp [noStar]))) fun σ H Q q => ?_
      obtain ⟨β, τ, ρ, h, R0, p⟩ := q
      simp only [ev] at p
      refine ⟨β, τ, ρ, h, R0, (PostG.bind (repV X τ) p).wk fun v H1 ⟨β1, d, h1, e1, s1, r1, p1⟩ => ?_⟩
      have z : isiD call.isx d y' = none := by
        unfold isiD
        split
        · cases q : call.isx _ y' with
          | none => rfl
          | some b => exact absurd ⟨_, _, q⟩ hy
        · rfl
      rw [z] at p1
      exact p1.elim
  | .srs a, call, X, W, sc, e, g, hc, h => by
    simp only [ck] at h
    cases h
theorem sndT : ∀ (c : C) {call : Calls} {X : Cx} {W : WX} {sc : Scope} {e : Expr}, Good X W call fs cs k N sc → (∀ f ∈ calls c, f ∈ fs) → ck N cs sc c e = true → PT X e (tDT X W (tst call c))
  | .and es, call, X, W, sc, e, g, hc, h => by
    simp only [ck] at h
    split at h <;> first | cases h | skip
    simp only [calls] at hc
    exact PT.imp (sndTAnd es g hc h).pt fun σ H Q q => by simpa only [tst] using q
  | .or es, call, X, W, sc, e, g, hc, h => by
    simp only [ck] at h
    split at h <;> first | cases h | skip
    simp only [calls] at hc
    exact PT.imp (sndTOr es g hc h).pt fun σ H Q q => by simpa only [tst] using q
  | .not a, call, X, W, sc, e, g, hc, h => by
    simp only [ck] at h
    split at h <;> first | cases h | skip
    simp only [calls] at hc
    refine PT.imp (pt_not (sndT a g hc h)) fun σ H Q q => ?_
    obtain ⟨β, τ, ρ, h, R0, p⟩ := q
    simp only [tst] at p
    refine ⟨β, τ, ρ, h, R0, (PostG.bind repB p).wk fun v H1 ⟨β1, c, h1, e1, s1, r1, p1⟩ => ?_⟩
    subst r1
    exact p1 β1 H1 _ (Ext.refl _ _) s1 rfl
  | .cmp op a b, call, X, W, sc, e, g, hc, h => by
    simp only [ck] at h
    split at h <;> first | cases h | skip
    simp only [Bool.and_eq_true, decide_eq_true_eq] at h
    obtain ⟨⟨⟨rfl, h0⟩, h1⟩, h2⟩ := h
    simp only [calls] at hc
    exact PT.imp (pt_cmpR (op_cmpD g.hu op) (sndE a g (sub_l hc) h1) (sndE b g (sub_r hc) h2) (nobe h0)) fun σ H Q q => test_D (by simpa only [tst] using q)
  | .chn op op' a b c, call, X, W, sc, e, g, hc, h => by
    simp only [ck] at h
    split at h <;> first | cases h | skip
    simp only [Bool.and_eq_true, decide_eq_true_eq] at h
    obtain ⟨⟨⟨⟨⟨rfl, rfl⟩, h0⟩, h1⟩, h2⟩, h3⟩ := h
    simp only [calls] at hc
    refine PT.imp (pt_chain (op_cmpD g.hu op) (op_cmpD g.hu op') (sndE a g (sub_l hc) h1) (sndE b g (sub_l (sub_r hc)) h2) (sndE c g (sub_r (sub_r hc)) h3) (nobe h0)) fun σ H Q q => ?_
    simp only [tst] at q
    refine tChain_D (X := X) (W := W) (f := cmpD op) (g := cmpD op') (ma := ev call a) (mb := ev call b) (mc := ev call c) ?_
    obtain ⟨β, τ, ρ, h, R0, p⟩ := q
    refine ⟨β, τ, ρ, h, R0, ?_⟩
    dsimp only at p ⊢
    revert p
    cases ev call a ρ h with
    | exc _ _ => exact fun p => p
    | bad => exact fun p => p
    | ok x h1 =>
      simp only [R.bind_ok]
      cases ev call b ρ h1 with
      | exc _ _ => exact fun p => p
      | bad => exact fun p => p
      | ok y h2 =>
        simp only [R.bind_ok]
        cases cmpD op (deref h2 x) (deref h2 y) with
        | none => exact fun p => p
        | some b =>
          cases b with
          | false => exact fun p β' H' v e s r => ⟨false, bool_of r, p β' H' false e s rfl⟩
          | true =>
            simp only
            cases ev call c ρ h2 with
            | exc _ _ => exact fun p => p
            | bad => exact fun p => p
            | ok z h3 =>
              simp only [R.bind_ok]
              cases cmpD op' (deref h3 y) (deref h3 z) with
              | none => exact fun p => p
              | some b => exact fun p β' H' v e s r => ⟨b, bool_of r, p β' H' b e s rfl⟩
  | .var i, call, X, W, sc, e, g, hc, h => by
    have hv := sndE (.var i) g hc h
    simp only [ck] at h
    split at h <;> first | cases h | skip
    refine PT.imp (pt_truth hv (by intro _; rfl)) fun σ H Q q => truth_D ?_
    obtain ⟨β, τ, ρ, h, R0, p⟩ := q
    refine ⟨β, τ, ρ, h, R0, ?_⟩
    simp only [tst] at p
    simp only [ev]
    cases z : ρ[i]? with
    | none => rw [z] at p; exact p
    | some o => cases o with
      | none => rw [z] at p; exact p
      | some d => rw [z] at p; exact p
  | .call f es, call, X, W, sc, e, g, hc, h => by
    have hv := sndE (.call f es) g hc h
    simp only [ck] at h
    split at h <;> first | cases h | skip
    refine PT.imp (pt_truth hv (by intro _; rfl)) fun σ H Q q => truth_D ?_
    obtain ⟨β, τ, ρ, h, R0, p⟩ := q
    refine ⟨β, τ, ρ, h, R0, ?_⟩
    simp only [tst] at p
    simp only [ev]
    cases z : evs call es ρ h with
    | ok xs h1 => rw [z] at p; exact p
    | exc _ _ => rw [z] at p; exact p
    | bad => rw [z] at p; exact p
  | .blt f es, call, X, W, sc, e, g, hc, h => by
    have hv := sndE (.blt f es) g hc h
    simp only [ck] at h
    split at h <;> first | cases h | skip
    refine PT.imp (pt_truth hv (by intro _; rfl)) fun σ H Q q => truth_D ?_
    obtain ⟨β, τ, ρ, h, R0, p⟩ := q
    refine ⟨β, τ, ρ, h, R0, ?_⟩
    simp only [tst] at p
    simp only [ev]
    cases z : evs call es ρ h with
    | ok xs h1 =>
      rw [z] at p
      simp only [R.bind_ok] at p ⊢
      cases y : bltD f (xs.map (deref h1)) with
      | none => rw [y] at p; exact p
      | some d =>
        rw [y] at p
        simp only [Option.bind_some, R.of_some, R.bind_ok] at p ⊢
        have nr : ∀ i, d ≠ .ref i := fun i w => by subst w; exact p
        have dd : deref h1 d = d := by cases d <;> first | rfl | exact absurd rfl (nr _)
        rw [dd]; exact p
    | exc _ _ => rw [z] at p; exact p
    | bad => rw [z] at p; exact p
  | .idx a b, call, X, W, sc, e, g, hc, h => by
    have hv := sndE (.idx a b) g hc h
    simp only [ck] at h
    split at h <;> first | cases h | skip
    refine PT.imp (pt_truth hv (by intro _; rfl)) fun σ H Q q => truth_D ?_
    obtain ⟨β, τ, ρ, h, R0, p⟩ := q
    refine ⟨β, τ, ρ, h, R0, ?_⟩
    simp only [tst] at p
    simp only [ev]
    cases z : ev call a ρ h with
    | exc _ _ => rw [z] at p; exact p
    | bad => rw [z] at p; exact p
    | ok x h1 =>
      rw [z] at p
      simp only [R.bind_ok] at p ⊢
      cases y : ev call b ρ h1 with
      | exc _ _ => rw [y] at p; exact p
      | bad => rw [y] at p; exact p
      | ok u h2 =>
        rw [y] at p
        simp only [R.bind_ok] at p ⊢
        cases w : idxD (deref h2 x) u with
        | none => rw [w] at p; exact p
        | some d =>
          rw [w] at p
          simp only [Option.bind_some, R.of_some, R.bind_ok] at p ⊢
          have nr : ∀ i, d ≠ .ref i := fun i w => by subst w; exact p
          have dd : deref h2 d = d := by cases d <;> first | rfl | exact absurd rfl (nr _)
          rw [dd]; exact p
  | .inv _, call, X, W, sc, e, g, hc, h => noT (by intro _ _; rfl)
  | .lamc _ _, call, X, W, sc, e, g, hc, h => noT (by intro _ _; rfl)
  | .act _, call, X, W, sc, e, g, hc, h => noT (by intro _ _; rfl)
  | .xf _ _, call, X, W, sc, e, g, hc, h => noT (by intro _ _; rfl)
  | .srs _, call, X, W, sc, e, g, hc, h => noT (by intro _ _; rfl)
  | .isi o y, call, X, W, sc, e, g, hc, h => by
    have hv := sndE (.isi o y) g hc h
    simp only [ck] at h
    split at h <;> first | cases h | skip
    refine PT.imp (pt_truth hv (by intro _; rfl)) fun σ H Q q => truth_D ?_
    obtain ⟨β, τ, ρ, h, R0, p⟩ := q
    refine ⟨β, τ, ρ, h, R0, ?_⟩
    simp only [tst] at p
    simp only [ev]
    cases z : ev call o ρ h with
    | exc _ _ => rw [z] at p; exact p
    | bad => rw [z] at p; exact p
    | ok x h1 =>
      rw [z] at p
      simp only [R.bind_ok] at p ⊢
      cases y : isiD call.isx x _ with
      | none => rw [y] at p; exact p
      | some b => rw [y] at p; exact p
  | .con _ _, call, X, W, sc, e, g, hc, h => noT (by intro _ _; rfl)
  | .typ _ _, call, X, W, sc, e, g, hc, h => noT (by intro _ _; rfl)
  | .int _, call, X, W, sc, e, g, hc, h => noT (by intro _ _; rfl)
  | .str _, call, X, W, sc, e, g, hc, h => noT (by intro _ _; rfl)
  | .bl _, call, X, W, sc, e, g, hc, h => noT (by intro _ _; rfl)
  | .non, call, X, W, sc, e, g, hc, h => noT (by intro _ _; rfl)
  | .bin _ _ _, call, X, W, sc, e, g, hc, h => noT (by intro _ _; rfl)
  | .neg _, call, X, W, sc, e, g, hc, h => noT (by intro _ _; rfl)
  | .ite _ _ _, call, X, W, sc, e, g, hc, h => noT (by intro _ _; rfl)
  | .tup _, call, X, W, sc, e, g, hc, h => noT (by intro _ _; rfl)
  | .lst _, call, X, W, sc, e, g, hc, h => noT (by intro _ _; rfl)
  | .slc _ _ _, call, X, W, sc, e, g, hc, h => noT (by intro _ _; rfl)
  | .rev _, call, X, W, sc, e, g, hc, h => noT (by intro _ _; rfl)
  | .mth _ _ _, call, X, W, sc, e, g, hc, h => noT (by intro _ _; rfl)
  | .lrng _, call, X, W, sc, e, g, hc, h => noT (by intro _ _; rfl)
  | .dic _, call, X, W, sc, e, g, hc, h => noT (by intro _ _; rfl)
  | .com _ _ _ _ _, call, X, W, sc, e, g, hc, h => noT (by intro _ _; rfl)
theorem sndO : ∀ (c : C') {call : Calls} {X : Cx} {W : WX} {sc : Scope} {e : Option Expr}, Good X W call fs cs k N sc → (∀ f ∈ callsO c, f ∈ fs) → ckO N cs sc c e = true → PO X e (tDO X W (evO call c))
  | .no, call, X, W, sc, e, g, hc, h => by
    simp only [ckO] at h
    split at h <;> first | cases h | skip
    refine PO.imp po_none fun σ H Q q => ?_
    obtain ⟨β, τ, ρ, h, R0, p⟩ := q
    exact p β H none (Ext.refl _ _) R0.s rfl
  | .yes c, call, X, W, sc, e, g, hc, h => by
    simp only [ckO] at h
    split at h <;> first | cases h | skip
    simp only [callsO] at hc
    refine PO.imp (po_some (sndE c g hc h)) fun σ H Q q => ?_
    obtain ⟨β, τ, ρ, h, R0, p⟩ := q
    simp only [evO] at p
    refine ⟨β, τ, ρ, h, R0, (PostG.bind (repV X τ) p).wk fun v H1 ⟨β1, x, h1, e1, s1, r1, p1⟩ => ?_⟩
    cases x with
    | int i => exact ⟨i, int_of r1, p1 β1 H1 (some i) (Ext.refl _ _) s1 rfl⟩
    | _ => exact p1.elim
theorem sndF : ∀ (c : C') {call : Calls} {X : Cx} {W : WX} {sc : Scope} {e : List Expr}, Good X W call fs cs k N sc → (∀ f ∈ callsO c, f ∈ fs) → ckF N cs sc c e = true → PTs X e (tDT X W (tstO call c))
  | .no, call, X, W, sc, e, g, hc, h => by
    simp only [ckF] at h
    split at h <;> first | cases h | skip
    refine PTs.imp pts_nil fun σ H Q q => ?_
    obtain ⟨β, τ, ρ, h, R0, p⟩ := q
    exact p β H true (Ext.refl _ _) R0.s rfl
  | .yes c, call, X, W, sc, e, g, hc, h => by
    simp only [ckF] at h
    split at h <;> first | cases h | skip
    simp only [callsO] at hc
    exact PTs.imp (pts_one (sndT c g hc h)) fun σ H Q q => by simpa only [tstO] using q
theorem sndEs : ∀ (c : Cs) {call : Calls} {X : Cx} {W : WX} {sc : Scope} {e : List Expr}, Good X W call fs cs k N sc → (∀ f ∈ callsS c, f ∈ fs) → cks N cs sc c e = true → PA X e (tDA X W (evs call c))
  | .nil, call, X, W, sc, e, g, hc, h => by
    simp only [cks] at h
    split at h <;> first | cases h | skip
    exact PA.imp pa_nil fun σ H Q q => tNil_D (by simpa only [evs] using q)
  | .cons c r, call, X, W, sc, e, g, hc, h => by
    simp only [cks] at h
    split at h <;> first | cases h | skip
    simp only [Bool.and_eq_true] at h
    simp only [callsS] at hc
    exact PA.imp (pa_cons (sndE c g (sub_l hc) h.1.2) (sndEs r g (sub_r hc) h.2) (star_cons h.1.1)) fun σ H Q q => tCons_D (by simpa only [evs] using q)
theorem sndAnd : ∀ (c : Cs) {call : Calls} {X : Cx} {W : WX} {sc : Scope} {e : List Expr} {pos : Pos}, Good X W call fs cs k N sc → (∀ f ∈ callsS c, f ∈ fs) → cks N cs sc c e = true → PE X (.BoolOp .And e pos) (tD X W (evAnd call c))
  | .nil, call, X, W, sc, e, pos, g, hc, h => noE (by intro _ _; rfl)
  | .cons c .nil, call, X, W, sc, e, pos, g, hc, h => by
    simp only [cks] at h
    split at h <;> first | cases h | skip
    rename_i x xs
    simp only [Bool.and_eq_true] at h
    cases xs with
    | cons _ _ => simp at h
    | nil =>
      simp only [callsS] at hc
      exact PE.imp (pe_one (sndE c g (sub_l hc) h.1.2)) fun σ H Q q => by simpa only [evAnd] using q
  | .cons c (.cons c' r), call, X, W, sc, e, pos, g, hc, h => by
    obtain ⟨x, xs, rfl, _, k1, k2⟩ := cks_cons h
    have hc' : ∀ f ∈ calls c ++ callsS (.cons c' r), f ∈ fs := hc
    cases xs with
    | nil => simp [cks] at k2
    | cons y ys =>
      refine PE.imp (pe_and (sndE c g (sub_l hc') k1) (sndAnd (.cons c' r) g (sub_r hc') k2)) fun σ H Q q => ?_
      obtain ⟨β, τ, ρ, h, R0, p⟩ := q
      simp only [evAnd] at p
      refine ⟨β, τ, ρ, h, R0, (PostG.bind (repV X τ) p).wk fun v H1 ⟨β1, x, h1, e1, s1, r1, p1⟩ => ?_⟩
      cases x with
      | bl b =>
        refine ⟨b, bool_of r1, ?_⟩
        cases b with
        | true => rw [if_pos rfl]; exact ⟨β1, τ, ρ, h1, R0.ext e1 s1, p1⟩
        | false => rw [if_neg Bool.false_ne_true]; exact p1 β1 H1 _ (Ext.refl _ _) s1 (by simp [Rep])
      | _ => exact p1.elim
theorem sndOr : ∀ (c : Cs) {call : Calls} {X : Cx} {W : WX} {sc : Scope} {e : List Expr} {pos : Pos}, Good X W call fs cs k N sc → (∀ f ∈ callsS c, f ∈ fs) → cks N cs sc c e = true → PE X (.BoolOp .Or e pos) (tD X W (evOr call c))
  | .nil, call, X, W, sc, e, pos, g, hc, h => noE (by intro _ _; rfl)
  | .cons c .nil, call, X, W, sc, e, pos, g, hc, h => by
    simp only [cks] at h
    split at h <;> first | cases h | skip
    rename_i x xs
    simp only [Bool.and_eq_true] at h
    cases xs with
    | cons _ _ => simp at h
    | nil =>
      simp only [callsS] at hc
      exact PE.imp (pe_one (sndE c g (sub_l hc) h.1.2)) fun σ H Q q => by simpa only [evOr] using q
  | .cons c (.cons c' r), call, X, W, sc, e, pos, g, hc, h => by
    obtain ⟨x, xs, rfl, _, k1, k2⟩ := cks_cons h
    have hc' : ∀ f ∈ calls c ++ callsS (.cons c' r), f ∈ fs := hc
    cases xs with
    | nil => simp [cks] at k2
    | cons y ys =>
      refine PE.imp (pe_or (sndE c g (sub_l hc') k1) (sndOr (.cons c' r) g (sub_r hc') k2)) fun σ H Q q => ?_
      obtain ⟨β, τ, ρ, h, R0, p⟩ := q
      simp only [evOr] at p
      refine ⟨β, τ, ρ, h, R0, (PostG.bind (repV X τ) p).wk fun v H1 ⟨β1, x, h1, e1, s1, r1, p1⟩ => ?_⟩
      cases x with
      | bl b =>
        refine ⟨b, bool_of r1, ?_⟩
        cases b with
        | true => rw [if_pos rfl]; exact p1 β1 H1 _ (Ext.refl _ _) s1 (by simp [Rep])
        | false => rw [if_neg Bool.false_ne_true]; exact ⟨β1, τ, ρ, h1, R0.ext e1 s1, p1⟩
      | _ => exact p1.elim
theorem sndTAnd : ∀ (c : Cs) {call : Calls} {X : Cx} {W : WX} {sc : Scope} {e : List Expr} {pos : Pos}, Good X W call fs cs k N sc → (∀ f ∈ callsS c, f ∈ fs) → cks N cs sc c e = true → PW X (.BoolOp .And e pos) (tDT X W (tAnd call c))
  | .nil, call, X, W, sc, e, pos, g, hc, h => noW (by intro _ _; rfl)
  | .cons c .nil, call, X, W, sc, e, pos, g, hc, h => by
    simp only [cks] at h
    split at h <;> first | cases h | skip
    rename_i x xs
    simp only [Bool.and_eq_true] at h
    cases xs with
    | cons _ _ => simp at h
    | nil =>
      simp only [callsS] at hc
      exact PW.imp (pw_and1 (sndT c g (sub_l hc) h.1.2)) fun σ H Q q => by simpa only [tAnd] using q
  | .cons c (.cons c' r), call, X, W, sc, e, pos, g, hc, h => by
    obtain ⟨x, xs, rfl, _, k1, k2⟩ := cks_cons h
    have hc' : ∀ f ∈ calls c ++ callsS (.cons c' r), f ∈ fs := hc
    cases xs with
    | nil => simp [cks] at k2
    | cons y ys =>
      refine PW.imp (pw_and (sndT c g (sub_l hc') k1) (sndTAnd (.cons c' r) g (sub_r hc') k2)) fun σ H Q q => ?_
      obtain ⟨β, τ, ρ, h, R0, p⟩ := q
      simp only [tAnd] at p
      refine ⟨β, τ, ρ, h, R0, (PostG.bind repB p).wk fun v H1 ⟨β1, c, h1, e1, s1, r1, p1⟩ => ?_⟩
      subst r1
      cases v with
      | true => rw [if_pos rfl] at p1 ⊢; exact ⟨β1, τ, ρ, h1, R0.ext e1 s1, p1⟩
      | false => rw [if_neg Bool.false_ne_true] at p1 ⊢; exact p1 β1 H1 _ (Ext.refl _ _) s1 rfl
theorem sndTOr : ∀ (c : Cs) {call : Calls} {X : Cx} {W : WX} {sc : Scope} {e : List Expr} {pos : Pos}, Good X W call fs cs k N sc → (∀ f ∈ callsS c, f ∈ fs) → cks N cs sc c e = true → PW X (.BoolOp .Or e pos) (tDT X W (tOr call c))
  | .nil, call, X, W, sc, e, pos, g, hc, h => noW (by intro _ _; rfl)
  | .cons c .nil, call, X, W, sc, e, pos, g, hc, h => by
    simp only [cks] at h
    split at h <;> first | cases h | skip
    rename_i x xs
    simp only [Bool.and_eq_true] at h
    cases xs with
    | cons _ _ => simp at h
    | nil =>
      simp only [callsS] at hc
      exact PW.imp (pw_or1 (sndT c g (sub_l hc) h.1.2)) fun σ H Q q => by simpa only [tOr] using q
  | .cons c (.cons c' r), call, X, W, sc, e, pos, g, hc, h => by
    obtain ⟨x, xs, rfl, _, k1, k2⟩ := cks_cons h
    have hc' : ∀ f ∈ calls c ++ callsS (.cons c' r), f ∈ fs := hc
    cases xs with
    | nil => simp [cks] at k2
    | cons y ys =>
      refine PW.imp (pw_or (sndT c g (sub_l hc') k1) (sndTOr (.cons c' r) g (sub_r hc') k2)) fun σ H Q q => ?_
      obtain ⟨β, τ, ρ, h, R0, p⟩ := q
      simp only [tOr] at p
      refine ⟨β, τ, ρ, h, R0, (PostG.bind repB p).wk fun v H1 ⟨β1, c, h1, e1, s1, r1, p1⟩ => ?_⟩
      subst r1
      cases v with
      | true => rw [if_pos rfl] at p1 ⊢; exact p1 β1 H1 _ (Ext.refl _ _) s1 rfl
      | false => rw [if_neg Bool.false_ne_true] at p1 ⊢; exact ⟨β1, τ, ρ, h1, R0.ext e1 s1, p1⟩
theorem sndI : ∀ (c : I) {call : Calls} {X : Cx} {W : WX} {sc : Scope} {tg e : Expr}, Good X W call fs cs k N sc → (∀ f ∈ callsI c, f ∈ fs) → ckI N cs sc c tg e = true → PI X tg e (tI X W (evI call c))
  | .of c, call, X, W, sc, tg, e, g, hc, h => by
    simp only [ckI] at h
    simp only [callsI] at hc
    have he := sndE c g hc h
    refine PI.imp (PI.either (pi_list he) (pi_tup he)) fun σ H Q q => ?_
    obtain ⟨β, τ, ρ, h, R0, p⟩ := q
    simp only [evI] at p
    cases z : ev call c ρ h with
    | exc x h1 => rw [z] at p; exact .inl ⟨β, τ, ρ, h, R0, by rw [z]; exact p⟩
    | bad => rw [z] at p; exact p.elim
    | ok x h1 =>
      rw [z] at p
      simp only [R.bind_ok] at p
      cases x with
      | tup xs =>
        refine .inr ⟨β, τ, ρ, h, R0, ?_⟩
        rw [z]
        intro β1 H1 v e1 s1 r1
        have r2 := r1
        simp only [Rep] at r2
        obtain ⟨a, vs, rfl, ha, rv⟩ := r2
        exact ⟨a, rfl, ⟨vs, tpS ha⟩, p β1 H1 _ e1 s1 (.tup ha rv)⟩
      | lst xs =>
        refine .inl ⟨β, τ, ρ, h, R0, ?_⟩
        rw [z]
        intro β1 H1 v e1 s1 r1
        have r2 := r1
        simp only [Rep] at r2
        obtain ⟨a, vs, rfl, ha, fz, rv⟩ := r2
        exact ⟨a, rfl, ⟨vs, SqL.of ha⟩, p β1 H1 _ e1 s1 (.lst ha fz rv)⟩
      | _ => exact p.elim
  | .rng1 a, call, X, W, sc, tg, e, g, hc, h => by
    simp only [ckI] at h
    split at h <;> first | cases h | skip
    simp only [Bool.and_eq_true, decide_eq_true_eq] at h
    obtain ⟨⟨⟨rfl, h1⟩, h2⟩, h3⟩ := h
    simp only [callsI] at hc
    have b2 : ("range" : Str) ∈ builtinNs := by decide +kernel
    refine PI.imp (pi_range1 (g.gl _ h1) (g.blt _ b2) (pa_cons (sndE a g hc h3) pa_nil (star_cons h2)) (star_cons h2)) fun σ H Q q => ?_
    obtain ⟨β, τ, ρ, h, R0, p⟩ := q
    simp only [evI] at p
    refine ⟨β, τ, ρ, h, R0, (PostG.bind (repV X τ) p).wk fun v H1 ⟨β1, x, h1, e1, s1, r1, p1⟩ => ?_⟩
    cases x with
    | int j =>
      simp only at p1
      by_cases z : -(2 ^ 62) ≤ j ∧ j < 2 ^ 62
      · rw [if_pos z] at p1
        exact ⟨j, by rw [int_of r1], z.1, z.2, p1 β1 H1 _ (Ext.refl _ _) s1 (.rng 0 _)⟩
      · rw [if_neg z] at p1; exact p1.elim
    | _ => exact p1.elim
  | .rng2 a b, call, X, W, sc, tg, e, g, hc, h => by
    simp only [ckI] at h
    split at h <;> first | cases h | skip
    simp only [Bool.and_eq_true, decide_eq_true_eq] at h
    obtain ⟨⟨⟨⟨⟨rfl, h1⟩, h2⟩, h3⟩, h4⟩, h5⟩ := h
    simp only [callsI] at hc
    have b2 : ("range" : Str) ∈ builtinNs := by decide +kernel
    refine PI.imp (pi_range2 (g.gl _ h1) (g.blt _ b2) (pa_cons (sndE a g (sub_l hc) h4) (pa_cons (sndE b g (sub_r hc) h5) pa_nil (star_cons h3)) (star_cons h2)) (by rw [star_cons h2, star_cons h3]; rfl) (star_cons h3)) fun σ H Q q => ?_
    obtain ⟨β, τ, ρ, h, R0, p⟩ := q
    simp only [evI] at p
    refine ⟨β, τ, ρ, h, R0, (PostG.bind (repV X τ) p).wk fun v H1 ⟨β1, x, h1, e1, s1, r1, p1⟩ => ?_⟩
    refine ⟨β1, τ, ρ, h1, R0.ext e1 s1, (PostG.bind (repV X τ) p1).wk fun u H2 ⟨β2, y, h2, e2, s2, r2, p2⟩ => ?_⟩
    cases x with
    | int i =>
      cases y with
      | int j =>
        simp only at p2
        by_cases z : -(2 ^ 62) ≤ i ∧ i < 2 ^ 62 ∧ -(2 ^ 62) ≤ j ∧ j < 2 ^ 62
        · rw [if_pos z] at p2
          exact ⟨i, j, by rw [int_of r1, int_of r2], z, p2 β2 H2 _ (Ext.refl _ _) s2 (.rng i _)⟩
        · rw [if_neg z] at p2; exact p2.elim
      | _ => exact p2.elim
    | _ => exact p2.elim
  | .zip a b, call, X, W, sc, tg, e, g, hc, h => by
    simp only [ckI] at h
    split at h <;> first | cases h | skip
    simp only [Bool.and_eq_true, decide_eq_true_eq] at h
    obtain ⟨⟨⟨⟨⟨rfl, h1⟩, h2⟩, h3⟩, h4⟩, h5⟩ := h
    simp only [callsI] at hc
    have b2 : ("zip" : Str) ∈ builtinNs := by decide +kernel
    refine PI.imp (RZ.pi_zipA (g.gl _ h1) (g.blt _ b2) (pa_cons (sndE a g (sub_l hc) h4) (pa_cons (sndE b g (sub_r hc) h5) pa_nil (star_cons h3)) (star_cons h2)) (star_cons h2) (star_any (by simp [h3]))) fun σ H Q q => ?_
    obtain ⟨β, τ, ρ, h, R0, p⟩ := q
    simp only [evI] at p
    refine ⟨β, τ, ρ, h, R0, (PostG.bind (repV X τ) p).wk fun v H1 ⟨β1, x, h1, e1, s1, r1, p1⟩ => ?_⟩
    refine ⟨β1, τ, ρ, h1, R0.ext e1 s1, (PostG.bind (repV X τ) p1).wk fun u H2 ⟨β2, y, h2, e2, s2, r2, p2⟩ => ?_⟩
    cases x with
    | lst xs =>
      cases y with
      | lst ys =>
        have r3 := r1.ext e2
        simp only [Rep] at r3 r2
        obtain ⟨a, vs, rfl, ha, fa, ra⟩ := r3
        obtain ⟨b, us, rfl, hb, fb, rb⟩ := r2
        exact ⟨a, b, vs, us, rfl, .inl ⟨SqL.of ha, SqL.of hb, p2 β2 H2 _ (Ext.refl _ _) s2 (.zipL ha fa ra hb fb rb)⟩⟩
      | _ => exact p2.elim
    | tup xs =>
      cases y with
      | tup ys =>
        have r3 := r1.ext e2
        simp only [Rep] at r3 r2
        obtain ⟨a, vs, rfl, ha, ra⟩ := r3
        obtain ⟨b, us, rfl, hb, rb⟩ := r2
        exact ⟨a, b, vs, us, rfl, .inr ⟨tpS ha, tpS hb, p2 β2 H2 _ (Ext.refl _ _) s2 (.zipT ha ra hb rb)⟩⟩
      | _ => exact p2.elim
    | _ => exact p2.elim
  | .enum a, call, X, W, sc, tg, e, g, hc, h => by
    simp only [ckI] at h
    split at h <;> first | cases h | skip
    simp only [Bool.and_eq_true, decide_eq_true_eq] at h
    obtain ⟨⟨⟨rfl, h1⟩, h2⟩, h3⟩ := h
    simp only [callsI] at hc
    have b2 : ("enumerate" : Str) ∈ builtinNs := by decide +kernel
    refine PI.imp (pi_enum (g.gl _ h1) (g.blt _ b2) (pa_cons (sndE a g hc h3) pa_nil (star_cons h2)) (star_cons h2)) fun σ H Q q => ?_
    obtain ⟨β, τ, ρ, h, R0, p⟩ := q
    simp only [evI] at p
    refine ⟨β, τ, ρ, h, R0, (PostG.bind (repV X τ) p).wk fun v H1 ⟨β1, x, h1, e1, s1, r1, p1⟩ => ?_⟩
    cases x with
    | lst xs =>
      have r2 := r1
      simp only [Rep] at r2
      obtain ⟨a, vs, rfl, ha, fa, ra⟩ := r2
      exact ⟨a, vs, rfl, SqL.of ha, p1 β1 H1 _ (Ext.refl _ _) s1 (.enm ha fa ra)⟩
    | _ => exact p1.elim
end
end
end MP

set_option autoImplicit false
set_option Elab.async false
set_option linter.all false
set_option maxRecDepth 100000
set_option maxHeartbeats 4000000
/-! The functional Python is sound: the statements. -/
namespace MP
open PySem PySem.Spec PyProof.Rows L2
/-! ### a new list becomes a cell, the last cell becomes a plain list -/
section
variable {K : PySem.W.Frag} {β τ : List Addr} {H : Hp} {h : Sto} {p : Addr}
theorem Fz.avoid {a : Addr} {u : HO} (hp : FrT H p) (e : H a = some u) (z : Fz β τ a) (nt : ∀ ps, u ≠ .tbl ps := by intro _ z; cases z) : Fz β (p :: τ) a := ⟨z.1, by
  simp only [List.mem_cons, not_or]
  exact ⟨hp.ne e nt, z.2⟩⟩
mutual
theorem Rep.avoid (hp : FrT H p) : ∀ {d : D} {v : V}, Rep K β τ H d v → Rep K β (p :: τ) H d v
  | .non, _, r => by simpa only [Rep] using r
  | .bl _, _, r => by simpa only [Rep] using r
  | .int _, _, r => by simpa only [Rep] using r
  | .str _, _, r => by simpa only [Rep] using r
  | .ty _, _, r => by simpa only [Rep] using r
  | .tup ds, _, r => by
    simp only [Rep] at r ⊢
    obtain ⟨a, vs, rfl, q, t⟩ := r
    refine ⟨a, vs, rfl, ?_, Reps.avoid hp t⟩
    rcases q with ⟨q, n⟩ | q
    · refine .inl ⟨q, ?_⟩
      rcases q with q | ⟨o, q⟩
      · exact n.avoid hp q
      · exact n.avoid hp q
    · exact .inr q
  | .lst ds, _, r => by
    simp only [Rep] at r ⊢
    obtain ⟨a, vs, rfl, q, n, t⟩ := r
    exact ⟨a, vs, rfl, q, n.avoid hp q, Reps.avoid hp t⟩
  | .dct kvs, _, r => by
    simp only [Rep] at r ⊢
    obtain ⟨a, rfl, q, n, z⟩ := r
    exact ⟨a, rfl, q, n.avoid hp q, z⟩
  | .ref i, _, r => by simpa only [Rep] using r
  | .scr ns, _, r => by
    simp only [Rep] at r ⊢
    obtain ⟨a, rfl, q⟩ := r
    refine ⟨a, rfl, ?_⟩
    rcases q with ⟨q, n⟩ | q
    · refine .inl ⟨q, ?_⟩
      rcases q with q | ⟨o, q⟩
      · exact n.avoid hp q
      · exact n.avoid hp q
    · exact .inr q
  | .rcd k ds, _, r => by
    simp only [Rep] at r ⊢
    obtain ⟨a, us, fp, rfl, q, sh, w⟩ := r
    exact ⟨a, us, fp, rfl, fun x hx => let ⟨h1, n, t⟩ := q x hx; ⟨h1, n.avoid hp h1 t, t⟩, sh, Reps.avoid hp w⟩
theorem Reps.avoid (hp : FrT H p) : ∀ {ds : List D} {vs : List V}, Reps K β τ H ds vs → Reps K β (p :: τ) H ds vs
  | [], _, r => by simpa only [Reps] using r
  | d :: ds, _, r => by
    simp only [Reps] at r ⊢
    obtain ⟨v, t, rfl, h1, h2⟩ := r
    exact ⟨v, t, rfl, Rep.avoid hp h1, Reps.avoid hp h2⟩
end
theorem Fz.adopt {a : Addr} (z : Fz β (p :: τ) a) : Fz (β ++ [p]) τ a := by
  obtain ⟨z1, z2⟩ := z
  simp only [List.mem_cons, not_or] at z2
  refine ⟨?_, z2.2⟩
  simp only [List.mem_append, List.mem_singleton, not_or]
  exact ⟨z1, z2.1⟩
mutual
theorem Rep.adopt : ∀ {d : D} {v : V}, Rep K β (p :: τ) H d v → Rep K (β ++ [p]) τ H d v
  | .non, _, r => by simpa only [Rep] using r
  | .bl _, _, r => by simpa only [Rep] using r
  | .int _, _, r => by simpa only [Rep] using r
  | .str _, _, r => by simpa only [Rep] using r
  | .ty _, _, r => by simpa only [Rep] using r
  | .tup ds, _, r => by
    simp only [Rep] at r ⊢
    obtain ⟨a, vs, rfl, q, t⟩ := r
    refine ⟨a, vs, rfl, ?_, Reps.adopt t⟩
    rcases q with ⟨q, n⟩ | q
    · exact .inl ⟨q, n.adopt⟩
    · exact .inr q
  | .lst ds, _, r => by
    simp only [Rep] at r ⊢
    obtain ⟨a, vs, rfl, q, n, t⟩ := r
    exact ⟨a, vs, rfl, q, n.adopt, Reps.adopt t⟩
  | .dct kvs, _, r => by
    simp only [Rep] at r ⊢
    obtain ⟨a, rfl, q, n, z⟩ := r
    exact ⟨a, rfl, q, n.adopt, z⟩
  | .ref i, _, r => by
    simp only [Rep] at r ⊢
    obtain ⟨a, rfl, q⟩ := r
    exact ⟨a, rfl, by rw [List.getElem?_append_left (List.getElem?_eq_some_iff.mp q).1]; exact q⟩
  | .scr ns, _, r => by
    simp only [Rep] at r ⊢
    obtain ⟨a, rfl, q⟩ := r
    refine ⟨a, rfl, ?_⟩
    rcases q with ⟨q, n⟩ | q
    · exact .inl ⟨q, n.adopt⟩
    · exact .inr q
  | .rcd k ds, _, r => by
    simp only [Rep] at r ⊢
    obtain ⟨a, us, fp, rfl, q, sh, w⟩ := r
    exact ⟨a, us, fp, rfl, fun x hx => let ⟨h1, n, t⟩ := q x hx; ⟨h1, n.adopt, t⟩, sh, Reps.adopt w⟩
theorem Reps.adopt : ∀ {ds : List D} {vs : List V}, Reps K β (p :: τ) H ds vs → Reps K (β ++ [p]) τ H ds vs
  | [], _, r => by simpa only [Reps] using r
  | d :: ds, _, r => by
    simp only [Reps] at r ⊢
    obtain ⟨v, t, rfl, h1, h2⟩ := r
    exact ⟨v, t, rfl, Rep.adopt h1, Reps.adopt h2⟩
end
theorem SRep.adopt (S : SRep K β (p :: τ) H h) {ds : List D} {vs : List V} (hv : H p = some (.lst vs)) (r : Reps K β (p :: τ) H ds vs) (np : p ∉ τ) : SRep K (β ++ [p]) τ H (h ++ [.lst ds]) where
  tab := S.tab
  len := by simp [S.len]
  nd := by
    rw [List.nodup_append]
    refine ⟨S.nd, by simp, fun a ha b hb z => ?_⟩
    simp only [List.mem_singleton] at hb
    subst hb; subst z
    exact S.off _ ha List.mem_cons_self
  at_ := fun i o a hi ha => by
    by_cases hl : i < h.length
    · rw [List.getElem?_append_left hl] at hi
      rw [List.getElem?_append_left (by rw [← S.len]; exact hl)] at ha
      have m := S.at_ i o a hi ha
      cases o with
      | lst es => obtain ⟨us, e, r'⟩ := m; exact ⟨us, e, Reps.adopt r'⟩
    · have hz : i = h.length := by
        have := (List.getElem?_eq_some_iff.mp hi).1
        simp at this; omega
      subst hz
      rw [List.getElem?_append_right (Nat.le_refl _)] at hi
      rw [List.getElem?_append_right (by rw [S.len]; exact Nat.le_refl _)] at ha
      simp [S.len] at hi ha
      subst hi; subst ha
      exact ⟨vs, hv, Reps.adopt r⟩
  off := fun a ha z => by
    rcases List.mem_append.mp ha with ha | ha
    · exact S.off a ha (List.mem_cons_of_mem _ z)
    · simp only [List.mem_singleton] at ha; subst ha; exact np z
  res := fun a ha => S.res a (List.mem_cons_of_mem _ ha)
theorem ERep.adopt {σ : L2.St} {ρ : Env} (E : ERep K β (p :: τ) H σ ρ) : ERep K (β ++ [p]) τ H σ ρ := ⟨E.1, fun i d hi => let ⟨v, hv, r⟩ := E.2 i d hi; ⟨v, hv, Rep.adopt r⟩⟩
theorem ERep.avoid {σ : L2.St} {ρ : Env} (hp : FrT H p) (E : ERep K β τ H σ ρ) : ERep K β (p :: τ) H σ ρ := ⟨E.1, fun i d hi => let ⟨v, hv, r⟩ := E.2 i d hi; ⟨v, hv, Rep.avoid hp r⟩⟩
/-! dropping the cells from the n-th on: what names none of them stays -/
theorem Fz.cut {t : List Addr} {a : Addr} (z : Fz (β ++ t) τ a) : Fz β τ a := ⟨fun q => z.1 (List.mem_append_left _ q), z.2⟩
mutual
theorem Rep.cut {t : List Addr} : ∀ {d : D} {v : V}, Rep K (β ++ t) τ H d v → refsBelow β.length d = true → Rep K β τ H d v
  | .non, _, r, _ => by simpa only [Rep] using r
  | .bl _, _, r, _ => by simpa only [Rep] using r
  | .int _, _, r, _ => by simpa only [Rep] using r
  | .str _, _, r, _ => by simpa only [Rep] using r
  | .ty _, _, r, _ => by simpa only [Rep] using r
  | .tup ds, _, r, b => by
    simp only [Rep] at r ⊢
    obtain ⟨a, vs, rfl, q, w⟩ := r
    refine ⟨a, vs, rfl, ?_, Reps.cut w (by simpa only [refsBelow] using b)⟩
    rcases q with ⟨q, n⟩ | q
    · exact .inl ⟨q, n.cut⟩
    · exact .inr q
  | .lst ds, _, r, b => by
    simp only [Rep] at r ⊢
    obtain ⟨a, vs, rfl, q, n, w⟩ := r
    exact ⟨a, vs, rfl, q, n.cut, Reps.cut w (by simpa only [refsBelow] using b)⟩
  | .dct kvs, _, r, _ => by
    simp only [Rep] at r ⊢
    obtain ⟨a, rfl, q, n, z⟩ := r
    exact ⟨a, rfl, q, n.cut, z⟩
  | .ref i, _, r, b => by
    simp only [Rep] at r ⊢
    simp only [refsBelow, decide_eq_true_eq] at b
    obtain ⟨a, rfl, q⟩ := r
    exact ⟨a, rfl, by rw [List.getElem?_append_left b] at q; exact q⟩
  | .scr ns, _, r, _ => by
    simp only [Rep] at r ⊢
    obtain ⟨a, rfl, q⟩ := r
    refine ⟨a, rfl, ?_⟩
    rcases q with ⟨q, n⟩ | q
    · exact .inl ⟨q, n.cut⟩
    · exact .inr q
  | .rcd k ds, _, r, b => by
    simp only [Rep] at r ⊢
    obtain ⟨a, us, fp, rfl, q, sh, w⟩ := r
    exact ⟨a, us, fp, rfl, fun x hx => let ⟨h1, n, t⟩ := q x hx; ⟨h1, n.cut, t⟩, sh, Reps.cut w (by simpa only [refsBelow] using b)⟩
theorem Reps.cut {t : List Addr} : ∀ {ds : List D} {vs : List V}, Reps K (β ++ t) τ H ds vs → allBelow β.length ds = true → Reps K β τ H ds vs
  | [], _, r, _ => by simpa only [Reps] using r
  | d :: ds, _, r, b => by
    simp only [Reps] at r ⊢
    obtain ⟨v, w, rfl, h1, h2⟩ := r
    simp only [allBelow, Bool.and_eq_true] at b
    exact ⟨v, w, rfl, Rep.cut h1 b.1, Reps.cut h2 b.2⟩
end
theorem SRep.cut {t : List Addr} (S : SRep K (β ++ t) τ H h) (b : (h.take β.length).all (MO.below β.length) = true) : SRep K β τ H (h.take β.length) where
  tab := S.tab
  len := by
    have := S.len
    rw [List.length_append] at this
    rw [List.length_take]; omega
  nd := (List.nodup_append.mp S.nd).1
  at_ := fun i o a hi ha => by
    have hl := (List.getElem?_eq_some_iff.mp ha).1
    have ho : o ∈ h.take β.length := List.mem_of_getElem? hi
    rw [List.getElem?_take_of_lt hl] at hi
    have m := S.at_ i o a hi (by rw [List.getElem?_append_left hl]; exact ha)
    have bo := List.all_eq_true.mp b o ho
    cases o with
    | lst ds => obtain ⟨vs, e, r⟩ := m; exact ⟨vs, e, Reps.cut r (by simpa only [MO.below] using bo)⟩
  off := fun a ha => S.off a (List.mem_append_left _ ha)
  res := S.res
end
end MP

set_option autoImplicit false
set_option Elab.async false
set_option linter.all false
set_option maxRecDepth 100000
set_option maxHeartbeats 4000000
/-! The functional Python is sound: the statements, one by one. -/
namespace MP
open PySem PySem.Spec PyProof.Rows L2
section
variable (X : Cx) (W : WX) (βb : List Addr) (Hb : Hp) (τ : List Addr) (Z : Ends)
/-- what follows of a statement's end; base: what may not be given up here -/
def PostF : R Flow → Prop
  | .ok f h' => ∀ β' H' σ', Ext βb Hb β' H' → SRep X.K β' τ H' h' → (match f with
    | .nx ρ => ERep X.K β' τ H' σ' ρ → Z.nx σ' H'
    | .rt d => ∀ v, Rep X.K β' τ H' d v → Z.rt v H'
    | .bk ρ => ERep X.K β' τ H' σ' ρ → Z.bk σ' H'
    | .ct ρ => ERep X.K β' τ H' σ' ρ → Z.ct σ' H'
    | .ex x ρ => ERep X.K β' τ H' σ' ρ → ∀ cls dd, XRep X.mg X.K β' τ H' x cls dd → W cls dd σ' H')
  | _ => False
end
def tS (X : Cx) (W : WX) (m : Nat → Env → Sto → R Flow) : TS := fun Z σ H => ∃ βb Hb β τ ρ h, Rel X.K β τ σ H ρ h ∧ Ext βb Hb β H ∧ PostF X W βb Hb τ Z (m βb.length ρ h)
section
variable {X : Cx} {W : WX} {βb β τ : List Addr} {Hb H : Hp} {σ : L2.St} {Z : Ends}
theorem PostF.bind {α γ : Type} (rep : List Addr → Hp → α → γ → Prop) {r : R α} {ρ : Env} {f : α → Sto → R Flow} (E : ERep X.K β τ H σ ρ) (eb : Ext βb Hb β H) (p : PostF X W βb Hb τ Z (r.bindF ρ f)) :
    PostG X W β τ H σ rep (fun v H1 => ∃ β1 a h1, Ext β H β1 H1 ∧ SRep X.K β1 τ H1 h1 ∧ rep β1 H1 a v ∧ PostF X W βb Hb τ Z (f a h1)) r := by
  cases r with
  | ok a h1 => intro β1 H1 v e s q; exact ⟨β1, a, h1, e, s, q, p⟩
  | exc x h => intro β1 H1 c d e s q; exact p β1 H1 σ (eb.trans e) s (E.ext e) c d q
  | bad => exact p.elim
theorem PS.imp {X : Cx} {e : Stmt} {t t' : TS} (p : PS X e t) (h : ∀ D σ H, t' D σ H → t D σ H) : PS X e t' := ⟨fun pins s σ H D I q => p.run pins s σ H D I (h D σ H q)⟩
theorem PSs.imp {X : Cx} {e : List Stmt} {t t' : TS} (p : PSs X e t) (h : ∀ D σ H, t' D σ H → t D σ H) : PSs X e t' := ⟨fun pins s σ H D I q => p.run pins s σ H D I (h D σ H q)⟩
/-- an expression whose end is a statement's -/
theorem tS.start {m : Env → Sto → R D} {f : Env → D → Sto → R Flow} {Z : Ends} {σ : L2.St} {H : Hp} (h : tS X W (fun _ ρ h => (m ρ h).bindF ρ (f ρ)) Z σ H) {Q : VK}
    (q : ∀ βb Hb β τ ρ h a v H1, Rel X.K β τ σ H1 ρ h → Ext βb Hb β H1 → Rep X.K β τ H1 a v → PostF X W βb Hb τ Z (f ρ a h) → Q v H1) : tD X W m σ H Q := by
  obtain ⟨βb, Hb, β, τ, ρ, h, R0, eb, p⟩ := h
  refine ⟨β, τ, ρ, h, R0, (PostF.bind (repV X τ) R0.e eb p).wk fun v H1 ⟨β1, a, h1, e1, s1, r1, p1⟩ => ?_⟩
  exact q βb Hb β1 τ ρ h1 a v H1 (R0.ext e1 s1) (eb.trans e1) r1 p1
theorem tS.startB {m : Env → Sto → R Bool} {f : Nat → Env → Bool → Sto → R Flow} {Z : Ends} {σ : L2.St} {H : Hp} (h : tS X W (fun nb ρ h => (m ρ h).bindF ρ (f nb ρ)) Z σ H) {Q : Bool → Hp → Prop}
    (q : ∀ c H1, tS X W (fun nb ρ h => f nb ρ c h) Z σ H1 → Q c H1) : tDT X W m σ H Q := by
  obtain ⟨βb, Hb, β, τ, ρ, h, R0, eb, p⟩ := h
  refine ⟨β, τ, ρ, h, R0, (PostF.bind repB R0.e eb p).wk fun v H1 ⟨β1, a, h1, e1, s1, r1, p1⟩ => ?_⟩
  subst r1
  exact q _ H1 ⟨βb, Hb, β1, τ, ρ, h1, R0.ext e1 s1, eb.trans e1, p1⟩
/-- what is wanted at an end follows from more -/
theorem PostF.nx {ρ : Env} {h : Sto} {σ' : L2.St} (p : PostF X W βb Hb τ Z (.ok (.nx ρ) h)) (eb : Ext βb Hb β H) (R0 : Rel X.K β τ σ' H ρ h) : Z.nx σ' H := p β H σ' eb R0.s R0.e
end
/-! ### the last cell becomes a plain list -/
theorem noRefs_at {n : Nat} {ρ : Env} {i j : Nat} {d : D} (h : noRefs n ρ i = true) (hj : ρ[j]? = some (some d)) (ne : j ≠ i) : refsBelow n d = true := by
  unfold noRefs at h
  have hl := (List.getElem?_eq_some_iff.mp hj).1
  have := List.all_eq_true.mp h j (List.mem_range.mpr hl)
  rw [hj] at this
  simpa [ne] using this
theorem frz_rel {K : PySem.W.Frag} {β τ : List Addr} {H : Hp} {σ : L2.St} {ρ : Env} {h : Sto} {i k : Nat} {xs : List D} (R0 : Rel K β τ σ H ρ h) (hi : ρ[i]? = some (some (.ref k))) (hk : h[k]? = some (.lst xs)) (hl : k + 1 = h.length) (hx : allBelow k xs = true)
    (hn : noRefs k ρ i = true) (hb : (h.take k).all (MO.below k) = true) : ∃ β0 a, β = β0 ++ [a] ∧ β0.length = k ∧ Rel K β0 τ σ H (ρ.set i (some (.lst xs))) (h.take k) := by
  have lb : β.length = k + 1 := by rw [← R0.s.len]; exact hl.symm
  obtain ⟨β0, a, rfl⟩ : ∃ β0 a, β = β0 ++ [a] := by
    have : β ≠ [] := by intro z; rw [z] at lb; simp at lb
    exact ⟨β.dropLast, β.getLast this, (List.dropLast_concat_getLast this).symm⟩
  have l0 : β0.length = k := by simpa using lb
  subst l0
  refine ⟨β0, a, rfl, rfl, ⟨⟨by rw [List.length_set]; exact R0.e.1, fun j d hj => ?_⟩, R0.s.cut hb⟩⟩
  by_cases e : j = i
  · subst e
    rw [List.getElem?_set_self (List.getElem?_eq_some_iff.mp hi).1] at hj
    cases hj
    obtain ⟨v, hv, rv⟩ := R0.e.2 j _ hi
    simp only [Rep] at rv
    obtain ⟨b, rfl, hb'⟩ := rv
    have : b = a := by simpa using hb'.symm
    subst this
    obtain ⟨c, vs, hc, hH, rc⟩ := R0.s.get hk
    have : c = b := by simpa using hc.symm
    subst this
    refine ⟨_, hv, ?_⟩
    simp only [Rep]
    refine ⟨c, vs, rfl, hH, ⟨fun z => ?_, R0.s.off c (by simp)⟩, Reps.cut rc hx⟩
    have := (List.nodup_append.mp R0.s.nd).2.2 c z c (by simp)
    exact this rfl
  · rw [List.getElem?_set_ne (Ne.symm e)] at hj
    obtain ⟨v, hv, rv⟩ := R0.e.2 j d hj
    exact ⟨v, hv, Rep.cut rv (noRefs_at hn hj e)⟩
theorem Ext.cutr {βb β0 : List Addr} {a : Addr} {Hb H : Hp} (e : Ext βb Hb (β0 ++ [a]) H) (h : βb.length ≤ β0.length) : Ext βb Hb β0 H := by
  obtain ⟨⟨t, ht⟩, k⟩ := e
  refine ⟨?_, fun b o hb nb nt => ⟨(k b o hb nb nt).1, fun z => (k b o hb nb nt).2 (List.mem_append_left _ z)⟩⟩
  rcases List.eq_nil_or_concat t with rfl | ⟨t, x, rfl⟩
  · have := congrArg List.length ht
    simp at this; omega
  · rw [List.concat_eq_append, ← List.append_assoc] at ht
    have := List.append_inj' ht rfl
    exact ⟨t, this.1⟩
/-! ### new lists -/
def tFr (X : Cx) (W : WX) (m : Env → Sto → R D) : TE := fun σ H Q => ∃ β τ ρ h, Rel X.K β τ σ H ρ h ∧ PostFr X W β τ H σ Q (m ρ h)
section
variable {X : Cx} {W : WX} {βb β τ : List Addr} {Hb H : Hp} {σ : L2.St} {Z : Ends}
/-- a new list is the last cell -/
theorem tS.cell {m : Env → Sto → R D} {f : Env → List D → Sto → R Flow} {σ : L2.St} {H : Hp} (h : tS X W (fun _ ρ h => (m ρ h).bindF ρ fun x h => match x with | .lst xs => f ρ xs h | _ => .bad) Z σ H) {Q : VK}
    (q : ∀ βb Hb β τ ρ h p xs H1, Rel X.K (β ++ [p]) τ σ H1 ρ (h ++ [.lst xs]) → Ext βb Hb (β ++ [p]) H1 → β.length = h.length → PostF X W βb Hb τ Z (f ρ xs h) → Q (.ref p) H1) : tFr X W m σ H Q := by
  obtain ⟨βb, Hb, β, τ, ρ, h, R0, eb, p⟩ := h
  refine ⟨β, τ, ρ, h, R0, ?_⟩
  dsimp only at p
  cases e : m ρ h with
  | exc x h1 => rw [e] at p; intro β' H' c d e' s r; exact p β' H' σ (eb.trans e') s (R0.e.ext e') c d r
  | bad => rw [e] at p; exact p.elim
  | ok x h1 =>
    rw [e] at p
    simp only [R.bindF_ok] at p
    cases x with
    | lst xs =>
      intro β' H' a vs hp e1 s1 ha ra
      have s0 := s1.back
      refine q βb Hb β' τ ρ h1 a xs H' ⟨?_, s1.adopt ha ra (R0.s.offTauT hp)⟩ ⟨?_, fun b o hb nb nt => ?_⟩ s1.len.symm p
      · exact (((R0.e.avoid hp).ext (β' := β') (H' := H') e1)).adopt
      · obtain ⟨t, rfl⟩ := (eb.trans e1).pre; exact ⟨t ++ [a], by simp⟩
      · obtain ⟨z1, z2⟩ := (eb.trans e1).keepN b o hb nb nt
        refine ⟨z1, ?_⟩
        obtain ⟨y1, y2⟩ := eb.keepN b o hb nb nt
        simp only [List.mem_append, List.mem_singleton, not_or]
        exact ⟨z2, hp.ne y1 nt⟩
    | _ => exact p.elim
end
end MP

set_option autoImplicit false
set_option Elab.async false
set_option linter.all false
set_option maxRecDepth 100000
set_option maxHeartbeats 4000000
/-! The functional Python is sound: expressions that make new lists. -/
namespace MP
open PySem PySem.Spec PyProof.Rows L2
section
variable {X : Cx} {W : WX} {β τ : List Addr} {H : Hp} {σ : L2.St}
theorem PostFr.fin {Q : VK} {β1 : List Addr} {H1 : Hp} {h1 : Sto} {xs : List D} {vs : List V} {p : Addr} (e1 : Ext β H β1 H1) (s1 : SRep X.K β1 τ H1 h1) (p1 : PostFr X W β τ H σ Q (.ok (.lst xs) h1)) (hp : H1 p = none) (r : Reps X.K β1 τ H1 xs vs) :
    Q (.ref p) (upd H1 p (.lst vs)) :=
  p1 β1 _ p vs (e1.frt s1 (.none hp)) (e1.trans (Ext.new _ hp)) (s1.reserve hp) upd_same (Reps.res hp r)
theorem PostFr.bind {α γ : Type} (rep : List Addr → Hp → α → γ → Prop) {Q : VK} {r : R α} {f : α → Sto → R D} (p : PostFr X W β τ H σ Q (r.bind f)) :
    PostG X W β τ H σ rep (fun v H1 => ∃ β1 a h1, Ext β H β1 H1 ∧ SRep X.K β1 τ H1 h1 ∧ rep β1 H1 a v ∧ PostFr X W β1 τ H1 σ Q (f a h1)) r := by
  cases r with
  | ok a h1 => intro β1 H1 v e s q; exact ⟨β1, a, h1, e, s, q, PostFr.mono e s p⟩
  | exc x h => exact p
  | bad => exact p.elim
end
section
variable (X : Cx)
def rDsF (op : List D → Option D) : List V → Hp → VK → Prop := fun xs H Q => ∃ β τ h ds es, SRep X.K β τ H h ∧ Reps X.K β τ H ds xs ∧ op (ds.map (deref h)) = some (.lst es) ∧
  ∀ p vs, H p = none → Reps X.K β τ H es vs → Q (.ref p) (upd H p (.lst vs))
def rDF (op : D → D → Option D) : R2 := fun x y H Q => ∃ β τ h dx dy es, SRep X.K β τ H h ∧ Rep X.K β τ H dx x ∧ Rep X.K β τ H dy y ∧ op (deref h dx) (deref h dy) = some (.lst es) ∧
  ∀ p vs, H p = none → Reps X.K β τ H es vs → Q (.ref p) (upd H p (.lst vs))
end
section
variable {X : Cx} {W : WX}
theorem cr_listF : CallR X (.type "list") (rDsF X (bltD "list")) := by
  intro pins s σ H xs us Q I rv ⟨β, τ, h, ds, d, S, r, e, q⟩
  have r' := derefs_rep S r
  revert r' e
  generalize ds.map (deref h) = es
  intro e r'
  simp only [bltD] at e
  simp (config := { decide := true }) only [if_true, if_false] at e
  split at e
  · obtain ⟨v, rfl, r1⟩ := RepRs.one r'
    cases e
    obtain ⟨a, vs, rfl, ha, r2⟩ := r1.tup
    exact call_list_of pins s σ H _ us Q I rv ⟨_, _, rfl, .inr ha, fun p hp => q p vs hp r2⟩
  · obtain ⟨v, rfl, r1⟩ := RepRs.one r'
    cases e
    obtain ⟨a, vs, rfl, ha, r2⟩ := r1
    exact call_list_of pins s σ H _ us Q I rv ⟨_, _, rfl, .inl (SqL.of ha), fun p hp => q p vs hp r2⟩
  · cases e
theorem tCB_F {ms : Env → Sto → R (List D)} {op : List D → Option D} {σ : L2.St} {H : Hp} {Q : VK} (h : tFr X W (fun ρ h => (ms ρ h).bind fun xs h => R.of (op (xs.map (deref h))) h) σ H Q) (hl : ∀ ds d, op ds = some d → ∃ es, d = .lst es) :
    tCB (rDsF X op) (tDA X W ms) σ H Q := by
  obtain ⟨β, τ, ρ, h, R0, p⟩ := h
  refine ⟨β, τ, ρ, h, R0, (PostFr.bind (repL X τ) p).wk fun v H1 ⟨β1, xs, h1, e1, s1, r1, p1⟩ => ?_⟩
  cases o : op (xs.map (deref h1)) with
  | none => rw [o] at p1; exact p1.elim
  | some d =>
    obtain ⟨es, rfl⟩ := hl _ _ o
    rw [o] at p1
    exact ⟨β1, τ, h1, xs, es, s1, r1, o, fun p vs hp r => PostFr.fin (Ext.refl _ _) s1 p1 hp r⟩
theorem list_lst {ds : List D} {d : D} (e : bltD "list" ds = some d) : ∃ es, d = .lst es := by
  simp only [bltD] at e
  simp (config := { decide := true }) only [if_true, if_false] at e
  split at e <;> first | (cases e; exact ⟨_, rfl⟩) | cases e
end
/-- makes a new list -/
def isFr : C → Bool
  | .lst _ => true
  | .com .. => true
  | .blt f _ => decide (f = "list")
  | _ => false
section
variable {call : Calls} {fs : List Str} {cs : List (Str × Int)} {k : Nat} {N : List Str}
theorem sndFr {c : C} (fr : isFr c = true) {X : Cx} {W : WX} {sc : Scope} {e : Expr} (g : Good X W call fs cs k N sc) (hc : ∀ f ∈ calls c, f ∈ fs) (h : ck N cs sc c e = true) : PE X e (tFr X W (ev call c)) := by
  unfold isFr at fr
  split at fr
  · rename_i es
    simp only [ck] at h
    split at h <;> first | cases h | skip
    simp only [calls] at hc
    refine PE.imp (pe_lst (sndEs es g hc h)) fun σ H Q q => ?_
    obtain ⟨β, τ, ρ, h, R0, p⟩ := q
    simp only [ev] at p
    refine ⟨β, τ, ρ, h, R0, (PostFr.bind (repL X τ) p).wk fun vs H1 ⟨β1, xs, h1, e1, s1, r1, p1⟩ => ?_⟩
    by_cases z : xs.length ≤ sizeLine
    · rw [if_pos z] at p1
      exact ⟨by rw [r1.length]; exact z, fun p hp => PostFr.fin (Ext.refl _ _) s1 p1 hp r1⟩
    · rw [if_neg z] at p1; exact p1.elim
  · rename_i own elt tg it ifs
    simp only [ck] at h
    split at h <;> first | cases h | skip
    simp only [Bool.and_eq_true, List.all_eq_true] at h
    obtain ⟨⟨⟨⟨⟨⟨h1, h2⟩, h3⟩, h4⟩, h5⟩, h6⟩, h7⟩ := h
    simp only [calls] at hc
    refine PE.imp (pe_lc (g := gD X.K tg) (tt := tDT X WF (tstO call.noact ifs)) (te := tD X WF (ev call.noact elt)) g.calm (by rw [g.hN]; exact g.nd) (sndI it g (sub_l (sub_r hc)) h2) (g.blkOk h1) (fun s H C cl fp => (g.blk s H C cl fp).tg h4)
      (fun s H C cl fp => sndF ifs (g.blk s H C cl fp) (sub_r (sub_r hc)) h7) (fun s H C cl fp => sndE elt (g.blk s H C cl fp) (sub_l hc) h6) (nofold h3)) fun σ H Q q => ?_
    exact com_F (fun i hi => by simpa using h5 i hi) q
  · rename_i f es
    simp only [decide_eq_true_eq] at fr
    subst fr
    simp only [ck] at h
    split at h <;> first | cases h | skip
    rename_i x p xs pos
    simp only [Bool.and_eq_true, decide_eq_true_eq, Bool.or_eq_true] at h
    obtain ⟨⟨⟨⟨rfl, h1⟩, h2⟩, h3⟩, h4⟩ := h
    simp only [calls] at hc
    cases xs with
    | nil => simp at h4
    | cons y ys =>
      have ia := sndEs es g hc h3
      have st := cks_star h3
      simp only [List.all_cons, Bool.and_eq_true] at st
      have nn := mem_ns h2
      exact PE.imp (pe_callTy cr_listF (g.gl _ h1) (g.blt _ nn) (by decide +kernel) ia (ns_name nn) (gl_of h1).2 (star_cons st.1) (star_any st.2)) fun σ H Q q => tCB_F (by simpa only [ev] using q) fun ds d e => list_lst e
  · cases fr
end
end MP

set_option autoImplicit false
set_option Elab.async false
set_option linter.all false
set_option maxRecDepth 100000
set_option maxHeartbeats 4000000
/-! The functional Python is sound: the statements. -/
namespace MP
open PySem PySem.Spec PyProof.Rows L2
/-! ### what may stand where -/
def noTup : Expr → Bool
  | .Tuple .. => false
  | _ => true
def compScope : Expr → Option Scope
  | .ListComp _ _ s _ | .SetComp _ _ s _ | .DictComp _ _ _ s _ => some s
  | _ => none
/-- the new list is stored before the comprehension's names are let go -/
def swp (sc : Scope) (value target : Expr) : Bool := match compScope value with
  | none => false
  | some s => match target with
    | .Name t pos => (sc.names.lookup t == some .local) && (pos.line == value.pos.line) && !(s.names.any fun (n, k) => n == t && (k == .local || k == .cell))
    | _ => false
theorem swp_is {env : PySem.Env} {sc : Scope} {value target : Expr} {line : Nat} (hs : env.scope = sc) (hk : sc.kind = .function) : swapsWith value (some target) line env = pure (swp sc value target) := by
  subst hs
  have hb : env.blockKind = .function := by unfold Env.blockKind; rw [hk]; rfl
  unfold swapsWith swp compScope
  cases value <;> first | rfl | skip
  all_goals
    cases target <;> first | rfl | skip
    all_goals
      simp only [hb, Env.kindOf]
      rfl
theorem noCom {env : PySem.Env} {value : Expr} {line : Nat} (h : compScope value = none) : swapsWith value none line env = pure false := by
  unfold swapsWith
  cases value <;> first | rfl | (simp [compScope] at h)
theorem sole {env : PySem.Env} {sc : Scope} {value target : Expr} {line : Nat} (hs : env.scope = sc) (hk : sc.kind = .function) (h : swp sc value target = false) : swapsWithSole [target] value line env = pure false := by
  show swapsWith value (some target) line env = pure false
  rw [swp_is hs hk, h]
def isLocal (sc : Scope) (x : Str) : Bool := match sc.names.lookup x with
  | some .local => true
  | _ => false
theorem local_of {sc : Scope} {x : Str} (h : isLocal sc x = true) : sc.names.lookup x = some .local := by
  unfold isLocal at h
  split at h
  · assumption
  · cases h
theorem par_swap {env : PySem.Env} {x y : Str} {px py pt pt2 : Pos} {kt k2 : Nat} {a b : Expr} (hk : env.scope.kind = .function) (hx : env.scope.names.lookup x = some .local) (hy : env.scope.names.lookup y = some .local) (hl : (py.line == px.line) = true) (hxy : x ≠ y)
    (sa : noStar a = true) (sb : noStar b = true) (f1 : [a, b].all (foldedForSure 8) = false) (f2 : [a, b].all (constantsAlone 8) = false) :
    swappedStores [.Tuple [.Name x px, .Name y py] kt pt] (.Tuple [a, b] k2 pt2) env = pure (some [x, y]) := by
  have hb : env.blockKind = .function := by unfold Env.blockKind; rw [hk]; rfl
  have hst : ([a, b].any fun | .Starred .. => true | _ => false) = false := by
    cases a <;> first | (simp [noStar] at sa; done) | skip
    all_goals (cases b <;> first | (simp [noStar] at sb; done) | rfl)
  have e1 : (x == y) = false := by simpa using hxy
  have e2 : (y == x) = false := by simpa using Ne.symm hxy
  have ed : ([x, y] : List Str).eraseDups.length = 2 := by
    simp [List.eraseDups_cons, e1, e2]
  unfold swappedStores
  simp only [hb, hst, Env.kindOf]
  simp [Expr.pos, hx, hy, f1, f2, ed]
  have hl' : py.line = px.line := by simpa using hl
  have nd : ([x, y] : List Str).eraseDups.length = 2 := ed
  rw [if_neg]
  · simp [List.filterMap_cons, hy, hl', ed]
  · intro h
    rcases h with h | h
    · cases a <;> first | (simp [noStar] at sa; done) | cases h
    · cases b <;> first | (simp [noStar] at sb; done) | cases h
end MP

set_option autoImplicit false
set_option Elab.async false
set_option linter.all false
set_option maxRecDepth 100000
set_option maxHeartbeats 8000000
/-! The functional Python is sound: the statements. -/
namespace MP
open PySem PySem.Spec PyProof.Rows L2
/-- an exception's class and its field, if it has an __init__ of its own -/
abbrev Xs := List (Str × Option Str)
def noTup' (tg v : Expr) : Bool := noTup tg || noTup v
def swpOk (sc : Scope) (v tg : Expr) : Bool := !swp sc v tg || (match tg with | .Name x _ => isLocal sc x | _ => false)
mutual
/-- expressions of except suites: nothing is called -/
def coldC : C → Bool
  | .var _ => true
  | .int _ => true
  | .str _ => true
  | .bl _ => true
  | .non => true
  | .xf o _ => coldC o
  | .tup es => coldCs es
  | .lst es => coldCs es
  | .bin _ a b => coldC a && coldC b
  | .blt f es => decide (f = "repr") && coldCs es
  | _ => false
def coldCs : Cs → Bool
  | .nil => true
  | .cons c r => coldC c && coldCs r
end
/-- the clauses: return e alone -/
def ckHs (N : List Str) (cs : List (Str × Int)) (xs : Xs) (sc : Scope) : Hds → List ExceptHandler → Bool
  | .nil, e0 => (match e0 with | [] => true | _ => false)
  | .cons c nm b r, e0 => (match e0 with
    | .ExceptHandler (some (.Name x _)) nm' [.Return (some e) _] _ :: rest => decide (x = c) && isGl sc x && (xs.any fun z => decide (z.1 = x)) && (match nm, nm' with
        | none, none => true
        | some i, some n => decide (N[i]? = some n) && isLocal sc n
        | _, _ => false) && (match b with
        | .cons (.ret t) .nil => coldC t && ck N cs sc t e
        | _ => false) && ckHs N cs xs sc r rest
    | _ => false)
mutual
def ckS (N : List Str) (cs : List (Str × Int)) (xs : Xs) (sc : Scope) : S → Stmt → Bool
  | .set g e, e0 => (match e0 with | .Assign [tg] v _ => ckG N sc g tg && ck N cs sc e v && noTup' tg v && swpOk sc v tg | _ => false)
  | .setM i e, e0 => (match e0 with | .Assign [.Name x p] v _ => decide (N[i]? = some x) && isLoc sc x && ck N cs sc e v && isFr e && (!swp sc v (.Name x p) || isLocal sc x) | _ => false)
  | .par i j a b, e0 => (match e0 with | .Assign [.Tuple [.Name x px, .Name y py] _ _] (.Tuple [u, v] _ _) _ => decide (N[i]? = some x) && decide (N[j]? = some y) && isLocal sc x && isLocal sc y && decide (i ≠ j) && decide (x ≠ y) && (py.line == px.line) && noStar u && noStar v && ck N cs sc a u && ck N cs sc b v && !([u, v].all (foldedForSure 8)) && !([u, v].all (constantsAlone 8)) | _ => false)
  | .sub o i e, e0 => (match e0 with | .Assign [.Subscript o' i' _] v _ => noSlice i' && ck N cs sc o o' && ck N cs sc i i' && ck N cs sc e v | _ => false)
  | .aug i op e, e0 => (match e0 with | .AugAssign (.Name x _) op' v _ => decide (N[i]? = some x) && isLoc sc x && decide (op = op') && (decide (op = .Add) || decide (op = .Sub)) && ck N cs sc e v | _ => false)
  | .exp e, e0 => (match e0 with | .Expr v _ => ck N cs sc e v && (compScope v).isNone | _ => false)
  | .ret e, e0 => (match e0 with | .Return (some v) _ => ck N cs sc e v | _ => false)
  | .retM e, e0 => (match e0 with | .Return (some v) _ => ck N cs sc e v && isFr e | _ => false)
  | .retN, e0 => (match e0 with | .Return none _ => true | _ => false)
  | .ite t a b, e0 => (match e0 with | .If c u v _ => ck N cs sc t c && ckSs N cs xs sc a u && ckSs N cs xs sc b v | _ => false)
  | .for_ g it body, e0 => (match e0 with | .For tg i' u [] _ => ckI N cs sc it tg i' && noSet i' && ckG N sc g tg && ckSs N cs xs sc body u | _ => false)
  | .pass, e0 => (match e0 with | .Pass _ => true | _ => false)
  | .brk, e0 => (match e0 with | .Break _ => true | _ => false)
  | .cnt, e0 => (match e0 with | .Continue _ => true | _ => false)
  | .raise cls fld e, e0 => (match e0 with | .Raise (some (.Call (.Name y _) [v] [] _)) none _ => decide (y = cls) && decide ((cls, fld) ∈ xs) && isGl sc cls && noStar v && ck N cs sc e v | _ => false)
  | .try_ b hs, e0 => (match e0 with | .Try body (hd :: hds) [] [] _ => ckSs N cs xs sc b body && ckHs N cs xs sc hs (hd :: hds) | _ => false)
def ckSs (N : List Str) (cs : List (Str × Int)) (xs : Xs) (sc : Scope) : Ss → List Stmt → Bool
  | .nil, e0 => (match e0 with | [] => true | _ => false)
  | .cons s r, e0 => (match e0 with | st :: sts => ckS N cs xs sc s st && ckSs N cs xs sc r sts | _ => false)
  | .frz _ r, e0 => ckSs N cs xs sc r e0
end
mutual
def callsSt : S → List Str
  | .set _ e => calls e
  | .setM _ e => calls e
  | .par _ _ a b => calls a ++ calls b
  | .sub o i e => calls e ++ (calls o ++ calls i)
  | .aug _ _ e => calls e
  | .exp e => calls e
  | .ret e => calls e
  | .retM e => calls e
  | .ite t a b => calls t ++ (callsSs a ++ callsSs b)
  | .for_ _ it body => callsI it ++ callsSs body
  | .raise _ _ e => calls e
  | .try_ b _ => callsSs b
  | _ => []
def callsSs : Ss → List Str
  | .nil => []
  | .cons s r => callsSt s ++ callsSs r
  | .frz _ r => callsSs r
end
/-- raise C(e) does what it says -/
def RaiseOk (X : Cx) (x : Str × Option Str) : Prop := ∃ C, X.mg x.1 = some (.ref C) ∧ ∀ {e : Expr} {p pos : Pos} {t : TE}, noStar e = true → PE X e t → Gl X x.1 →
  PMk X (.Call (.Name x.1 p) [e] [] pos) (fun σ H Q => t σ H fun v H1 => match x.2 with
    | none => Q (.ref C) none H1
    | some f => ∀ d, H1 d = none → Q (.ref C) (some d) (upd H1 d (.xd [(f, v)])))
structure GoodS (X : Cx) (W : WX) (call : Calls) (fs : List Str) (cs : List (Str × Int)) (k : Nat) (N : List Str) (xs : Xs) (sc : Scope) : Prop extends Good X W call fs cs k N sc where
  hsc : X.env.scope = sc
  hk : sc.kind = .function
  rai : ∀ x ∈ xs, RaiseOk X x
  stk : X.stack = X.env :: X.outer
  frm : X.env.frame = some X.env.locals
  nex : X.ex = []
  actT : ∀ (pn : List (Addr × Obj)) (xe : Value → Shared → Prop) (W' : WX), Takes (X.tr pn xe) W' → ∀ i x p1 p2, N[i]? = some x → isVis sc x = true → (x == ("__debug__" : Str)) = false → (x == ("__classdict__" : Str)) = false → PE (X.tr pn xe) (.Call (.Name x p1) [] [] p2) (tD (X.tr pn xe) W' (ev call (.act i)))
  raiT : ∀ (pn : List (Addr × Obj)) (xe : Value → Shared → Prop), ∀ x ∈ xs, RaiseOk (X.tr pn xe) x
section
variable {call : Calls} {fs : List Str} {cs : List (Str × Int)} {k : Nat} {N : List Str} {xs : Xs} {X : Cx} {W : WX} {sc : Scope}
theorem asgCom (g : GoodS X W call fs cs k N xs sc) {i : Nat} {x : Str} {p spos : Pos} {v : Expr} {own : List (Str × Nat)} {elt : C} {tg : G} {it : I} {ifs : C'} (hi : N[i]? = some x) (hx : isLocal sc x = true) (hsw : swp sc v (.Name x p) = true)
    (hc : ∀ f ∈ calls (.com own elt tg it ifs), f ∈ fs) (h : ck N cs sc (.com own elt tg it ifs) v = true) :
    PS X (.Assign [.Name x p] v spos) (tAsg (tLc (tI X W (evI call it)) (gD X.K tg) (tDT X WF (tstO call.noact ifs)) (tD X WF (ev call.noact elt)) (own.map (·.2))) (gName i)) ∧ (∀ i ∈ tg.slots, i ∈ own.map (·.2)) := by
  have hs := g.hsc
  have e0 := swp_is (line := spos.line) hs g.hk (value := v) (target := .Name x p)
  rw [hsw] at e0
  simp only [ck] at h
  split at h <;> first | cases h | skip
  simp only [Bool.and_eq_true, List.all_eq_true] at h
  obtain ⟨⟨⟨⟨⟨⟨h1, h2⟩, h3⟩, h4⟩, h5⟩, h6⟩, h7⟩ := h
  simp only [calls] at hc
  refine ⟨ps_setLc (g := gD X.K tg) (tt := tDT X WF (tstO call.noact ifs)) (te := tD X WF (ev call.noact elt)) g.calm (by rw [g.hN]; exact g.nd) (by rw [g.hN]; exact hi) (by rw [hs]; exact local_of hx) e0 (sndI it g.toGood (sub_l (sub_r hc)) h2) (g.toGood.blkOk h1)
    (fun s H C cl fp => (g.toGood.blk s H C cl fp).tg h4) (fun s H C cl fp => sndF ifs (g.toGood.blk s H C cl fp) (sub_r (sub_r hc)) h7) (fun s H C cl fp => sndE elt (g.toGood.blk s H C cl fp) (sub_l hc) h6) (nofold h3), fun i hi => by simpa using h5 i hi⟩
theorem com_of {c : C} {v tg : Expr} (hsw : swp sc v tg = true) (h : ck N cs sc c v = true) : ∃ own elt g it ifs, c = .com own elt g it ifs := by
  unfold swp compScope at hsw
  cases v <;> first | (cases hsw; done) | skip
  all_goals (cases c <;> first | exact ⟨_, _, _, _, _, rfl⟩ | (simp [ck] at h; done))
/-- name = e -/
theorem asgD (g : GoodS X W call fs cs k N xs sc) {i : Nat} {x : Str} {p spos : Pos} {v : Expr} {c : C} (hi : N[i]? = some x) (hl : isLoc sc x = true) (hx : swp sc v (.Name x p) = true → isLocal sc x = true)
    (hc : ∀ f ∈ calls c, f ∈ fs) (h : ck N cs sc c v = true) : PS X (.Assign [.Name x p] v spos) (tAsg (tD X W (ev call c)) (gName i)) := by
  cases hsw : swp sc v (.Name x p) with
  | false => exact ps_asg (sndE c g.toGood hc h) (g.toGood.pg hi hl) (sole g.hsc g.hk hsw) rfl rfl
  | true =>
    obtain ⟨own, elt, tg, it, ifs, rfl⟩ := com_of hsw h
    obtain ⟨p1, p2⟩ := asgCom g hi (hx hsw) hsw hc h (spos := spos)
    exact PS.imp p1 fun Z σ H q => com_D p2 q
theorem asgF (g : GoodS X W call fs cs k N xs sc) {i : Nat} {x : Str} {p spos : Pos} {v : Expr} {c : C} (fr : isFr c = true) (hi : N[i]? = some x) (hl : isLoc sc x = true) (hx : swp sc v (.Name x p) = true → isLocal sc x = true)
    (hc : ∀ f ∈ calls c, f ∈ fs) (h : ck N cs sc c v = true) : PS X (.Assign [.Name x p] v spos) (tAsg (tFr X W (ev call c)) (gName i)) := by
  cases hsw : swp sc v (.Name x p) with
  | false => exact ps_asg (sndFr fr g.toGood hc h) (g.toGood.pg hi hl) (sole g.hsc g.hk hsw) rfl rfl
  | true =>
    obtain ⟨own, elt, tg, it, ifs, rfl⟩ := com_of hsw h
    obtain ⟨p1, p2⟩ := asgCom g hi (hx hsw) hsw hc h (spos := spos)
    exact PS.imp p1 fun Z σ H q => com_F p2 q
theorem set_D {g : G} {m : Env → Sto → R D} {Z : Ends} {σ : L2.St} {H : Hp} (h : tS X W (fun _ ρ h => (m ρ h).bindF ρ fun x h => match put g x ρ with | some ρ' => .ok (.nx ρ') h | none => .bad) Z σ H) : tAsg (tD X W m) (gD X.K g) Z σ H := by
  refine tS.start h fun βb Hb β τ ρ h a v H1 R0 eb ra p => ?_
  cases e : put g a ρ with
  | none => rw [e] at p; exact p.elim
  | some ρ' =>
    rw [e] at p
    exact put_ok R0.e ra e fun σ' E' _ => p.nx eb ⟨E', R0.s⟩
theorem setM_D {i : Nat} {m : Env → Sto → R D} {Z : Ends} {σ : L2.St} {H : Hp} (h : tS X W (fun _ ρ h => (m ρ h).bindF ρ fun x h => match x with | .lst xs => .ok (.nx (ρ.set i (some (.ref h.length)))) (h ++ [.lst xs]) | _ => .bad) Z σ H) : tAsg (tFr X W m) (gName i) Z σ H := by
  refine tS.cell (f := fun ρ xs h => .ok (.nx (ρ.set i (some (.ref h.length)))) (h ++ [.lst xs])) h fun βb Hb β τ ρ h p xs H1 R0 eb hl q => ?_
  refine q.nx eb ⟨R0.e.set i ?_, R0.s⟩
  simp only [Rep]
  exact ⟨p, rfl, by rw [← hl]; simp⟩
end
end MP

set_option autoImplicit false
set_option Elab.async false
set_option linter.all false
set_option maxRecDepth 100000
set_option maxHeartbeats 4000000
/-! The functional Python is sound: except suites. -/
namespace MP
open PySem PySem.Spec PyProof.Rows L2
/-! ### nothing is raised in a suite -/
mutual
theorem cold_ok {call : Calls} : ∀ (c : C) (ρ : Env) (h : Sto) (x : Ex) (h' : Sto), coldC c = true → ev call c ρ h ≠ .exc x h'
  | .var i, ρ, h, x, h', _ => by
    simp only [ev]
    split <;> simp
  | .int _, ρ, h, x, h', _ => by simp [ev]
  | .str _, ρ, h, x, h', _ => by simp [ev]
  | .bl _, ρ, h, x, h', _ => by simp [ev]
  | .non, ρ, h, x, h', _ => by simp [ev]
  | .xf o f, ρ, h, x, h', c => by
    simp only [coldC] at c
    have ih := cold_ok (call := call) o ρ h
    simp only [ev]
    cases e : ev call o ρ h with
    | ok d h1 => simp only [R.bind_ok]; cases fldD call.fld d f <;> simp
    | exc y h1 => exact absurd e (ih y h1 c)
    | bad => simp
  | .tup es, ρ, h, x, h', c => by
    simp only [coldC] at c
    have ih := colds_ok (call := call) es ρ h
    simp only [ev]
    cases e : evs call es ρ h with
    | ok d h1 => simp only [R.bind_ok]; split <;> simp
    | exc y h1 => exact absurd e (ih y h1 c)
    | bad => simp
  | .lst es, ρ, h, x, h', c => by
    simp only [coldC] at c
    have ih := colds_ok (call := call) es ρ h
    simp only [ev]
    cases e : evs call es ρ h with
    | ok d h1 => simp only [R.bind_ok]; split <;> simp
    | exc y h1 => exact absurd e (ih y h1 c)
    | bad => simp
  | .bin op a b, ρ, h, x, h', c => by
    simp only [coldC, Bool.and_eq_true] at c
    simp only [ev]
    cases e : ev call a ρ h with
    | ok d h1 =>
      simp only [R.bind_ok]
      cases e2 : ev call b ρ h1 with
      | ok d2 h2 => simp only [R.bind_ok]; cases binD op (deref h2 d) (deref h2 d2) <;> simp
      | exc y h2 => exact absurd e2 (cold_ok b ρ h1 y h2 c.2)
      | bad => simp
    | exc y h1 => exact absurd e (cold_ok a ρ h y h1 c.1)
    | bad => simp
  | .blt f es, ρ, h, x, h', c => by
    simp only [coldC, Bool.and_eq_true] at c
    have ih := colds_ok (call := call) es ρ h
    simp only [ev]
    cases e : evs call es ρ h with
    | ok d h1 => simp only [R.bind_ok]; cases bltD f (d.map (deref h1)) <;> simp
    | exc y h1 => exact absurd e (ih y h1 c.2)
    | bad => simp
  | .con _ _, ρ, h, x, h', c => by simp [coldC] at c
  | .typ _ _, ρ, h, x, h', c => by simp [coldC] at c
  | .neg _, ρ, h, x, h', c => by simp [coldC] at c
  | .inv _, ρ, h, x, h', c => by simp [coldC] at c
  | .cmp _ _ _, ρ, h, x, h', c => by simp [coldC] at c
  | .chn _ _ _ _ _, ρ, h, x, h', c => by simp [coldC] at c
  | .and _, ρ, h, x, h', c => by simp [coldC] at c
  | .or _, ρ, h, x, h', c => by simp [coldC] at c
  | .not _, ρ, h, x, h', c => by simp [coldC] at c
  | .ite _ _ _, ρ, h, x, h', c => by simp [coldC] at c
  | .idx _ _, ρ, h, x, h', c => by simp [coldC] at c
  | .slc _ _ _, ρ, h, x, h', c => by simp [coldC] at c
  | .rev _, ρ, h, x, h', c => by simp [coldC] at c
  | .call _ _, ρ, h, x, h', c => by simp [coldC] at c
  | .mth _ _ _, ρ, h, x, h', c => by simp [coldC] at c
  | .lrng _, ρ, h, x, h', c => by simp [coldC] at c
  | .dic _, ρ, h, x, h', c => by simp [coldC] at c
  | .com _ _ _ _ _, ρ, h, x, h', c => by simp [coldC] at c
  | .lamc _ _, ρ, h, x, h', c => by simp [coldC] at c
  | .act _, ρ, h, x, h', c => by simp [coldC] at c
  | .isi _ _, ρ, h, x, h', c => by simp [coldC] at c
  | .srs _, ρ, h, x, h', c => by simp [coldC] at c
theorem colds_ok {call : Calls} : ∀ (c : Cs) (ρ : Env) (h : Sto) (x : Ex) (h' : Sto), coldCs c = true → evs call c ρ h ≠ .exc x h'
  | .nil, ρ, h, x, h', _ => by simp [evs]
  | .cons c r, ρ, h, x, h', z => by
    simp only [coldCs, Bool.and_eq_true] at z
    simp only [evs]
    cases e : ev call c ρ h with
    | ok d h1 =>
      simp only [R.bind_ok]
      cases e2 : evs call r ρ h1 with
      | ok d2 h2 => simp
      | exc y h2 => exact absurd e2 (colds_ok r ρ h1 y h2 z.2)
      | bad => simp
    | exc y h1 => exact absurd e (cold_ok c ρ h y h1 z.1)
    | bad => simp
end
/-- what is known in a suite -/
structure GoodH (X : Cx) (call : Calls) (N : List Str) (sc : Scope) : Prop where
  hN : X.N = N
  vis : ∀ x, isVis sc x = true → Vis X.env.scope x
  gl : ∀ x, isGl sc x = true → Gl X x
  gd : X.A.guards = some []
  hu : X.A.units + 65 < cLine
  blt : ∀ x ∈ builtinNs, X.mg x = none
  cls : ClsOk X.K X.mg call
section
variable {call : Calls} {cs : List (Str × Int)} {N : List Str}
mutual
theorem sndH : ∀ (c : C) {X : Cx} {sc : Scope} {e : Expr}, GoodH X call N sc → coldC c = true → ck N cs sc c e = true → PE X e (tD X WF (ev call c))
  | .var i, X, sc, e, g, _, h => by
    simp only [ck] at h
    split at h <;> first | cases h | skip
    rename_i x p
    simp only [Bool.and_eq_true, decide_eq_true_eq] at h
    obtain ⟨⟨⟨h1, h2⟩, h3⟩, h4⟩ := h
    refine PE.imp (pe_var (i := i) (by rw [g.hN]; exact h1) (g.vis x h2) (by simpa using h3) (by simpa using h4)) fun σ H Q q => ?_
    obtain ⟨β, τ, ρ, h, R0, p⟩ := q
    simp only [ev] at p
    cases z : ρ[i]? with
    | none => rw [z] at p; exact p.elim
    | some o =>
      cases o with
      | none => rw [z] at p; exact p.elim
      | some d =>
        rw [z] at p
        obtain ⟨v, hv, rv⟩ := R0.e.2 i d z
        exact ⟨v, hv, p β H v (Ext.refl _ _) R0.s rv⟩
  | .int i, X, sc, e, g, _, h => by
    simp only [ck] at h
    split at h <;> first | cases h | skip
    simp only [decide_eq_true_eq] at h
    subst h
    exact PE.imp pe_int fun σ H Q q => const_D (fun _ _ _ => by simp [Rep]) q
  | .str s, X, sc, e, g, _, h => by
    simp only [ck] at h
    split at h <;> first | cases h | skip
    simp only [decide_eq_true_eq] at h
    subst h
    exact PE.imp pe_str fun σ H Q q => const_D (fun _ _ _ => by simp [Rep]) q
  | .bl s, X, sc, e, g, _, h => by
    simp only [ck] at h
    split at h <;> first | cases h | skip
    simp only [decide_eq_true_eq] at h
    subst h
    exact PE.imp pe_bl fun σ H Q q => const_D (fun _ _ _ => by simp [Rep]) q
  | .non, X, sc, e, g, _, h => by
    simp only [ck] at h
    split at h <;> first | cases h | skip
    exact PE.imp pe_non fun σ H Q q => const_D (fun _ _ _ => by simp [Rep]) q
  | .xf o f, X, sc, e, g, c, h => by
    simp only [coldC] at c
    simp only [ck] at h
    split at h <;> first | cases h | skip
    simp only [Bool.and_eq_true, decide_eq_true_eq] at h
    obtain ⟨rfl, h1⟩ := h
    refine PE.imp (pe_fldX (sndH o g c h1) (by rfl)) fun σ H Q q => ?_
    obtain ⟨β, τ, ρ, h, R0, p⟩ := q
    simp only [ev] at p
    refine ⟨β, τ, ρ, h, R0, (PostG.bind (repV X τ) p).wk fun v H1 ⟨β1, d, h1, e1, s1, r1, p1⟩ => ?_⟩
    cases z : fldD call.fld d f with
    | none => rw [z] at p1; exact p1.elim
    | some y =>
      rw [z] at p1
      obtain ⟨c, fn, ds, rfl, ok, lk⟩ := fldD_of z
      obtain ⟨T, hno⟩ := g.cls.fld c f ok
      obtain ⟨a, dd, us, rfl, ha, hdd, lu, ru⟩ := exc_rep r1 (by rintro rfl; simp at lk)
      obtain ⟨u, hu, ry⟩ := zip_look lu ru lk
      exact ⟨a, _, dd, fn.zip us, u, rfl, T, hno, ha, hdd, hu, p1 β1 H1 u (Ext.refl _ _) s1 ry⟩
  | .tup es, X, sc, e, g, c, h => by
    simp only [coldC] at c
    simp only [ck] at h
    split at h <;> first | cases h | skip
    refine PE.imp (pe_tup (sndHs es g c h)) fun σ H Q q => ?_
    obtain ⟨β, τ, ρ, h, R0, p⟩ := q
    simp only [ev] at p
    refine ⟨β, τ, ρ, h, R0, (PostG.bind (repL X τ) p).wk fun vs H1 ⟨β1, xs, h1, e1, s1, r1, p1⟩ => ?_⟩
    by_cases z : xs.length ≤ sizeLine
    · rw [if_pos z] at p1
      refine ⟨by rw [r1.length]; exact z, fun a ha => ?_⟩
      obtain ⟨e2, s2, r2⟩ := new_tup s1 ha r1
      exact p1 β1 _ _ e2 s2 r2
    · rw [if_neg z] at p1; exact p1.elim
  | .lst es, X, sc, e, g, c, h => by
    simp only [coldC] at c
    simp only [ck] at h
    split at h <;> first | cases h | skip
    refine PE.imp (pe_lst (sndHs es g c h)) fun σ H Q q => ?_
    obtain ⟨β, τ, ρ, h, R0, p⟩ := q
    simp only [ev] at p
    refine ⟨β, τ, ρ, h, R0, (PostG.bind (repL X τ) p).wk fun vs H1 ⟨β1, xs, h1, e1, s1, r1, p1⟩ => ?_⟩
    by_cases z : xs.length ≤ sizeLine
    · rw [if_pos z] at p1
      refine ⟨by rw [r1.length]; exact z, fun a ha => ?_⟩
      obtain ⟨e2, s2, r2⟩ := new_lst s1 ha r1
      exact p1 β1 _ _ e2 s2 r2
    · rw [if_neg z] at p1; exact p1.elim
  | .bin op a b, X, sc, e, g, c, h => by
    simp only [coldC, Bool.and_eq_true] at c
    simp only [ck] at h
    split at h <;> first | cases h | skip
    simp only [Bool.and_eq_true, decide_eq_true_eq] at h
    obtain ⟨⟨rfl, h1⟩, h2⟩ := h
    exact PE.imp (pe_op (op_binD op) (sndH a g c.1 h1) (sndH b g c.2 h2)) fun σ H Q q => tOp_D (by simpa only [ev] using q)
  | .blt f es, X, sc, e, g, c, h => by
    simp only [coldC, Bool.and_eq_true, decide_eq_true_eq] at c
    obtain ⟨rfl, c⟩ := c
    simp only [ck] at h
    split at h <;> first | cases h | skip
    rename_i x p xs pos
    simp only [Bool.and_eq_true, decide_eq_true_eq] at h
    obtain ⟨⟨⟨⟨rfl, h1⟩, h2⟩, h3⟩, h4⟩ := h
    cases xs with
    | nil => simp at h4
    | cons y ys =>
      have ia := sndHs es g c h3
      have st := cks_star h3
      simp only [List.all_cons, Bool.and_eq_true] at st
      exact PE.imp (pe_callB (cr_reprD g.gd g.hu) (g.gl _ h1) (g.blt _ (by decide)) (by rfl) ia (by decide) (gl_of h1).2 (star_cons st.1) (star_any st.2)) fun σ H Q q => tCB_D (by simpa only [ev] using q)
  | .con _ _, X, sc, e, g, c, h => by simp [coldC] at c
  | .typ _ _, X, sc, e, g, c, h => by simp [coldC] at c
  | .neg _, X, sc, e, g, c, h => by simp [coldC] at c
  | .inv _, X, sc, e, g, c, h => by simp [coldC] at c
  | .cmp _ _ _, X, sc, e, g, c, h => by simp [coldC] at c
  | .chn _ _ _ _ _, X, sc, e, g, c, h => by simp [coldC] at c
  | .and _, X, sc, e, g, c, h => by simp [coldC] at c
  | .or _, X, sc, e, g, c, h => by simp [coldC] at c
  | .not _, X, sc, e, g, c, h => by simp [coldC] at c
  | .ite _ _ _, X, sc, e, g, c, h => by simp [coldC] at c
  | .idx _ _, X, sc, e, g, c, h => by simp [coldC] at c
  | .slc _ _ _, X, sc, e, g, c, h => by simp [coldC] at c
  | .rev _, X, sc, e, g, c, h => by simp [coldC] at c
  | .call _ _, X, sc, e, g, c, h => by simp [coldC] at c
  | .mth _ _ _, X, sc, e, g, c, h => by simp [coldC] at c
  | .lrng _, X, sc, e, g, c, h => by simp [coldC] at c
  | .dic _, X, sc, e, g, c, h => by simp [coldC] at c
  | .com _ _ _ _ _, X, sc, e, g, c, h => by simp [coldC] at c
  | .lamc _ _, X, sc, e, g, c, h => by simp [coldC] at c
  | .act _, X, sc, e, g, c, h => by simp [coldC] at c
  | .isi _ _, X, sc, e, g, c, h => by simp [coldC] at c
  | .srs _, X, sc, e, g, c, h => by simp [coldC] at c
theorem sndHs : ∀ (c : Cs) {X : Cx} {sc : Scope} {e : List Expr}, GoodH X call N sc → coldCs c = true → cks N cs sc c e = true → PA X e (tDA X WF (evs call c))
  | .nil, X, sc, e, g, _, h => by
    simp only [cks] at h
    split at h <;> first | cases h | skip
    exact PA.imp pa_nil fun σ H Q q => tNil_D (by simpa only [evs] using q)
  | .cons c r, X, sc, e, g, z, h => by
    simp only [coldCs, Bool.and_eq_true] at z
    obtain ⟨x, xs, rfl, h1, h2, h3⟩ := cks_cons h
    exact PA.imp (pa_cons (sndH c g z.1 h2) (sndHs r g z.2 h3) (star_cons h1)) fun σ H Q q => tCons_D (by simpa only [evs] using q)
end
end
section
variable {call : Calls} {cs : List (Str × Int)} {N : List Str} {xs : Xs} {X : Cx} {W : WX} {sc : Scope}
theorem frep_zip {K : PySem.W.Frag} {β τ : List Addr} {H : Hp} : ∀ {fs : List (Str × D)} {vs : List (Str × V)}, FRep K β τ H fs vs → ∃ us, vs = (fs.map (·.1)).zip us ∧ us.length = fs.length ∧ Reps K β τ H (fs.map (·.2)) us
  | [], vs, r => by
    simp only [FRep] at r
    subst r
    exact ⟨[], rfl, rfl, by simp [Reps]⟩
  | (f, d) :: fs, vs, r => by
    obtain ⟨v, r', rfl, h1, h2⟩ := r
    obtain ⟨us, rfl, l, w⟩ := frep_zip h2
    exact ⟨v :: us, rfl, by simp [l], Reps.cons h1 w⟩
/-- the caught exception, once it is tracked -/
theorem exc_here {mg : Str → Option Value} {K : PySem.W.Frag} {β τ : List Addr} {H : Hp} {h : Sto} {x : Ex} {cls : Value} {dd : Option Addr} {a : Addr} (S : SRep K β τ H h) (hm : mg x.cls = some (.ref (He.ga K x.cls))) (r : XRep mg K β τ H x cls dd) (ha : H a = none) :
    Rep K β τ (upd H a (XO a cls dd)) (.rcd (.exc x.cls (x.fs.map (·.1))) (x.fs.map (·.2))) (.ref a) := by
  obtain ⟨C, h1, rfl, h2, h3⟩ := r
  rw [hm] at h1
  cases h1
  have fa : Fz β τ a := ⟨S.fresh ha, S.offTau ha⟩
  simp only [Rep]
  by_cases ne : x.fs = []
  · rw [h2 ne, ne]
    exact ⟨a, [], [(a, XO a (.ref (He.ga K x.cls)) none)], rfl, fun p hp => by
      simp only [List.mem_singleton] at hp
      subst hp
      exact ⟨upd_same, fa, fun ps z => by unfold XO at z; cases z⟩, ⟨rfl, .inl ⟨rfl, rfl⟩⟩, by simp [Reps]⟩
  · obtain ⟨d, vs, rfl, hd, fr⟩ := h3 ne
    obtain ⟨us, rfl, l, w⟩ := frep_zip fr
    have nd : d ≠ a := fun z => by rw [z, ha] at hd; cases hd
    refine ⟨a, us, [(a, XO a (.ref (He.ga K x.cls)) (some d)), (d, .xd ((x.fs.map (·.1)).zip us))], rfl, fun p hp => ?_, ⟨by simp [l], .inr ⟨by simpa using ne, d, rfl⟩⟩, Reps.ext (Ext.new _ ha) w⟩
    simp only [List.mem_cons, List.not_mem_nil, or_false] at hp
    rcases hp with rfl | rfl
    · exact ⟨upd_same, fa, fun ps z => by unfold XO at z; cases z⟩
    · refine ⟨by rw [upd_ne nd]; exact hd, ⟨fun z => ?_, fun z => ?_⟩, fun ps z => by cases z⟩
      · obtain ⟨vs, y⟩ := S.lst_of z
        simp only at y
        rw [hd] at y; cases y
      · obtain ⟨vs, y⟩ := S.res _ z
        simp only at y
        rw [hd] at y; cases y
/-- the end of a suite that returns -/
theorem ret_cold {βb β τ : List Addr} {Hb H : Hp} {ρ : Env} {h : Sto} {σ : L2.St} {t : C} {Q : VK} (ct : coldC t = true) (R0 : Rel X.K β τ σ H ρ h) (eb : Ext βb Hb β H)
    (p : ∀ d h', ev call t ρ h = .ok d h' → ∀ β' H' v, Ext βb Hb β' H' → SRep X.K β' τ H' h' → Rep X.K β' τ H' d v → Q v H') (nb : ev call t ρ h ≠ .bad) : tD X WF (ev call t) σ H Q := by
  refine ⟨β, τ, ρ, h, R0, ?_⟩
  cases e : ev call t ρ h with
  | ok d h' => exact fun β' H' v e' s r => p d h' e β' H' v (eb.trans e') s r
  | exc x h' => exact absurd e (cold_ok t ρ h x h' ct)
  | bad => exact absurd e nb
theorem hdsOk (C : ClsOk X.K X.mg call) (hg : ∀ x, isGl sc x = true → Gl X x) (hl : ∀ x, isLocal sc x = true → X.env.kindOf x = some .local) (hN : X.N = N) (rai : ∀ x ∈ xs, RaiseOk X x) (GH : ∀ a pn, GoodH (X.suite a pn) call N sc) :
    ∀ (c : Hds) (hs : List ExceptHandler), ckHs N cs xs sc c hs = true → ∃ l, HdOk X hs l ∧ ∀ {βb β τ : List Addr} {Hb H : Hp} {ρ : Env} {h : Sto} {σ : L2.St} {Z : Ends} {x : Ex} {cls : Value} {dd : Option Addr},
      Ext βb Hb β H → SRep X.K β τ H h → ERep X.K β τ H σ ρ → XRep X.mg X.K β τ H x cls dd → PostF X W βb Hb τ Z (evHs call x c βb.length ρ h) → wHd X.K W Z l cls dd σ H
  | .nil, hs, hk => by
    simp only [ckHs] at hk
    split at hk <;> first | cases hk | skip
    refine ⟨[], .nil, fun {βb β τ Hb H ρ h σ Z x cls dd} eb S E XR p => ?_⟩
    simp only [evHs] at p
    exact p β H σ eb S E cls dd XR
  | .cons y nm b r, hs, hk => by
    simp only [ckHs] at hk
    split at hk <;> first | cases hk | skip
    rename_i y' py nm' e pr ph rest
    simp only [Bool.and_eq_true, decide_eq_true_eq, List.any_eq_true] at hk
    obtain ⟨⟨⟨⟨⟨rfl, g1⟩, z, hz, hzy⟩, hn⟩, hb⟩, hr⟩ := hk
    split at hb <;> first | cases hb | skip
    rename_i t
    simp only [Bool.and_eq_true] at hb
    obtain ⟨l, ok, wish⟩ := hdsOk C hg hl hN rai GH r rest hr
    obtain ⟨Cv, hm, _⟩ := rai z hz
    rw [hzy] at hm
    refine ⟨(.ref Cv, nm, fun a cls d D σ H => tD X WF (ev call t) σ H D.rt) :: l, .cons ⟨hg _ g1, (gl_of g1).2, .inl hm⟩ ?_ (fun a cls d pn => pss_one (ps_ret (sndH t (GH a pn) hb.1 hb.2))) ok, fun {βb β τ Hb H ρ h σ Z x cls dd} eb S E XR p => ?_⟩
    · cases nm with
      | none =>
        cases nm' with
        | none => trivial
        | some _ => simp at hn
      | some i =>
        cases nm' with
        | none => simp at hn
        | some n =>
          simp only [Bool.and_eq_true, decide_eq_true_eq] at hn
          exact ⟨by rw [hN]; exact hn.1, hl n hn.2⟩
    · simp only [evHs] at p
      cases hx : call.isx x.cls y' with
      | none => rw [hx] at p; exact p.elim
      | some bb =>
        rw [hx] at p
        obtain ⟨m1, _, _, cv, hcv, k1, _⟩ := C.isx _ _ _ hx
        have ecv : cv = .ref Cv := by
          rcases hcv with ⟨q, _⟩ | ⟨q, _⟩
          · rw [hm] at q; cases q; rfl
          · rw [hm] at q; cases q
        subst ecv
        have ecl : cls = .ref (He.ga X.K x.cls) := by
          obtain ⟨C', h1, rfl, _⟩ := XR
          rw [m1] at h1; cases h1; rfl
        refine ⟨bb, by rw [ecl]; exact k1, fun z => ?_, fun z a ha => ?_⟩
        · subst z
          exact wish eb S E XR p
        · subst z
          have ea := Ext.new (β := β) (XO a cls dd) ha
          have Sa := S.new (XO a cls dd) ha
          cases nm with
          | none =>
            simp only at p
            refine ret_cold hb.1 ⟨E.ext ea, Sa⟩ (eb.trans ea) (fun d h' e => ?_) fun e => ?_ <;> (simp only [evSs, evS, e, R.bindF] at p)
            · exact fun β' H' v e' s r => p β' H' σ e' s v r
            · exact p
          | some i =>
            simp only at p
            have Ei := (E.ext ea).set i (exc_here S m1 XR ha)
            refine ret_cold hb.1 ⟨Ei, Sa⟩ (eb.trans ea) (fun d h' e => ?_) fun e => ?_ <;> (simp only [evSs, evS, e, R.bindF, R.bind] at p)
            · exact fun β' H' v e' s r => p β' H' σ e' s v r
            · exact p
end
end MP

set_option autoImplicit false
set_option Elab.async false
set_option linter.all false
set_option maxRecDepth 100000
set_option maxHeartbeats 8000000
/-! The functional Python is sound: all statements. -/
namespace MP
open PySem PySem.Spec PyProof.Rows L2
section
variable {call : Calls} {fs : List Str} {cs : List (Str × Int)} {k : Nat} {N : List Str} {xs : Xs}
theorem noS {X : Cx} {W : WX} {st : Stmt} {t : TS} (h : False) : PS X st t := h.elim
theorem sub_asg {o i : Expr} {p : Pos} {env : PySem.Env} (h : noSlice i = true) (v : Value) : assign (.Subscript o i p) env v = (do
      let ov ← holding [v] (eval o env)
      let iv ← holding [v, ov] (eval i env)
      standAt p
      holding [v, ov, iv] (setItem ov iv v)
      release [v, ov, iv] []) := by
  cases i <;> first | rfl | (simp [noSlice] at h)
theorem par_D {X : Cx} {W : WX} {i j : Nat} {a b : C} {Z : Ends} {σ : L2.St} {H : Hp} (h : tS X W (fun nb ρ h => evS call (.par i j a b) nb ρ h) Z σ H) : tPar i j (tDA X W (evs call (.cons a (.cons b .nil)))) Z σ H := by
  obtain ⟨βb, Hb, β, τ, ρ, h, R0, eb, p⟩ := h
  simp only [evS] at p
  refine ⟨β, τ, ρ, h, R0, ?_⟩
  simp only [evs]
  cases e1 : ev call a ρ h with
  | exc x h1 => rw [e1] at p; intro β1 H1 c d e s q; exact p β1 H1 σ (eb.trans e) s (R0.e.ext e) c d q
  | bad => rw [e1] at p; exact p.elim
  | ok x h1 =>
    rw [e1] at p
    simp only [R.bindF_ok, R.bind_ok] at p ⊢
    cases e2 : ev call b ρ h1 with
    | exc x h2 => rw [e2] at p; intro β1 H1 c d e s q; exact p β1 H1 σ (eb.trans e) s (R0.e.ext e) c d q
    | bad => rw [e2] at p; exact p.elim
    | ok y h2 =>
      rw [e2] at p
      simp only [R.bindF_ok, R.bind_ok] at p ⊢
      intro β1 H1 vs e s r
      simp only [Reps] at r
      obtain ⟨v1, _, rfl, r1, v2, _, rfl, r2, rfl⟩ := r
      exact ⟨v1, v2, rfl, p.nx (eb.trans e) ⟨((R0.e.ext e).set _ r1).set _ r2, s⟩⟩
theorem sub_D {X : Cx} {W : WX} {o i e : C} {Z : Ends} {σ : L2.St} {H : Hp} (h : tS X W (fun nb ρ h => evS call (.sub o i e) nb ρ h) Z σ H) : tAsg (tD X W (ev call e)) (gSub (tD X W (ev call o)) (tD X W (ev call i)) rSetL) Z σ H := by
  simp only [evS] at h
  refine tS.start h fun βb Hb β τ ρ h1 dv v H1 R1 eb rv p => ?_
  refine ⟨β, τ, ρ, h1, R1, (PostF.bind (repV X τ) R1.e eb p).wk fun w H2 ⟨β2, x, h2, e2, s2, r2, p2⟩ => ?_⟩
  refine ⟨β2, τ, ρ, h2, R1.ext e2 s2, (PostF.bind (repV X τ) (R1.ext e2 s2).e (eb.trans e2) p2).wk fun u H3 ⟨β3, y, h3, e3, s3, r3, p3⟩ => ?_⟩
  cases x with
  | ref q =>
    cases y with
    | int n =>
      simp only at p3
      cases hq : h3[q]? with
      | none => rw [hq] at p3; exact p3.elim
      | some ob =>
        cases ob with
        | lst ds =>
          rw [hq] at p3
          simp only at p3
          cases hj : ixN ds.length n with
          | none => rw [hj] at p3; exact p3.elim
          | some j =>
            rw [hj] at p3
            obtain ⟨a, vs, ha, hv, rr⟩ := s3.get hq
            have rx := r2.ext e3
            simp only [Rep] at rx
            obtain ⟨b, rfl, hb⟩ := rx
            rw [ha] at hb; cases hb
            have eu := int_of r3
            subst eu
            have ew : Ext β3 H3 β3 (upd H3 a (.lst (vs.set j v))) := Ext.write _ ha
            refine ⟨a, vs, n, j, rfl, rfl, hv, by rw [rr.length]; exact hj, p3.nx (((eb.trans e2).trans e3).trans ew) ⟨(((R1.e.ext e2).ext e3).ext ew), s3.write ha (Reps.set j rr ((rv.ext e2).ext e3))⟩⟩
    | _ => exact p3.elim
  | _ => exact p3.elim
theorem aug_D {X : Cx} {W : WX} {i : Nat} {op : Operator} {e : C} {Z : Ends} {σ : L2.St} {H : Hp} {f : Int → Int → Int} (hf : (op = .Add ∧ f = fun i j => i + j) ∨ (op = .Sub ∧ f = fun i j => i - j)) (h : tS X W (fun nb ρ h => evS call (.aug i op e) nb ρ h) Z σ H) :
    tAug i (tD X W (ev call e)) (ipI f) Z σ H := by
  obtain ⟨βb, Hb, β, τ, ρ, h, R0, eb, p⟩ := h
  simp only [evS] at p
  cases z : ρ[i]? with
  | none => rw [z] at p; exact p.elim
  | some o =>
    cases o with
    | none => rw [z] at p; exact p.elim
    | some d =>
      rw [z] at p
      cases d with
      | int a =>
        simp only at p
        obtain ⟨v, hv, rv⟩ := R0.e.2 i _ z
        have ev' := int_of rv
        subst ev'
        refine ⟨_, hv, β, τ, ρ, h, R0, (PostF.bind (repV X τ) R0.e eb p).wk fun u H1 ⟨β1, y, h1, e1, s1, r1, p1⟩ => ?_⟩
        rcases hf with ⟨rfl, rfl⟩ | ⟨rfl, rfl⟩
        · cases y with
          | int b =>
            have eu := int_of r1
            subst eu
            exact ⟨a, b, rfl, rfl, p1.nx (eb.trans e1) ⟨(R0.e.ext e1).set _ (by simp [Rep]), s1⟩⟩
          | _ => exact p1.elim
        · cases y with
          | int b =>
            have eu := int_of r1
            subst eu
            exact ⟨a, b, rfl, rfl, p1.nx (eb.trans e1) ⟨(R0.e.ext e1).set _ (by simp [Rep]), s1⟩⟩
          | _ => exact p1.elim
      | _ => exact p.elim
theorem loop_D {X : Cx} {W : WX} {g : G} {it : I} {body : Ss} {Z : Ends} {σ : L2.St} {H : Hp} (h : tS X W (fun nb ρ h => evS call (.for_ g it body) nb ρ h) Z σ H) : tFor (tI X W (evI call it)) (gD X.K g) (tS X W (fun nb ρ h => evSs call body nb ρ h)) Z σ H := by
  obtain ⟨βb, Hb, β, τ, ρ, h, R0, eb, p⟩ := h
  simp only [evS] at p
  refine ⟨β, τ, ρ, h, R0, (PostF.bind (repI X τ) R0.e eb p).wk fun J H1 ⟨β1, ds, h1, e1, s1, k1, p1⟩ => ?_⟩
  generalize ht : (fun (x : D) (ρ : Env) (h' : Sto) => match put g x ρ with
        | some ρ' => if h1.length ≤ h'.length then evSs call body h1.length ρ' h' else .bad
        | none => (.bad : R Flow)) = turn at p1
  have eb1 := eb.trans e1
  refine ⟨fun i m σ' H' => m = ds.length - i ∧ ∃ β2 ρ2 h2, i ≤ ds.length ∧ Ext β1 H1 β2 H' ∧ Rel X.K β2 τ σ' H' ρ2 h2 ∧ forLoop turn (ds.drop i) ρ2 h2 = forLoop turn ds ρ h1, ⟨_, rfl, β1, ρ, h1, Nat.zero_le _, Ext.refl _ _, R0.ext e1 s1, by simp⟩, ?_⟩
  rintro i m σ2 H2 ⟨rfl, β2, ρ2, h2, hi, e2, R2, go⟩
  by_cases hl : i < ds.length
  · refine .inr ⟨(k1.ext e2).go hl, fun σ' H' => ∃ β' ρ' h', i + 1 ≤ ds.length ∧ Ext β1 H1 β' H' ∧ Rel X.K β' τ σ' H' ρ' h' ∧ forLoop turn (ds.drop (i + 1)) ρ' h' = forLoop turn ds ρ h1, fun σ' H' n => ⟨ds.length - (i + 1), by omega, rfl, n⟩, fun x H3 y => ?_⟩
    have hd : ds[i]? = some ds[i] := by simp [hl]
    have dr : ds.drop i = ds[i] :: ds.drop (i + 1) := (List.drop_eq_getElem_cons hl)
    rw [dr] at go
    revert hd go
    generalize ds[i] = d
    intro go hd
    obtain ⟨e3, s3, rx⟩ := (k1.ext e2).yld R2.s hd y
    simp only [forLoop] at go
    have ed : turn d ρ2 h2 = (match put g d ρ2 with
        | some ρ' => if h1.length ≤ h2.length then evSs call body h1.length ρ' h2 else .bad
        | none => (.bad : R Flow)) := by rw [← ht]
    rw [ed] at go
    cases pe : put g d ρ2 with
    | none => rw [pe] at go; rw [← go] at p1; exact p1.elim
    | some ρ' =>
      rw [pe] at go
      simp only at go
      by_cases hle : h1.length ≤ h2.length
      · rw [if_pos hle] at go
        refine put_ok (R2.e.ext e3) rx pe fun σ' E3 _ => ?_
        refine ⟨β1, H1, β2, τ, ρ', h2, ⟨E3, s3⟩, e2.trans e3, ?_⟩
        rw [← s1.len]
        dsimp only
        cases er : evSs call body h1.length ρ' h2 with
        | exc x h' => rw [er] at go; rw [← go] at p1; exact p1.elim
        | bad => rw [er] at go; rw [← go] at p1; exact p1.elim
        | ok f h' =>
          rw [er] at go
          cases f with
          | nx ρ'' => intro β' H' σ'' e s E; exact ⟨β', ρ'', h', hl, e, ⟨E, s⟩, go⟩
          | ct ρ'' => intro β' H' σ'' e s E; exact ⟨β', ρ'', h', hl, e, ⟨E, s⟩, go⟩
          | bk ρ'' => rw [← go] at p1; intro β' H' σ'' e s E; exact p1 β' H' σ'' (eb1.trans e) s E
          | rt dd => rw [← go] at p1; intro β' H' σ'' e s v r; exact p1 β' H' σ'' (eb1.trans e) s v r
          | ex x ρ'' => rw [← go] at p1; intro β' H' σ'' e s E; exact p1 β' H' σ'' (eb1.trans e) s E
      · rw [if_neg hle] at go
        rw [← go] at p1; exact p1.elim
  · have ei : i = ds.length := by omega
    subst ei
    refine .inl ⟨(k1.ext e2).stop (Nat.le_refl _), ?_⟩
    rw [List.drop_length] at go
    simp only [forLoop] at go
    rw [← go] at p1
    exact p1.nx (eb1.trans e2) R2
mutual
theorem sndS : ∀ (c : S) {X : Cx} {W : WX} {sc : Scope} {st : Stmt}, GoodS X W call fs cs k N xs sc → (∀ f ∈ callsSt c, f ∈ fs) → ckS N cs xs sc c st = true → PS X st (tS X W (fun nb ρ h => evS call c nb ρ h))
  | .set t e, X, W, sc, st, g, hc, h => by
    simp only [ckS] at h
    split at h <;> first | cases h | skip
    rename_i tg v pos
    simp only [Bool.and_eq_true] at h
    obtain ⟨⟨⟨h1, h2⟩, h3⟩, h4⟩ := h
    simp only [callsSt] at hc
    have hsw : (∀ x p, tg ≠ .Name x p) → swp sc v tg = false := fun ne => by
      unfold swp
      cases compScope v with
      | none => rfl
      | some s =>
        cases tg with
        | Name x p => exact absurd rfl (ne x p)
        | _ => rfl
    have big : (∀ x p, tg ≠ .Name x p) → (∃ es k p, tg = .Tuple es k p) → (assignEach [tg] X.env).map (·.2) = [assign tg X.env] → PS X (.Assign [tg] v pos) (tS X W (fun nb ρ h => evS call (.set t e) nb ρ h)) := fun ne et er => by
      refine PS.imp (ps_asg (sndE e g.toGood hc h2) (g.toGood.tg h1) (sole g.hsc g.hk (hsw ne)) ?_ er) fun Z σ H q => ?_
      · obtain ⟨es, k, p, rfl⟩ := et
        cases v <;> first | rfl | (simp [noTup', noTup] at h3)
      · simp only [evS] at q
        exact set_D q
    cases tg <;> first | (cases t <;> simp [ckG] at h1; done) | skip
    · rename_i x px
      cases t <;> first | (simp [ckG] at h1; done) | skip
      rename_i i
      simp only [ckG, Bool.and_eq_true, decide_eq_true_eq] at h1
      refine PS.imp (asgD g h1.1 h1.2 (fun z => ?_) hc h2) fun Z σ H q => ?_
      · unfold swpOk at h4
        rw [z] at h4
        simpa using h4
      · simp only [evS] at q
        exact set_D (g := .name i) q
    · exact big (by intros; simp) ⟨_, _, _, rfl⟩ rfl
  | .setM i e, X, W, sc, st, g, hc, h => by
    simp only [ckS] at h
    split at h <;> first | cases h | skip
    rename_i x p v pos
    simp only [Bool.and_eq_true, decide_eq_true_eq] at h
    obtain ⟨⟨⟨⟨h1, h2⟩, h3⟩, h4⟩, h5⟩ := h
    simp only [callsSt] at hc
    refine PS.imp (asgF g h4 h1 h2 (fun z => by rw [z] at h5; simpa using h5) hc h3) fun Z σ H q => by
      simp only [evS] at q
      exact setM_D q
  | .par i j a b, X, W, sc, st, g, hc, h => by
    simp only [ckS] at h
    split at h <;> first | cases h | skip
    simp only [Bool.and_eq_true, decide_eq_true_eq, Bool.not_eq_true'] at h
    obtain ⟨⟨⟨⟨⟨⟨⟨⟨⟨⟨⟨⟨h1, h2⟩, h3⟩, h4⟩, h5⟩, h6⟩, h7⟩, h8⟩, h9⟩, h10⟩, h11⟩, h12⟩, h13⟩ := h
    simp only [callsSt] at hc
    have hk' : X.env.scope.kind = .function := by rw [g.hsc]; exact g.hk
    have hx := local_of h3
    have hy := local_of h4
    rw [← g.hsc] at hx hy
    refine PS.imp (ps_par g.calm (by rw [g.hN]; exact g.nd) (by rw [g.hN]; exact h1) (by rw [g.hN]; exact h2) h5 hx hy (sndEs (.cons a (.cons b .nil)) g.toGood (by simpa [callsS] using hc) (by simp [cks, h8, h9, h10, h11])) (par_swap hk' hx hy h7 h6 h8 h9 h12 h13)) fun Z σ H q => par_D q
  | .sub o i e, X, W, sc, st, g, hc, h => by
    simp only [ckS] at h
    split at h <;> first | cases h | skip
    simp only [Bool.and_eq_true] at h
    obtain ⟨⟨⟨h1, h2⟩, h3⟩, h4⟩ := h
    simp only [callsSt] at hc
    refine PS.imp (ps_asg (sndE e g.toGood (sub_l hc) h4) (pg_sub (sndE o g.toGood (sub_l (sub_r hc)) h2) (sndE i g.toGood (sub_r (sub_r hc)) h3) set_list (sub_asg h1)) (sole g.hsc g.hk ?_) rfl rfl) fun Z σ H q => sub_D q
    unfold swp
    split <;> rfl
  | .aug i op e, X, W, sc, st, g, hc, h => by
    simp only [ckS] at h
    split at h <;> first | cases h | skip
    simp only [Bool.and_eq_true, decide_eq_true_eq, Bool.or_eq_true] at h
    obtain ⟨⟨⟨⟨h1, h2⟩, rfl⟩, h4⟩, h5⟩ := h
    simp only [callsSt] at hc
    have lx := g.loc _ h2
    rcases h4 with rfl | rfl
    · exact PS.imp (ps_aug (by rw [g.hN]; exact g.nd) (by rw [g.hN]; exact h1) lx.1 (sndE e g.toGood hc h5) ip_add lx.2) fun Z σ H q => aug_D (.inl ⟨rfl, rfl⟩) q
    · exact PS.imp (ps_aug (by rw [g.hN]; exact g.nd) (by rw [g.hN]; exact h1) lx.1 (sndE e g.toGood hc h5) ip_sub lx.2) fun Z σ H q => aug_D (.inr ⟨rfl, rfl⟩) q
  | .exp e, X, W, sc, st, g, hc, h => by
    simp only [ckS] at h
    split at h <;> first | cases h | skip
    simp only [Bool.and_eq_true, Option.isNone_iff_eq_none] at h
    simp only [callsSt] at hc
    refine PS.imp (ps_expr (sndE e g.toGood hc h.1) (noCom h.2)) fun Z σ H q => ?_
    simp only [evS] at q
    exact tS.start q fun βb Hb β τ ρ h a v H1 R0 eb ra p => p.nx eb R0
  | .ret e, X, W, sc, st, g, hc, h => by
    simp only [ckS] at h
    split at h <;> first | cases h | skip
    simp only [callsSt] at hc
    refine PS.imp (ps_ret (sndE e g.toGood hc h)) fun Z σ H q => ?_
    simp only [evS] at q
    exact tS.start q fun βb Hb β τ ρ h a v H1 R0 eb ra p => p β H1 σ eb R0.s v ra
  | .retM e, X, W, sc, st, g, hc, h => by
    simp only [ckS] at h
    split at h <;> first | cases h | skip
    simp only [Bool.and_eq_true] at h
    simp only [callsSt] at hc
    refine PS.imp (ps_ret (sndFr h.2 g.toGood hc h.1)) fun Z σ H q => ?_
    simp only [evS] at q
    refine tS.cell (f := fun ρ xs h => .ok (.rt (.ref h.length)) (h ++ [.lst xs])) q fun βb Hb β τ ρ h p xs H1 R0 eb hl q => ?_
    refine q _ _ σ eb R0.s _ ?_
    simp only [Rep]
    exact ⟨p, rfl, by rw [← hl]; simp⟩
  | .retN, X, W, sc, st, g, hc, h => by
    simp only [ckS] at h
    split at h <;> first | cases h | skip
    refine PS.imp ps_retN fun Z σ H q => ?_
    obtain ⟨βb, Hb, β, τ, ρ, h, R0, eb, p⟩ := q
    simp only [evS] at p
    exact p β H σ eb R0.s .non (by simp [Rep])
  | .ite t a b, X, W, sc, st, g, hc, h => by
    simp only [ckS] at h
    split at h <;> first | cases h | skip
    simp only [Bool.and_eq_true] at h
    simp only [callsSt] at hc
    refine PS.imp (ps_if (sndT t g.toGood (sub_l hc) h.1.1) (sndSs a g (sub_l (sub_r hc)) h.1.2) (sndSs b g (sub_r (sub_r hc)) h.2)) fun Z σ H q => ?_
    simp only [evS] at q
    refine tS.startB (f := fun nb ρ c h => if c then evSs call a nb ρ h else evSs call b nb ρ h) q fun c H1 q1 => ?_
    cases c with
    | true => rw [if_pos rfl]; exact q1
    | false => rw [if_neg Bool.false_ne_true]; exact q1
  | .for_ t it body, X, W, sc, st, g, hc, h => by
    simp only [ckS] at h
    split at h <;> first | cases h | skip
    simp only [Bool.and_eq_true] at h
    obtain ⟨⟨⟨h1, h2⟩, h3⟩, h4⟩ := h
    simp only [callsSt] at hc
    exact PS.imp (ps_for g.own g.calm (sndI it g.toGood (sub_l hc) h1) (g.toGood.tg h3) (sndSs body g (sub_r hc) h4) (nofold h2)) fun Z σ H q => loop_D q
  | .pass, X, W, sc, st, g, hc, h => by
    simp only [ckS] at h
    split at h <;> first | cases h | skip
    refine PS.imp ps_pass fun Z σ H q => ?_
    obtain ⟨βb, Hb, β, τ, ρ, h, R0, eb, p⟩ := q
    simp only [evS] at p
    exact p.nx eb R0
  | .brk, X, W, sc, st, g, hc, h => by
    simp only [ckS] at h
    split at h <;> first | cases h | skip
    refine PS.imp ps_break fun Z σ H q => ?_
    obtain ⟨βb, Hb, β, τ, ρ, h, R0, eb, p⟩ := q
    simp only [evS] at p
    exact p β H σ eb R0.s R0.e
  | .cnt, X, W, sc, st, g, hc, h => by
    simp only [ckS] at h
    split at h <;> first | cases h | skip
    refine PS.imp ps_continue fun Z σ H q => ?_
    obtain ⟨βb, Hb, β, τ, ρ, h, R0, eb, p⟩ := q
    simp only [evS] at p
    exact p β H σ eb R0.s R0.e
  | .raise cls fld e, X, W, sc, st, g, hc, h => by
    simp only [ckS] at h
    split at h <;> first | cases h | skip
    simp only [Bool.and_eq_true, decide_eq_true_eq] at h
    obtain ⟨⟨⟨⟨rfl, h1⟩, h2⟩, h3⟩, h4⟩ := h
    simp only [callsSt] at hc
    obtain ⟨C, hC, hm⟩ := g.rai _ h1
    refine PS.imp (ps_raise g.calm g.tk (hm h3 (sndE e g.toGood hc h4) (g.gl _ h2))) fun Z σ H q => ?_
    simp only [evS] at q
    refine tS.start q fun βb Hb β τ ρ h a v H1 R0 eb ra p => ?_
    cases fld with
    | none => exact p β H1 σ eb R0.s R0.e _ _ ⟨C, hC, rfl, fun _ => rfl, fun z => absurd rfl z⟩
    | some f =>
      intro d hd
      have ew := Ext.new (β := β) (.xd [(f, v)]) hd
      exact p β _ σ (eb.trans ew) (R0.s.new _ hd) (R0.e.ext ew) _ _ ⟨C, hC, rfl, (fun z => by cases z), fun _ => ⟨d, _, rfl, upd_same, v, [], rfl, ra.ext ew, rfl⟩⟩
  | .try_ b hs, X, W, sc, st, g, hc, h => by
    simp only [ckS] at h
    split at h <;> first | cases h | skip
    rename_i body hd hds pos
    simp only [Bool.and_eq_true] at h
    simp only [callsSt] at hc
    have hu := g.toGood.hu
    obtain ⟨l, ok, wish⟩ := hdsOk (W := W) (X := X) g.cls g.gl (fun x hx => by
      have := local_of hx
      rw [← g.hsc] at this
      exact this) g.hN g.rai (fun a pn => ⟨g.hN, g.vis, g.gl, g.gd, hu, g.blt, g.cls⟩) hs _ h.2
    refine PS.imp (ps_tryD g.stk g.frm (by rw [g.hN]; exact g.nd) g.nex g.tk (tb := fun W' => tS X W' (fun nb ρ h => evSs call b nb ρ h)) (fun W' pn xe tk own => ?_) ok) fun Z σ H q => ?_
    · have g' : GoodS (X.tr pn xe) W' call fs cs k N xs sc := {
        hN := g.hN, vis := g.vis, gl := g.gl, loc := g.loc, fre := g.fre, nd := g.nd, calm := g.calm, tk := tk, own := own, gd := g.gd, rm := g.rm, blt := g.blt, con := g.con, fns := g.fns, cls := g.cls, lam := g.lam
        act := g.actT pn xe W' tk
        hsc := g.hsc, hk := g.hk, rai := fun x hx => g.raiT pn xe x hx, stk := g.stk, frm := g.frm, nex := g.nex
        actT := fun pn' xe' W'' tk' => g.actT pn' xe' W'' tk'
        raiT := fun pn' xe' => g.raiT pn' xe' }
      exact sndSs b g' hc h.1
    · obtain ⟨βb, Hb, β, τ, ρ, h0, R0, eb, p⟩ := q
      simp only [evS] at p
      refine ⟨βb, Hb, β, τ, ρ, h0, R0, eb, ?_⟩
      dsimp only
      cases e : evSs call b βb.length ρ h0 with
      | exc _ _ => rw [e] at p; exact p.elim
      | bad => rw [e] at p; exact p.elim
      | ok f h1 =>
        rw [e] at p
        cases f with
        | ex x ρ' => exact fun β' H' σ' e' S' E' cls dd XR => wish e' S' E' XR p
        | nx _ => exact p
        | rt _ => exact p
        | bk _ => exact p
        | ct _ => exact p
theorem sndSs : ∀ (c : Ss) {X : Cx} {W : WX} {sc : Scope} {st : List Stmt}, GoodS X W call fs cs k N xs sc → (∀ f ∈ callsSs c, f ∈ fs) → ckSs N cs xs sc c st = true → PSs X st (tS X W (fun nb ρ h => evSs call c nb ρ h))
  | .nil, X, W, sc, st, g, hc, h => by
    simp only [ckSs] at h
    split at h <;> first | cases h | skip
    refine PSs.imp pss_nil fun Z σ H q => ?_
    obtain ⟨βb, Hb, β, τ, ρ, h, R0, eb, p⟩ := q
    simp only [evSs] at p
    exact p.nx eb R0
  | .cons s r, X, W, sc, st, g, hc, h => by
    simp only [ckSs] at h
    split at h <;> first | cases h | skip
    simp only [Bool.and_eq_true] at h
    simp only [callsSs] at hc
    refine PSs.imp (pss_cons (sndS s g (sub_l hc) h.1) (sndSs r g (sub_r hc) h.2)) fun Z σ H q => ?_
    obtain ⟨βb, Hb, β, τ, ρ, h, R0, eb, p⟩ := q
    simp only [evSs] at p
    refine ⟨βb, Hb, β, τ, ρ, h, R0, eb, ?_⟩
    dsimp only
    cases e : evS call s βb.length ρ h with
    | exc x h1 => rw [e] at p; exact p.elim
    | bad => rw [e] at p; exact p.elim
    | ok f h1 =>
      rw [e] at p
      cases f with
      | nx ρ' => intro β' H' σ' e' s' E'; exact ⟨βb, Hb, β', τ, ρ', h1, ⟨E', s'⟩, e', p⟩
      | _ => exact p
  | .frz i r, X, W, sc, st, g, hc, h => by
    simp only [ckSs] at h
    simp only [callsSs] at hc
    refine PSs.imp (sndSs r g hc h) fun Z σ H q => ?_
    obtain ⟨βb, Hb, β, τ, ρ, h, R0, eb, p⟩ := q
    simp only [evSs] at p
    cases z : ρ[i]? with
    | none => rw [z] at p; exact p.elim
    | some o =>
      cases o with
      | none => rw [z] at p; exact p.elim
      | some d =>
        rw [z] at p
        cases d with
        | ref q =>
          simp only at p
          cases hq : h[q]? with
          | none => rw [hq] at p; exact p.elim
          | some ob =>
            cases ob with
            | lst ds =>
              rw [hq] at p
              simp only at p
              by_cases cnd : q + 1 = h.length ∧ βb.length ≤ q ∧ allBelow q ds = true ∧ noRefs q ρ i = true ∧ (h.take q).all (MO.below q) = true
              · rw [if_pos cnd] at p
                obtain ⟨c1, c2, c3, c4, c5⟩ := cnd
                obtain ⟨β0, a, rfl, hl, R1⟩ := frz_rel R0 z hq c1 c3 c4 c5
                exact ⟨βb, Hb, β0, τ, _, _, R1, eb.cutr (by omega), p⟩
              · rw [if_neg cnd] at p; exact p.elim
        | _ => exact p.elim
end
end
end MP

set_option autoImplicit false
set_option Elab.async false
set_option linter.all false
set_option maxRecDepth 100000
set_option maxHeartbeats 4000000
/-! The functional Python is sound: defs and the law's call. -/
namespace MP
open PySem PySem.Spec PyProof.Rows L2
/-! ### dropping the callee's cells -/
mutual
theorem refsBelow.up {n m : Nat} (h : n ≤ m) : ∀ {d : D}, refsBelow n d = true → refsBelow m d = true
  | .non, _ => rfl
  | .bl _, _ => rfl
  | .int _, _ => rfl
  | .str _, _ => rfl
  | .ty _, _ => rfl
  | .dct _, _ => rfl
  | .scr _, _ => rfl
  | .ref i, q => by simp only [refsBelow, decide_eq_true_eq] at q ⊢; omega
  | .tup xs, q => by simp only [refsBelow] at q ⊢; exact allBelow.up h q
  | .lst xs, q => by simp only [refsBelow] at q ⊢; exact allBelow.up h q
  | .rcd k xs, q => by simp only [refsBelow] at q ⊢; exact allBelow.up h q
theorem allBelow.up {n m : Nat} (h : n ≤ m) : ∀ {d : List D}, allBelow n d = true → allBelow m d = true
  | [], _ => rfl
  | x :: xs, q => by
    simp only [allBelow, Bool.and_eq_true] at q ⊢
    exact ⟨refsBelow.up h q.1, allBelow.up h q.2⟩
end
theorem below.up {n m : Nat} (h : n ≤ m) {o : MO} (q : MO.below n o = true) : MO.below m o = true := by
  cases o with
  | lst xs => simp only [MO.below] at q ⊢; exact allBelow.up h q
theorem FRep.cut {K : PySem.W.Frag} {β t τ : List Addr} {H : Hp} : ∀ {fs : List (Str × D)} {vs : List (Str × V)}, FRep K (β ++ t) τ H fs vs → fs.all (fun p => refsBelow β.length p.2) = true → FRep K β τ H fs vs
  | [], _, r, _ => r
  | (f, d) :: r, vs, q, b => by
    simp only [List.all_cons, Bool.and_eq_true] at b
    obtain ⟨v, r', rfl, h1, h2⟩ := q
    exact ⟨v, r', rfl, Rep.cut h1 b.1, FRep.cut h2 b.2⟩
theorem Ext.shrink {β t : List Addr} {H H' : Hp} (e : Ext β H (β ++ t) H') : Ext β H β H' := ⟨⟨[], by simp⟩, fun a o h n nt => ⟨(e.keepN a o h n nt).1, n⟩⟩
theorem Ext.shrink1 {β t : List Addr} {a : Addr} {H H' : Hp} (e : Ext β H (β ++ a :: t) H') : Ext β H (β ++ [a]) H' := by
  have sub : ∀ b, b ∉ β ++ a :: t → b ∉ β ++ [a] := fun b n z => n (by
    simp only [List.mem_append, List.mem_singleton] at z
    rcases z with z | z
    · exact List.mem_append_left _ z
    · subst z; exact List.mem_append_right _ List.mem_cons_self)
  exact ⟨⟨[a], rfl⟩, fun b o h n nt => ⟨(e.keepN b o h n nt).1, sub b (e.keepN b o h n nt).2⟩⟩
/-- what a callee's end says of the call's -/
theorem leave_ok {K : PySem.W.Frag} {β τ β' : List Addr} {H H' : Hp} {h' h'' : Sto} {d d' : D} {v : V} {Q : VK} (e : leave β.length d h' = .ok d' h'') (ex : Ext β H β' H') (S : SRep K β' τ H' h') (r : Rep K β' τ H' d v)
    (q : ∀ β' H' v, Ext β H β' H' → SRep K β' τ H' h'' → Rep K β' τ H' d' v → Q v H') : Q v H' := by
  obtain ⟨t, rfl⟩ := ex.pre
  have plain : refsBelow β.length d = true → (h'.take β.length).all (MO.below β.length) = true → d = d' → h'.take β.length = h'' → Q v H' := fun b1 b2 ed eh => by
    subst ed; subst eh
    exact q β H' v ex.shrink (S.cut b2) (Rep.cut r b1)
  unfold leave at e
  split at e
  · rename_i k
    by_cases c1 : k < β.length
    · rw [if_pos c1] at e
      by_cases c2 : (h'.take β.length).all (MO.below β.length) = true ∧ β.length ≤ h'.length
      · rw [if_pos c2] at e
        cases e
        exact plain (by simp [refsBelow, c1]) c2.1 rfl rfl
      · rw [if_neg c2] at e; cases e
    · rw [if_neg c1] at e
      by_cases c2 : k = β.length ∧ (h'.take (β.length + 1)).all (MO.below β.length) = true ∧ β.length + 1 ≤ h'.length
      · rw [if_pos c2] at e
        cases e
        obtain ⟨rfl, c3, c4⟩ := c2
        cases t with
        | nil =>
          have := S.len
          simp at this; omega
        | cons a t =>
          have e1 : β ++ a :: t = (β ++ [a]) ++ t := by simp
          rw [e1] at S r
          have ll : (β ++ [a]).length = β.length + 1 := by simp
          refine q (β ++ [a]) H' v ex.shrink1 ?_ (Rep.cut r (by simp [refsBelow]))
          have := S.cut (t := t) (by
            rw [ll]
            exact List.all_eq_true.mpr fun o ho => below.up (Nat.le_succ _) (List.all_eq_true.mp c3 o ho))
          rw [ll] at this
          exact this
      · rw [if_neg c2] at e; cases e
  · by_cases c2 : refsBelow β.length d = true ∧ (h'.take β.length).all (MO.below β.length) = true ∧ β.length ≤ h'.length
    · rw [if_pos c2] at e
      cases e
      exact plain c2.1 c2.2.1 rfl rfl
    · rw [if_neg c2] at e; cases e
/-! ### a def of the text against a Def -/
structure DefOk (st : Stmt) (d : Def) (cs : List (Str × Int)) (xs : Xs) (fs : List Str) (N ps : List Str) : Prop where
  sc : FnScope N ps (defScope st)
  n : d.n = N.length
  m : d.m = ps.length
  body : ckSs N cs xs (defScope st) d.body (defBody st) = true
  cl : ∀ f ∈ callsSs d.body, f ∈ fs
theorem start_rep {K : PySem.W.Frag} {β τ : List Addr} {H : Hp} {N : List Str} {ds : List D} {vs : List V} (r : Reps K β τ H ds vs) (hl : ds.length ≤ N.length) : ERep K β τ H (start N vs) (startE N.length ds) := by
  have l := r.length
  unfold L2.start startE
  refine ⟨by simp [l], fun i d hi => ?_⟩
  by_cases c : i < ds.length
  · rw [List.getElem?_append_left (by simpa using c), List.getElem?_map] at hi
    cases z : ds[i]? with
    | none => rw [z] at hi; cases hi
    | some d' =>
      rw [z] at hi; cases hi
      obtain ⟨v, hv, rv⟩ := Reps.get r z
      exact ⟨v, by rw [List.getElem?_append_left (by simp; omega), List.getElem?_map, hv]; rfl, rv⟩
  · rw [List.getElem?_append_right (by simp; omega), List.getElem?_replicate] at hi
    split at hi <;> cases hi
/-! ### a def's body, called where no guard is held -/
section
variable {P : Program} {w : World} {K : PySem.W.Frag} {mg : Str → Option Value} {base : Heap}
theorem fn_at {x qual : Str} {params : Arguments} {body : List Stmt} {scope : Scope} {f : Addr} {fd : FuncData} {N ps : List Str} {k : Nat} {oc : Value} {od : Option Addr} {dV kV doc pm cdv ct : Value} {an : Option Addr} {osl : Array (Option Value)}
    (hfd : fd = PySem.W.fnOf x qual params body scope dV kV doc pm an cdv ct) (lk : K.lookup f = some ⟨oc, od, .func fd, osl⟩) (hcd : PySem.W.codeIn K cdv qual = true) (S : FnScope N ps scope)
    {A : Around} {fr : List PySem.Env} {s : Shared} {H : Hp} {as : Args} {us : List Value} {vs : List V} {Q : VK} {E : XK} (room : Room (k + 1) A) (e0 : Env0 P w K mg base A fr s H) (bound : BindsTo s fd as (ps.zip us)) (rv : Vals vs us) (many : vs.length = ps.length)
    {t : TS} (q : t { nx := fun _ H' => Q .non H', rt := Q } (L2.start N vs) H) (runs : PSs (cxOf (L2.CX P w) P w K mg base N qual scope f cdv A fr s H E) body t) :
    codeAny (model P w) A (.call (.ref f) as) (CR (L2.CX P w) fr P w H s Q E) s := by
  subst hfd
  have kin : K.In s.heap := e0.mod.kin.keeps fun b o q => (e0.bs b o q).1
  have kinds : ∀ y ∈ ps.zip us, scope.names.lookup y.1 = some .local ∨ scope.names.lookup y.1 = some .cell ∧ ((cellsFrom (s.heap.objs.size + 1) scope.names []).lookup y.1).isSome = true := by
    rintro ⟨n, v⟩ hy
    cases S.par n (List.of_mem_zip hy).1 with
    | inl q => exact .inl q
    | inr q => exact .inr ⟨q, PySem.W.cellsFrom_some _ _ _ (Or.inl q)⟩
  refine codeAny_call_function (Room.depth room) (kin f _ lk) rfl S.co S.gen rfl (PySem.W.codeRec_of kin hcd) ?_
  refine bound _ _ _ _ (wpAny_newFunctionEnv_cells S.kind kinds ?_)
  rintro env rfl s1 inside
  constructor
  · exact Heap.NoLimit.keeps (e0.mod.nolimit.keeps fun b o q => (e0.bs b o q).1) inside.toInCall.keep
  refine codeAny_func ?_
  have I0 := inv_start (CX := L2.CX P w) (E := E) (cd := cdv) (qual := qual) S room.hd e0 many rv inside
  refine wpAny_mono (runs.run [] s1 _ H { nx := fun _ H' => Q .non H', rt := Q } I0 q) ?_ fun _ _ z => z
  intro fl s' h
  cases fl with
  | next => exact let ⟨_, H', J, h⟩ := h; ⟨.non, H', J.os, J.bare, J.base, J.hok, rfl, h⟩
  | ret u => exact let ⟨v, _, H', J, r, h⟩ := h; ⟨v, H', J.os, J.bare, J.base, J.hok, r, h⟩
  | brk => exact let ⟨_, _, _, h⟩ := h; h.elim
  | cont => exact let ⟨_, _, _, h⟩ := h; h.elim
theorem FnG.ofC {x qual : Str} {params : Arguments} {body : List Stmt} {scope : Scope} {f : Addr} {fd : FuncData} {N ps : List Str} {k : Nat} {sp : Sp} {oc : Value} {od : Option Addr} {dV kV doc pm cdv ct : Value} {an : Option Addr} {osl : Array (Option Value)}
    (hfd : fd = PySem.W.fnOf x qual params body scope dV kV doc pm an cdv ct) (lk : K.lookup f = some ⟨oc, od, .func fd, osl⟩) (hcd : PySem.W.codeIn K cdv qual = true) (S : FnScope N ps scope)
    (len : ∀ vs H Q E, sp vs H Q E → vs.length = ps.length)
    (go : ∀ (A : Around) (fr : List PySem.Env) (s : Shared) (H : Hp) (vs : List V) (Q : VK) (E : XK), A.guards = some [] → Room k (A.deeper (envOfC qual scope s.heap.objs.size f cdv)) → sp vs H Q E →
      ∃ t : TS, t { nx := fun _ H' => Q .non H', rt := Q } (L2.start N vs) H ∧ PSs (cxOf (L2.CX P w) P w K mg base N qual scope f cdv A fr s H E) body t) : FnG P w K mg base (k + 1) f fd ps sp := by
  constructor
  · exact len
  intro A fr s H as us vs Q E gd room e0 bound rv said
  obtain ⟨t, q, runs⟩ := go A fr s H vs Q E gd (room.deeper _) said
  exact fn_at hfd lk hcd S room e0 bound rv (len vs H Q E said) q runs
/-- what the module holds -/
structure ModOk (K : PySem.W.Frag) (mg : Str → Option Value) (cs : List (Str × Int)) : Prop where
  blt : ∀ x ∈ builtinNs, mg x = none
  con : ∀ x i, cs.lookup x = some i → ∃ t, mg x = some (.int i t)
/-- a def by its row in the table -/
structure Row (K : PySem.W.Frag) (mg : Str → Option Value) (Γ : Txt) (cs : List (Str × Int)) (xs : Xs) (fs : List Str) (f : Str) : Prop where
  ex : ∃ (fd : FuncData) (st : Stmt) (d : Def) (N ps : List Str), Γ f = some d ∧ mg f = some (.ref (He.fAd K (f, none))) ∧ FunD K f f (defArgs st) (defBody st) (defScope st) [] [] (He.fAd K (f, none)) fd ∧ Binds K fd ps [] ∧ DefOk st d cs xs fs N ps
/-- each def's table is told as the lambdas' table of this def alone -/
def lamsB (fs : List Str) (K : PySem.W.Frag) : Bool := fs.all fun f => (lamT K).any (fun p => p.1 == (He.cT K (f, none)).2 && decide (p.2 = f ++ ".<locals>." ++ "<lambda>")) && (lamT K).all fun p => p.1 != (He.cT K (f, none)).2 || decide (p.2 = f ++ ".<locals>." ++ "<lambda>")
theorem run_m {Γ : Txt} {n : Nat} {f : Str} {d : Def} (hd : Γ f = some d) {as : List D} {h : Sto} (e : run Γ n f as h ≠ .bad) : as.length = d.m := by
  cases n with
  | zero => exact absurd rfl e
  | succ n =>
    simp only [run, callD, hd] at e
    by_cases c : as.length = d.m ∧ d.m ≤ d.n
    · exact c.1
    · rw [if_neg c] at e; exact absurd rfl e
theorem run_isx {Γ : Txt} {n : Nat} : (run Γ n).isx = Γ.isx := by cases n <;> rfl
theorem run_fld {Γ : Txt} {n : Nat} : (run Γ n).fld = Γ.fld := by cases n <;> rfl
theorem run_act {Γ : Txt} {n : Nat} {f c : Addr} {q : Str} {us : List V} {ds : List D} {h : Sto} : (run Γ n).act f c q us ds h = .bad := by cases n <;> rfl
/-- a body's end is the call's -/
theorem end_D {X : Cx} {βb τ : List Addr} {Hb : Hp} {h : Sto} {r : R Flow} {Q : VK} {E : XK} (lb : h.length = βb.length) (post : PostC X.K X.mg βb τ Hb Q E (endD h r)) :
    PostF X (fun c d _ H => E c d H) βb Hb τ { nx := fun _ H' => Q .non H', rt := Q } r := by
  cases r with
  | exc x h' => exact post.elim
  | bad => exact post.elim
  | ok fl h' =>
    cases fl with
    | nx ρ =>
      intro β' H' σ' ex S' E'
      simp only [endD] at post
      cases el : leave h.length .non h' with
      | exc _ _ => rw [el] at post; unfold leave at el; simp only at el; split at el <;> cases el
      | bad => rw [el] at post; exact post.elim
      | ok d' h'' =>
        rw [el] at post
        rw [lb] at el
        exact leave_ok el ex S' (by simp [Rep]) post
    | rt dd =>
      intro β' H' σ' ex S' v rv
      simp only [endD] at post
      cases el : leave h.length dd h' with
      | exc _ _ =>
        exfalso
        unfold leave at el
        split at el
        · split at el
          · split at el <;> cases el
          · split at el <;> cases el
        · split at el <;> cases el
      | bad => rw [el] at post; exact post.elim
      | ok d' h'' =>
        rw [el] at post
        rw [lb] at el
        exact leave_ok el ex S' rv post
    | bk ρ => exact post.elim
    | ct ρ => exact post.elim
    | ex x ρ =>
      intro β' H' σ' ex S' E' cls dd X'
      simp only [endD] at post
      by_cases c : x.fs.all (fun p => refsBelow h.length p.2) = true ∧ (h'.take h.length).all (MO.below h.length) = true ∧ h.length ≤ h'.length
      · rw [if_pos c] at post
        obtain ⟨t, rfl⟩ := ex.pre
        obtain ⟨c1, c2, c3⟩ := c
        rw [lb] at c1 c2 post
        refine post βb H' cls dd ex.shrink (S'.cut c2) ?_
        obtain ⟨C, h1, h2, h4, h3⟩ := X'
        refine ⟨C, h1, h2, h4, fun ne => ?_⟩
        obtain ⟨dk, vs', e1, e2, e3⟩ := h3 ne
        exact ⟨dk, vs', e1, e2, FRep.cut e3 c1⟩
      · rw [if_neg c] at post; exact post.elim
theorem lamTab_of {N : List Str} {f : Str} {sc : Scope} {cdv : Value} {A : Around} {fr : List PySem.Env} {s : Shared} {H : Hp} {E : XK} {fs : List Str} (hf : f ∈ fs) (hl : lamsB fs K = true) (ht : ∀ f ∈ fs, LamX.TabB base mg (He.cT K (f, none)).1 (He.cT K (f, none)).2)
    {fd : FuncData} {q : Str} {ps : Arguments} {body : List Stmt} {dV kV doc pm ct oc : Value} {an od : Option Addr} {osl : Array (Option Value)} (hfd : fd = PySem.W.fnOf f q ps body sc dV kV doc pm an cdv ct) (lk : K.lookup (He.fAd K (f, none)) = some ⟨oc, od, .func fd, osl⟩) (hcd : PySem.W.codeIn K cdv q = true) :
    LamTab (cxOf (L2.CX P w) P w K mg base N f sc (He.fAd K (f, none)) cdv A fr s H E) := by
  obtain ⟨c, rfl⟩ := He.codeIn_ref hcd
  have e : (He.cT K (f, none)).1 = c := He.codeOf_eq lk (by rw [hfd])
  unfold lamsB at hl
  have := List.all_eq_true.mp hl f hf
  simp only [Bool.and_eq_true, List.any_eq_true, List.all_eq_true, beq_iff_eq, decide_eq_true_eq, Bool.or_eq_true, bne_iff_ne] at this
  obtain ⟨⟨p, hp, e1, e2⟩, al⟩ := this
  refine ⟨c, (He.cT K (f, none)).2, by rw [← e]; exact ht f hf, rfl, ?_, fun p hp z => ?_⟩
  · rw [← e1]
    have z : p = (p.1, f ++ ".<locals>." ++ "<lambda>") := by rw [← e2]
    rw [z] at hp
    exact hp
  · rcases al p hp with y | y
    · exact absurd z y
    · exact y
theorem sound {Γ : Txt} {cs : List (Str × Int)} {xs : Xs} {fs : List Str} (M : ModOk K mg cs) (hx : ∀ X : Cx, X.prog = P → X.w = w → X.K = K → X.mg = mg → X.base = base → Room 1 X.A → ∀ x ∈ xs, RaiseOk X x) (hc : ClsOk K mg (run Γ 0)) (hΓ : ∀ x d, Γ x = some d → x ∈ fs)
    (hl : lamsB fs K = true) (ht : ∀ f ∈ fs, LamX.TabB base mg (He.cT K (f, none)).1 (He.cT K (f, none)).2) (hf : ∀ f ∈ fs, Row K mg Γ cs xs fs f) :
    ∀ n, ∀ f ∈ fs, FnC P w K mg base (3 * n + 1) (run Γ n) f ∧ ((∃ a c q us ds t h, (run Γ n).lam f a c q us ds t h ≠ .bad) → LamC P w K mg base (3 * n + 1) (run Γ n) f)
  | 0, f, h => by
    obtain ⟨fd, st, d, N, ps, hd, ha, F, bd, T⟩ := (hf f h).ex
    obtain ⟨oc, od, dV, kV, doc, pm, an, cdv0, ct, osl, hfd, lk, hcd, _⟩ := F.ex
    refine ⟨⟨_, fd, ps, ha, F.kp, FnG.ofC hfd lk hcd T.sc (fun vs H Q E q => ?_) (fun A fr s H vs Q E _ _ q => ?_), bd, fun ds h e => absurd rfl e⟩, fun ⟨_, _, _, _, _, _, _, z⟩ => absurd rfl z⟩
    · obtain ⟨β, τ, ds, h, r, l, _⟩ := q
      rw [r.length, l]
    · obtain ⟨β, τ, ds, h, r, l, _, z⟩ := q
      exact z.elim
  | n + 1, f, h => by
    obtain ⟨fd, st, d, N, ps, hd, ha, F, bd, T⟩ := (hf f h).ex
    have IH := sound M hx hc hΓ hl ht hf n
    have hcl : ClsOk K mg (run Γ n) := ⟨fun c c' b e => hc.isx c c' b (by rw [run_isx] at e ⊢; exact e), fun c f e => hc.fld c f (by rw [run_fld] at e ⊢; exact e)⟩
    obtain ⟨oc, od, dV, kV, doc, pm, an, cdv0, ct, osl, hfd, lk, hcd, _⟩ := F.ex
    -- what is known in a body; act: what the lambda does
    have good : ∀ (act : Addr → Addr → Str → List V → List D → Sto → R D) (X : Cx) (cdv : Value) (A : Around) (fr : List PySem.Env) (s : Shared) (H : Hp) (E : XK), X = cxOf (L2.CX P w) P w K mg base N f (defScope st) (He.fAd K (f, none)) cdv A fr s H E → cdv = cdv0 → A.guards = some [] →
        Room (3 * n + 3) (A.deeper (envOfC f (defScope st) s.heap.objs.size (He.fAd K (f, none)) cdv)) →
        (∀ (pn : List (Addr × Obj)) (xe : Value → Shared → Prop) (W' : WX), Takes (X.tr pn xe) W' → ∀ i x p1 p2, N[i]? = some x → isVis (defScope st) x = true → (x == ("__debug__" : Str)) = false → (x == ("__classdict__" : Str)) = false → PE (X.tr pn xe) (.Call (.Name x p1) [] [] p2) (tD (X.tr pn xe) W' (ev { run Γ n with act := act } (.act i)))) →
        GoodS X (fun c d _ H => E c d H) { run Γ n with act := act } fs cs (3 * n + 1) N xs (defScope st) := by
      intro act X cdv A fr s H E e ecd gd room hact
      subst e ecd
      exact { hN := rfl, vis := fun x h => vis_of h, gl := fun x h => (gl_of h).1, loc := fun x h => ⟨loc_of h, .inl rfl⟩, fre := fun x h => h, nd := T.sc.nd, calm := rfl,
              tk := takes_of rfl rfl rfl rfl, own := passes_of rfl, gd := gd, rm := room.mono (by omega), blt := M.blt, con := M.con, fns := fun f hf => (IH f hf).1, cls := ⟨hcl.isx, hcl.fld⟩,
              lam := fun x f c q us ds t h' e => by
                have hx' : x ∈ fs := by
                  cases n with
                  | zero => exact absurd rfl e
                  | succ m =>
                    cases z : Γ x with
                    | some d' => exact hΓ x d' z
                    | none =>
                      simp only [run, callD, z] at e
                      exact absurd rfl e
                exact ⟨room, let ⟨g, fd, nm, a1, a2, a3, a4⟩ := (IH x hx').2 ⟨f, c, q, us, ds, t, h', e⟩; ⟨g, fd, nm, a1, a2, ⟨a3.run⟩, a4⟩, lamTab_of h hl ht hfd lk hcd⟩
              act := fun i x p1 p2 h1 h2 h3 h4 => hact _ _ (fun c d _ H => E c d H) (takes_of rfl rfl rfl rfl) i x p1 p2 h1 h2 h3 h4
              hsc := rfl, hk := T.sc.kind, rai := hx _ rfl rfl rfl rfl rfl (room.mono (by omega)), stk := rfl, frm := rfl, nex := rfl, actT := hact
              raiT := fun pn xe => hx _ rfl rfl rfl rfl rfl (room.mono (by omega)) }
    have same : ∀ cdv : Value, cdv = cdv0 → True := fun _ _ => trivial
    refine ⟨⟨_, fd, ps, ha, F.kp, FnG.ofC hfd lk hcd T.sc (fun vs H Q E q => ?_) (fun A fr s H vs Q E gd room q => ?_), bd, fun ds h e => ?_⟩, fun ⟨_, _, _, _, _, _, _, nb⟩ => ?_⟩
    · obtain ⟨β, τ, ds, h, r, l, _⟩ := q
      rw [r.length, l]
    · obtain ⟨β, τ, ds, h, r, l, S, post⟩ := q
      have G := good (run Γ n).act _ cdv0 A fr s H E rfl rfl gd room (fun pn xe W' _ i x p1 p2 _ _ _ _ => noE (by
        intro ρ h
        simp only [ev]
        split
        · exact run_act
        · rfl))
      refine ⟨_, ?_, sndSs d.body G T.cl T.body⟩
      have lN : ds.length ≤ N.length := by
        simp only [run, callD, hd] at post
        by_cases c : ds.length = d.m ∧ d.m ≤ d.n
        · rw [← T.n]; omega
        · rw [if_neg c] at post; exact post.elim
      refine ⟨β, H, β, τ, startE N.length ds, h, ⟨start_rep r lN, S⟩, Ext.refl _ _, ?_⟩
      simp only [run, callD, hd] at post
      rw [if_pos ⟨by rw [l, T.m], by rw [T.m, ← l, T.n]; exact lN⟩, T.n] at post
      rw [← S.len]
      refine end_D (X := cxOf (L2.CX P w) P w K mg base N f (defScope st) (He.fAd K (f, none)) cdv0 A fr s H E) S.len ?_
      revert post
      generalize endD h (evSs (run Γ n) d.body h.length (startE N.length ds) h) = r
      intro post
      cases r with
      | ok _ _ => exact post
      | exc _ _ => exact post
      | bad => exact post
    · rw [run_m hd e, T.m]
    · simp only [run, callD, hd] at nb
      have c1 : 1 = d.m ∧ d.m ≤ d.n := by
        by_cases c : 1 = d.m ∧ d.m ≤ d.n
        · exact c
        · rw [if_neg c] at nb; exact absurd rfl nb
      obtain ⟨nm, rfl⟩ : ∃ nm, ps = [nm] := List.length_eq_one_iff.mp (by have := T.m; omega)
      refine ⟨_, fd, nm, ha, F.kp, ⟨fun A fr s H as a c q us ds t β τ h Q E gd room e0 bound S0 R0 hco fz hact post => ?_⟩, bd⟩
      simp only [run, callD, hd] at post
      rw [if_pos c1] at post
      have G := good (actOf a c q us t) _ cdv0 A fr s H E rfl rfl gd (room.deeper _) (fun pn xe W' tk i x p1 p2 h1 h2 h3 h4 => PE.imp (hact N f (defScope st) cdv0 i x pn xe W' p1 p2 h1 (vis_of h2) h3 h4 tk) fun σ1 H1 Q1 ⟨β1, τ1, ρ1, h1, R1, post1⟩ => ?_)
      · refine fn_at hfd lk hcd T.sc room e0 (us := [.ref a]) (vs := [.ref a]) (by simpa using bound) (.cons rfl .nil) rfl ?_ (sndSs d.body G T.cl T.body)
        have rr : Reps K β τ H [.rcd (.fn a c q us) ds] [.ref a] := by
          refine ⟨_, _, rfl, ?_, rfl⟩
          exact ⟨a, us, [(c, LamX.CodeO c q)], rfl, (by intro p hp; obtain rfl := List.mem_singleton.mp hp; exact ⟨hco, fz, fun ps z => by cases z⟩), ⟨rfl, rfl, rfl⟩, R0⟩
        refine ⟨β, H, β, τ, startE N.length [.rcd (.fn a c q us) ds], h, ⟨start_rep rr (by have := T.n; simp only [List.length_cons, List.length_nil]; omega), S0⟩, Ext.refl _ _, ?_⟩
        rw [T.n] at post
        rw [← S0.len]
        exact end_D (X := cxOf (L2.CX P w) P w K mg base N f (defScope st) (He.fAd K (f, none)) cdv0 A fr s H E) S0.len post
      · simp only [ev] at post1
        split at post1
        · rename_i f' c' q' us' ds' eρ
          unfold actOf at post1
          split at post1
          · rename_i e
            obtain ⟨rfl, rfl, rfl, rfl⟩ := e
            obtain ⟨v, hv, rv⟩ := R1.e.2 i _ eρ
            obtain ⟨a', us2, fp, rfl, hfp, ⟨rfl, rfl, rfl⟩, rds⟩ := rv
            refine ⟨hv, ?_, β1, τ1, ds', h1, R1.s, rds, post1⟩
            exact (hfp _ (List.mem_singleton.mpr rfl)).1
          · exact post1.elim
        · exact post1.elim
end
end MP

set_option autoImplicit false
set_option Elab.async false
set_option linter.all false
set_option maxRecDepth 100000
set_option maxHeartbeats 4000000
/-! The functional Python is sound: the law's call, from what the written part leaves. -/
namespace MP
open PySem PySem.Spec PyProof.Rows L2
/-- what the claim asks of the call -/
abbrev Kept (s₁ : Shared) (r : Result) (s' : Shared) : Prop := r = .ok (.ret (.bool true)) ∧ OldK s₁.heap s'.heap ∧ s'.os = s₁.os ∧ AllBare s'.gens
/-- the script is a datum -/
theorem scr_rep {K : PySem.W.Frag} {H : Hp} {a : Addr} {ns : List Int} (h : SqL K H a (ns.map V.int)) : Rep K [] [] H (.scr ns) (.ref a) := by
  simp only [Rep]
  refine ⟨a, rfl, ?_⟩
  rcases h with h | h
  · exact .inl ⟨h, by simp, by simp⟩
  · exact .inr h
theorem empty_rep {K : PySem.W.Frag} {H : Hp} (t : LamX.Tabs (lamT K) H) : SRep K [] [] H [] := ⟨rfl, List.nodup_nil, fun i o a h _ => by simp at h, fun a h => by simp at h, fun a h => by simp at h, t⟩
/-- the law's promise, from the run of its functional form -/
theorem law_said {K : PySem.W.Frag} {mg : Str → Option Value} {call : Calls} {f : Str} {H : Hp} {a : Addr} {ns : List Int} (h : SqL K H a (ns.map V.int)) (t : LamX.Tabs (lamT K) H) {st : Sto} (run : call f [.scr ns] [] = .ok (.bl true) st) :
    spD K mg call f 1 [.ref a] H (fun v _ => v = .bl true) fun _ _ _ => False := by
  refine ⟨[], [], [.scr ns], [], Reps.cons (scr_rep h) Reps.nil, rfl, empty_rep t, ?_⟩
  rw [run]
  intro β' H' v _ _ r
  simpa only [Rep] using r
/-- what stands of the tables of the text's defs where the law is called -/
structure Tables (K : PySem.W.Frag) (mg : Str → Option Value) (h : Heap) (cs : List (Addr × Addr)) : Prop where
  bare : ∀ p ∈ cs, h.get? p.2 = some { cls := .none, data := .fields #[] }
  out : ∀ p ∈ cs, K.lookup p.2 = none
  code : ∀ p ∈ cs, PySem.W.CodeHd h p.1 p.2
  bm : ∃ (bm : Addr) (ob : Obj), mg "__builtins__" = some (.ref bm) ∧ bm ≠ builtinsNs ∧ h.get? bm = some ob ∧ ob.cls = .type "module" ∧ ob.dict = some builtinsNs ∧ ob.data = .plain
  all : ∀ p ∈ lamT K, ∃ q ∈ cs, q.2 = p.1
/-- the law's call, where T tells what is tracked ahead of it: the tables, and the script or nothing -/
theorem callT {P : Program} {w : World} {K : PySem.W.Frag} {mg mb : Str → Option Value} {k : Nat} {fa a : Addr} {call : Calls} {f : Str} {st : Sto} {s₁ : Shared} {vs : List Value} {ns : List Int} {cs : List (Addr × Addr)} {T : Hp}
    (kin : K.In s₁.heap) (glob : s₁.heap.Ns mainGlobals mg) (bi : s₁.heap.Ns builtinsNs mb) (boot : ∀ y : Str, y ≠ "__name__" → mb y = bootBuiltins y) (nol : s₁.heap.NoLimit) (idle : s₁.gens = #[]) (tb : Tables K mg s₁.heap cs)
    (scr : s₁.heap.get? a = some { cls := .type "list", data := .seq vs.toArray }) (room : Room k callerA)
    (fn : ∀ base : Heap, K.In base → base.Ns mainGlobals mg → (∀ p ∈ cs, LamX.TabB base mg p.1 p.2) → FnC P w K mg base k call f) (hfa : mg f = some (.ref fa)) (run : call f [.scr ns] [] = .ok (.bl true) st)
    (seen : SqL K T a (ns.map V.int)) (tok : HOk P w T s₁.heap) (tabs : ∀ p ∈ cs, T p.2 = some (.tbl #[]))
    (one : ∀ b, T b = none ∨ (b = a ∧ K.lookup a = none ∧ ∃ o xs, T b = some (.frz o (.lst xs))) ∨ ∃ p ∈ cs, b = p.2) :
    codeAny (model P w) callerA (.call (.ref fa) ⟨[.ref a], []⟩) (Kept s₁) s₁ := by
  have loose : ∀ {b : Addr} {o : Obj}, s₁.heap.get? b = some o → (∀ us n, o.data ≠ .seq us n) → o.data ≠ .fields #[] → T b = none := by
    intro b o e n1 n2
    rcases one b with z | ⟨rfl, _⟩ | ⟨p, hp, rfl⟩
    · exact z
    · rw [scr] at e; cases e; exact absurd rfl (n1 _ _)
    · rw [tb.bare p hp] at e; cases e; exact absurd rfl n2
  have keep : ∀ {b : Addr} {o : Obj}, s₁.heap.get? b = some o → (∀ us n, o.data ≠ .seq us n) → o.data ≠ .fields #[] → (hidT s₁.heap T).get? b = some o := fun e n1 n2 => hidT_get e (loose e n1 n2)
  have space : ∀ {b : Addr} {m : Str → Option Value}, s₁.heap.Ns b m → (hidT s₁.heap T).Ns b m := by
    rintro b m ⟨o, es, ep, e, dat, rest⟩
    exact ⟨o, es, ep, keep e (fun us n z => by rw [dat] at z; cases z) (fun z => by rw [dat] at z; cases z), dat, rest⟩
  have kinB : K.In (hidT s₁.heap T) := by
    intro b o e
    rcases one b with z | ⟨rfl, z, _⟩ | ⟨p, hp, rfl⟩
    · exact hidT_get (kin b o e) z
    · rw [e] at z; cases z
    · rw [tb.out p hp] at e; cases e
  have nolB : (hidT s₁.heap T).NoLimit := by
    obtain ⟨mc, q1, q2⟩ := nol
    exact ⟨mc, space q1, q2⟩
  have tabB : ∀ p ∈ cs, LamX.TabB (hidT s₁.heap T) mg p.1 p.2 := by
    intro p hp
    constructor
    · obtain ⟨o, us, fl, tf, fg, tg, nf, tx, tt, e1, c1, c2, c3, rest⟩ := tb.code p hp
      refine ⟨o, us, fl, tf, fg, tg, nf, tx, tt, keep e1 (fun vs n z => ?_) (fun z => ?_), c1, c2, c3, rest⟩
      · rw [c2] at z; cases z
      · rw [c2] at z; cases z; simp at c3
    · obtain ⟨bm, ob, b1, b2, b3, b4, b5, b6⟩ := tb.bm
      refine ⟨bm, ob, b1, b2, fun q => ?_, fun q => ?_, keep b3 (fun vs n z => by rw [b6] at z; cases z) (fun z => by rw [b6] at z; cases z), b4, b5, b6⟩
      · obtain ⟨o, es, ep, e, dat, _⟩ := glob
        rw [q, e] at b3; cases b3
        rw [dat] at b6; cases b6
      · rw [q, tb.bare p hp] at b3; cases b3; cases b6
    · intro z
      obtain ⟨o, es, ep, e, dat, _⟩ := glob
      rw [z, tb.bare p hp] at e; cases e
      cases dat
  have e0 : Env0 P w K mg (hidT s₁.heap T) callerA [] s₁ T := by
    refine ⟨rfl, ⟨kinB, space glob, ⟨mb, space bi, boot⟩, nolB⟩, fun b o e => of_hidT e, ?_, trivial, fun b z => ?_, tok, .of_eq idle⟩
    · rw [hidT_size]; exact Nat.le_refl _
    · cases (show b ∈ ([] : List Addr) from z)
  obtain ⟨fb, fd, ps, hfb, _, F, bd, ar⟩ := fn _ kinB (space glob) tabB
  rw [hfa] at hfb
  cases hfb
  have lp : ps.length = 1 := (ar [.scr ns] [] (by rw [run]; intro z; cases z)).symm
  have bound := bd s₁ [.ref a] kin (by rw [lp]; rfl)
  rw [List.append_nil] at bound
  have laid : LamX.Tabs (lamT K) T := fun p hp => by
    obtain ⟨q, hq, e⟩ := tb.all p hp
    exact LamX.TabS.nil (e ▸ tabs q hq)
  have ran := F.run callerA [] s₁ T ⟨[.ref a], []⟩ [.ref a] [.ref a] _ _ rfl room e0 bound (.cons rfl .nil) (by rw [lp]; exact law_said seen laid run)
  refine codeAny_mono ran ?_
  rintro r s' h
  match r, h with
  | .error e, h =>
    obtain ⟨_, _, _, _, _, _, _, _, _, _, _, _, z⟩ := h
    exact z.elim
  | .ok .next, h => exact (h : False).elim
  | .ok .brk, h => exact (h : False).elim
  | .ok .cont, h => exact (h : False).elim
  | .ok (.ret u), h =>
    obtain ⟨v, H', os, bare, un, tok', rv, rfl⟩ := h
    cases (show u = Value.bool true from rv)
    have same : ∀ b o, (¬ ∃ p ∈ cs, b = p.2) → s₁.heap.get? b = some o → s'.heap.get? b = some o := by
      intro b o nb e
      rcases one b with z | ⟨_, _, ob, xs, z⟩ | z
      · exact un.keep b o e z (fun y => by cases (show b ∈ ([] : List Addr) from y)) (fun y => by cases y)
      · obtain ⟨e1, _⟩ := tok b _ z
        obtain ⟨e2, _⟩ := tok' b _ (un.frzs b ob _ z)
        rw [e1] at e; cases e
        exact e2
      · exact absurd z nb
    have grown : ∀ p ∈ cs, ∃ more : Array Value, s'.heap.get? p.2 = some { cls := .none, data := .fields more } := fun p hp =>
      let ⟨more, z⟩ := un.tbls p.2 #[] (tabs p hp)
      ⟨_, tok' p.2 _ z⟩
    refine ⟨rfl, ⟨fun b o e => ?_, fun b o e => ?_⟩, os, bare⟩
    · by_cases hb : ∃ p ∈ cs, b = p.2
      · obtain ⟨p, hp, rfl⟩ := hb
        obtain ⟨more, hm⟩ := grown p hp
        rw [tb.bare p hp] at e
        cases e
        exact Or.inr (Or.inl ⟨((tb.code p hp).tab (tb.bare p hp)).isCodeTable, rfl, #[], more, rfl, by rw [Array.empty_append]; exact hm⟩)
      · exact Or.inl (same b o hb e)
    · by_cases hb : ∃ p ∈ cs, b = p.2
      · obtain ⟨p, hp, rfl⟩ := hb
        obtain ⟨more, hm⟩ := grown p hp
        exact ⟨_, hm⟩
      · exact ⟨o, same b o hb e⟩
theorem ints_vals {vs : List Value} {ns : List Int} (h : IntsAre vs ns) : Vals (ns.map V.int) vs := vals_ints h
/-- the law's call: the script is one of the module's own lists, or it is tracked -/
theorem callG {P : Program} {w : World} {K : PySem.W.Frag} {mg mb : Str → Option Value} {k : Nat} {fa a : Addr} {call : Calls} {f : Str} {st : Sto} {s₁ : Shared} {vs : List Value} {ns : List Int} {cs : List (Addr × Addr)}
    (kin : K.In s₁.heap) (glob : s₁.heap.Ns mainGlobals mg) (bi : s₁.heap.Ns builtinsNs mb) (boot : ∀ y : Str, y ≠ "__name__" → mb y = bootBuiltins y) (nol : s₁.heap.NoLimit) (idle : s₁.gens = #[]) (tb : Tables K mg s₁.heap cs)
    (scr : s₁.heap.get? a = some { cls := .type "list", data := .seq vs.toArray }) (are : IntsAre vs ns) (small : ns.length ≤ sizeLine) (room : Room k callerA)
    (fn : ∀ base : Heap, K.In base → base.Ns mainGlobals mg → (∀ p ∈ cs, LamX.TabB base mg p.1 p.2) → FnC P w K mg base k call f) (hfa : mg f = some (.ref fa)) (run : call f [.scr ns] [] = .ok (.bl true) st) : codeAny (model P w) callerA (.call (.ref fa) ⟨[.ref a], []⟩) (Kept s₁) s₁ := by
  have iv := ints_vals are
  have away : ∀ p ∈ cs, p.2 ≠ a := fun p hp z => by
    have e := tb.bare p hp
    rw [z, scr] at e
    cases e
  have memT : ∀ b, b ∈ cs.map (·.2) ↔ ∃ p ∈ cs, b = p.2 := fun b => by
    rw [List.mem_map]
    exact ⟨fun ⟨p, h1, h2⟩ => ⟨p, h1, h2.symm⟩, fun ⟨p, h1, h2⟩ => ⟨p, h1, h2.symm⟩⟩
  by_cases own : K.lookup a = none
  · generalize hT : (fun b : Addr => if b = a then some (HO.frz { cls := .type "list", data := .seq vs.toArray } (.lst (ns.map V.int))) else if b ∈ cs.map (·.2) then some (HO.tbl #[]) else none) = T
    have at_ : T a = some (.frz { cls := .type "list", data := .seq vs.toArray } (.lst (ns.map V.int))) := by rw [← hT]; exact if_pos rfl
    have tab : ∀ p ∈ cs, T p.2 = some (.tbl #[]) := fun p hp => by
      rw [← hT]
      exact (if_neg (away p hp)).trans (if_pos ((memT _).mpr ⟨p, hp, rfl⟩))
    have off : ∀ b, b ≠ a → (¬ ∃ p ∈ cs, b = p.2) → T b = none := fun b ne nb => by
      rw [← hT]
      exact (if_neg ne).trans (if_neg fun z => nb ((memT b).mp z))
    refine callT kin glob bi boot nol idle tb scr room fn hfa run (.inl (.inr ⟨_, at_⟩)) ?_ tab ?_
    · intro b u z
      by_cases e : b = a
      · subst e
        rw [at_] at z; cases z
        exact ⟨scr, by simpa using small, vs, _, iv, scr⟩
      · by_cases e2 : ∃ p ∈ cs, b = p.2
        · obtain ⟨p, hp, rfl⟩ := e2
          rw [tab p hp] at z; cases z
          exact tb.bare p hp
        · rw [off b e e2] at z; cases z
    · intro b
      by_cases e : b = a
      · subst e; exact .inr (.inl ⟨rfl, own, _, _, at_⟩)
      · by_cases e2 : ∃ p ∈ cs, b = p.2
        · exact .inr (.inr e2)
        · exact .inl (off b e e2)
  · obtain ⟨o, ho⟩ := Option.ne_none_iff_exists'.mp own
    have e := kin a o ho
    rw [scr] at e; cases e
    generalize hT : (fun b : Addr => if b ∈ cs.map (·.2) then some (HO.tbl #[]) else none) = T
    have tab : ∀ p ∈ cs, T p.2 = some (.tbl #[]) := fun p hp => by
      rw [← hT]
      exact if_pos ((memT _).mpr ⟨p, hp, rfl⟩)
    have off : ∀ b, (¬ ∃ p ∈ cs, b = p.2) → T b = none := fun b nb => by
      rw [← hT]
      exact if_neg fun z => nb ((memT b).mp z)
    refine callT kin glob bi boot nol idle tb scr room fn hfa run (.inr ⟨_, vs.toArray, _, ho, rfl, rfl, rfl, ?_, by simpa using iv⟩) (fun b u z => ?_) tab fun b => ?_
    · rw [List.size_toArray, are.length]; exact small
    · by_cases e2 : ∃ p ∈ cs, b = p.2
      · obtain ⟨p, hp, rfl⟩ := e2
        rw [tab p hp] at z; cases z
        exact tb.bare p hp
      · rw [off b e2] at z; cases z
    · by_cases e2 : ∃ p ∈ cs, b = p.2
      · exact .inr (.inr e2)
      · exact .inl (off b e2)
/-- the same without the module that holds the built-ins -/
structure TabF (K : PySem.W.Frag) (h : Heap) (cs : List (Addr × Addr)) : Prop where
  bare : ∀ p ∈ cs, h.get? p.2 = some { cls := .none, data := .fields #[] }
  out : ∀ p ∈ cs, K.lookup p.2 = none
  code : ∀ p ∈ cs, PySem.W.CodeHd h p.1 p.2
  all : ∀ p ∈ lamT K, ∃ q ∈ cs, q.2 = p.1
/-- every def's table is among those of the defs that are named -/
def allTabs (tf : List He.Defn) (K : PySem.W.Frag) : Bool := (lamT K).all fun p => tf.any fun q => (He.cT K q).2 == p.1
theorem tabF_of {fa : List He.Fa} {fn : List He.DefD} {ts : List He.Tab} {tf : List He.Defn} {ex : PySem.W.Frag → Bool} {w : World} {h : Heap} {K : PySem.W.Frag} (X : K.In h) (c : He.SaysX fa fn ts tf ex w h K) (ha : allTabs tf K = true) : TabF K h (tf.map (He.cT K)) where
  bare := fun p hp => by
    obtain ⟨q, hq, rfl⟩ := List.mem_map.mp hp
    exact c.empty q hq
  out := fun p hp => by
    obtain ⟨q, hq, rfl⟩ := List.mem_map.mp hp
    exact c.out q hq
  code := fun p hp => by
    obtain ⟨q, hq, rfl⟩ := List.mem_map.mp hp
    exact PySem.W.codeHd_of_K X (c.hd q hq)
  all := fun p hp => by
    obtain ⟨q, hq, e⟩ := List.any_eq_true.mp (List.all_eq_true.mp ha p hp)
    exact ⟨_, List.mem_map_of_mem hq, by simpa using e⟩
/-- the goal that the head leaves -/
theorem walk {l : PySem.W.OpenLaw} {n m : Nat} {q : Program} {loose : List Str} {XP : (Str → Option Value) → Heap → Prop} {YP : World → Heap → Prop} {d : DefRec} {Γ : Txt} {cs : List (Str × Int)} {xs : Xs} {fs : List Str}
    (hn : l.most = some n) (hn2 : n ≤ sizeLine) (hdf : d.params.defaults = []) (room : Room (3 * m + 1) callerA) (hl : d.name ∈ fs)
    (F : ∀ (w : World) (mg : Str → Option Value) (h : Heap), YP w h → h.Ns mainGlobals mg → ∃ (K : PySem.W.Frag) (ts : List (Addr × Addr)), K.In h ∧ TabF K h ts ∧ ModOk K mg cs ∧ ClsOk K mg (MP.run Γ 0) ∧ lamsB fs K = true ∧ (∀ f ∈ fs, He.cT K (f, none) ∈ ts) ∧ (∀ f ∈ fs, Row K mg Γ cs xs fs f) ∧
      ∀ X : Cx, X.prog = l.prog → X.w = w → X.K = K → X.mg = mg → Room 1 X.A → ∀ x ∈ xs, RaiseOk X x)
    (hΓ : ∀ x d, Γ x = some d → x ∈ fs) (run : ∀ ns : List Int, ns.length ≤ n → (∀ k ∈ ns, Builtin.Int.intBits k ≤ 1048576) → ∃ st, MP.run Γ m d.name [.scr ns] [] = .ok (.bl true) st) :
    PySem.W.WalkO q loose XP YP l.row.toRowW d [] (fun f vs => PySem.call f vs) := by
  refine Att.attach_callB hn hdf fun w s₀ s₁ mg mb fa o pm cd doc a vs ns G Y ho hd hcd hmg hobj hints hlen bits hg => ?_
  obtain ⟨K, ts, kin, tb, M, hc, hl2, hts, rows, rai⟩ := F w mg _ Y G.T.g
  obtain ⟨st, hr⟩ := run ns hlen bits
  exact callG kin G.T.g G.T.b G.T.builtins G.T.nolimit hg ⟨tb.bare, tb.out, tb.code, G.T.bmain, tb.all⟩ hobj hints (Nat.le_trans hlen hn2) room (fun base _ _ z => (sound M (fun X h1 h2 h3 h4 _ => rai X h1 h2 h3 h4) hc hΓ hl2 (fun f hf => z _ (hts f hf)) rows m d.name hl).1) hmg hr
end MP

set_option autoImplicit false
set_option Elab.async false
set_option linter.all false
set_option maxRecDepth 100000
set_option maxHeartbeats 4000000
/-! Own exception classes: made with one value that they keep in a field, whatever built-in class they are derived from; raised. -/
namespace MP
open PySem PySem.Spec PyProof.Rows L2
open PySem.Builtin.ObjectAttr (storeInDict)
open PySem.W (Frag findIn typeIn keepIn subIn hasDictIn takerIn excInitIn excOver clsIn codeIn fnOf)
def initArgs (f : Str) (p1 p2 : Pos) : Arguments := { posonlyargs := [], args := [⟨"self", none, p1⟩, ⟨f, none, p2⟩], vararg := none, kwonlyargs := [], kw_defaults := [], kwarg := none, defaults := [] }
def initBody (f : Str) (q1 q2 q3 q4 : Pos) : List Stmt := [.Assign [.Attribute (.Name "self" q1) f q2] (.Name f q3) q4]
def initScope (f : Str) : Scope := { kind := .function, names := [("self", .local), (f, .local)], isGenerator := false, isCoroutine := false, more := [] }
/-- what the written part says of the class x at C, derived from the built-in class B, and of its __init__ at fI -/
structure OwnTxt (K : Frag) (mg : Str → Option Value) (x f : Str) (C fI : Addr) (newId : String) (bmB : List Value) : Prop where
  gC : mg x = some (.ref C)
  q : excInitIn K C bmB newId = true
  ov : excOver K C bmB = true
  hd : hasDictIn K C = true
  sa : findIn K (.ref C) "__setattr__" = some (some (.builtin "object.__setattr__"))
  tk : takerIn K C f = some none
  iC : findIn K (.ref C) "__init__" = some (some (.ref fI))
  tC : typeIn K (.ref fI) = some (.type "function")
  kC : keepIn K (.ref C) = true
  exC : subIn K (.ref C) (.type "BaseException") = some true
  tyC : typeIn K (.ref C) = some (.type "type")
  fn : ∃ (qual : Str) (p1 p2 q1 q2 q3 q4 : Pos) (fd : FuncData), FunD K "__init__" qual (initArgs f p1 p2) (initBody f q1 q2 q3 q4) (initScope f) [] [] fI fd
/-- how the arguments of such an __init__ are bound -/
def BindInit (f : Str) : Prop := ∀ (qual : Str) (p1 p2 q1 q2 q3 q4 : Pos) (kV doc pm : Value) (an : Option Addr) (cdv ct u v : Value),
  bindArgs (fnOf "__init__" qual (initArgs f p1 p2) (initBody f q1 q2 q3 q4) (initScope f) .none kV doc pm an cdv ct) ⟨[u, v], []⟩ = pure [(("self" : Str), u), (f, v)]
theorem bind_value : BindInit "value" := fun _ _ _ _ _ _ _ _ _ _ _ _ _ _ _ => rfl
/-- what __init__ leaves of a fresh exception -/
structure Filled (h h' : Heap) (a C t : Addr) (f : Str) (v : Value) (d : Addr) : Prop where
  keep : ∀ b o, b ≠ a → h.get? b = some o → h'.get? b = some o
  obj : h'.get? a = some (PySem.W.excObj C t (some d) .none)
  big : h.objs.size ≤ d
  dne : d ≠ a
  ns : h'.Ns1 d (fun y => if y = f then some v else none)
theorem name_here {M : Model} {s : Shared} {A : Around} {E : Value → Shared → Prop} {env : PySem.Env} {m : Str → Option Value} {x : Str} {pos : Pos} {v : Value} {Q : Value → Shared → Prop} (hn : s.heap.Ns env.locals m) (hk : env.scope.kind = .function) (hl : env.kindOf x = some .local) (hv : m x = some v) (hd : (x == ("__debug__" : Str)) = false) (h : Q v s) :
    wpAny M A (eval (.Name x pos) env) Q E s := wpAny_Name (wpAny_loadName_local hk hl hn hv h) hd
section
variable {prog : Program} {w : World} {A : Around} {R : Result → Shared → Prop} {s : Shared} {K : Frag} {mg : Str → Option Value} {x f : Str} {C fI : Addr} {B newId initId : String} {bmB : List Value}
/-- the field's store -/
theorem fill (T : OwnTxt K mg x f C fI newId bmB) (SF : StoreFacts B bmB "object.__setattr__" "object") {a t : Addr} {v : Value} {tk : Tok} (X : K.In s.heap) (ha : s.heap.get? a = some (PySem.W.excObj C t none .none))
    (hq : ∀ h' tk' d, Filled s.heap h' a C t f v d → R (.ok (.ret .none)) { s with heap := h', toks := tk' }) : codeAny (model prog w) A (.call (.builtin "object.__setattr__") ⟨[.ref a, .str f tk, v], []⟩) R s := by
  obtain ⟨cd, hc, hd⟩ := PySem.W.any_some T.hd
  refine PySem.W.osa_openX (od := none) SF X ⟨ha, rfl, rfl, trivial⟩ T.ov T.tk fun b => ?_
  refine wpAny_bind (wpAny_pure (wpAny_bind (PySem.W.instanceDict_exc ha (PySem.W.looks_clsIn X hc) hd ?_)))
  have hxs : a ≠ s.heap.objs.size := Nat.ne_of_lt (Heap.lt_size ha)
  show wpAny _ _ (storeInDict s.heap.objs.size (.str f tk) f v) _ _ _
  obtain ⟨hp, g, dr, tk0, os⟩ := s
  refine HandSPX.store_in_new ?_ ?_
  · exact ⟨_, #[], _, (Heap.get?_update_ne _ _ _ _ hxs.symm).trans (Heap.get?_push_at rfl rfl), rfl, fun e he => absurd he (by simp), fun _ => rfl⟩
  · intro h' tk' hn' hs
    have ha1 : (hp.push (PySem.W.dictOf [] 0)).get? a = some (PySem.W.excObj C t none .none) := Heap.get?_push_of_some _ ha
    refine hq h' tk' hp.objs.size ⟨fun b o hb ho => ?_, ?_, Nat.le_refl _, hxs.symm, hn'⟩
    · exact (hs.2 b (Nat.ne_of_lt (Heap.lt_size ho))).trans ((Heap.get?_update_ne _ _ _ _ hb).trans (Heap.get?_push_of_some _ ho))
    · exact (hs.2 a hxs).trans (Heap.get?_update_self _ ha1 rfl)
/-- __init__ of a fresh exception -/
theorem init_call (T : OwnTxt K mg x f C fI newId bmB) (SF : StoreFacts B bmB "object.__setattr__" "object") (ne : ("self" : Str) ≠ f) (dbg : (f == ("__debug__" : Str)) = false) (bi : BindInit f) {a t : Addr} {v : Value} (X : K.In s.heap) (nol : s.heap.NoLimit) (ha : s.heap.get? a = some (PySem.W.excObj C t none .none)) (room : A.depth < recursionLimit)
    (hq : ∀ h' tk' d, Filled s.heap h' a C t f v d → R (.ok (.ret .none)) { s with heap := h', toks := tk' }) : codeAny (model prog w) A (.call (.ref fI) ⟨[.ref a, v], []⟩) R s := by
  obtain ⟨qual, p1, p2, q1, q2, q3, q4, fd, F⟩ := T.fn
  obtain ⟨oc, od, dV, kV, doc, pm, an, cdv, ct, osl, rfl, at_f, hcd, hD, _⟩ := F.ex
  have eD : dV = .none := by
    rcases hD with ⟨_, h⟩ | ⟨h, _⟩
    · exact h
    · exact absurd rfl h
  subst eD
  have nf : (f == ("self" : Str)) = false := by simpa using Ne.symm ne
  have lf : (initScope f).names.lookup f = some .local := by simp [initScope, List.lookup_cons, nf]
  refine Att.call_fn (binds := [("self", .ref a), (f, v)]) X nol at_f hcd room (BindsTo.of_eq ?_) ?_ (fun s₁ IC => ?_) rfl rfl rfl
  · exact bi _ _ _ _ _ _ _ _ _ _ _ _ _ _ _
  · simp [initScope, List.lookup_cons, nf]
  obtain ⟨h₁, tk₁, rfl⟩ := IC.toInCall.same
  have k : ∀ b o, s.heap.get? b = some o → h₁.get? b = some o := IC.toInCall.keep
  have hn := IC.toInCall.ns
  have X₁ : K.In h₁ := X.keeps k
  have ha₁ := k _ _ ha
  have kf : (envOfC qual (initScope f) s.heap.objs.size fI cdv).kindOf f = some .local := lf
  have ks : (envOfC qual (initScope f) s.heap.objs.size fI cdv).kindOf "self" = some .local := rfl
  have mf : bindL (envOfC qual (initScope f) s.heap.objs.size fI cdv).kindOf [("self", .ref a), (f, v)] (fun _ => none) f = some v := by
    simp only [bindL, ks, kf]
    simp
  have ms : bindL (envOfC qual (initScope f) s.heap.objs.size fI cdv).kindOf [("self", .ref a), (f, v)] (fun _ => none) "self" = some (.ref a) := by
    simp only [bindL, ks, kf]
    simp [ne]
  show wpAny _ _ (execs _ _) _ _ _
  refine wpAny_execs_cons (plainObj_wpAny_Assign_Attribute ?_)
  refine name_here hn rfl kf mf dbg (name_here hn rfl ks ms (by decide) ?_)
  refine PySem.W.set_plain X₁ (ox := PySem.W.excObj C t none .none) (od := none) ⟨ha₁, rfl, rfl, trivial⟩ T.sa ?_
  refine fill T SF X₁ ha₁ fun h₃ tk₃ d L => ?_
  show wpAny _ _ (execs _ _) _ _ _
  have z : s.heap.objs.size < h₁.objs.size := hn.lt
  exact wpAny_execs_nil (hq h₃ tk₃ d ⟨fun b o hb e => L.keep b o hb (k b o e), L.obj, Nat.le_of_lt (Nat.lt_of_lt_of_le z L.big), L.dne, L.ns⟩)
/-- a made exception -/
structure Made (h h' : Heap) (e C : Addr) (f : Str) (v : Value) (d : Addr) : Prop where
  keep : ∀ b o, h.get? b = some o → h'.get? b = some o
  new : h.objs.size ≤ e
  obj : ∃ oe vs, h'.get? e = some oe ∧ oe.cls = .ref C ∧ oe.dict = some d ∧ oe.data = .fields vs ∧ vs[1]? = some .none
  big : h.objs.size ≤ d
  dne : d ≠ e
  ns : h'.Ns1 d (fun y => if y = f then some v else none)
theorem one_line (v : Value) : [v].length ≤ sizeLine := by rw [sizeLine_eq]; simp
theorem make (T : OwnTxt K mg x f C fI newId bmB) (EB : ExcBaseFacts B newId initId bmB) (SF : StoreFacts B bmB "object.__setattr__" "object") (ne : ("self" : Str) ≠ f) (dbg : (f == ("__debug__" : Str)) = false) (bi : BindInit f) {v : Value} (X : K.In s.heap) (nol : s.heap.NoLimit) (room : A.depth + 1 < recursionLimit)
    (hq : ∀ h' tk' e d, Made s.heap h' e C f v d → R (.ok (.ret (.ref e))) { s with heap := h', toks := tk' }) : codeAny (model prog w) A (.call (.ref C) ⟨[v], []⟩) R s := by
  obtain ⟨nm, N', qn, bs, bm, hdct, sn, sub, ab, col, dd, k0, k1, k2, k3, k5, hC, hT⟩ := PySem.W.excInit_of X T.q
  obtain ⟨hp, g, dr, tk, os⟩ := s
  have k : ∀ b o, hp.get? b = some o → ((hp.push (PySem.W.kdv_tup [v])).push (HandSPX.excO C hp.objs.size)).get? b = some o := fun b o e => Heap.get?_push_of_some _ (Heap.get?_push_of_some _ e)
  have at_ : ((hp.push (PySem.W.kdv_tup [v])).push (HandSPX.excO C hp.objs.size)).get? (hp.objs.size + 1) = some (HandSPX.excO C hp.objs.size) := by heap_get
  refine HandSPX.call_own EB hT hC (PySem.W.looks_findIn X T.iC) (fun self => PySem.W.bind_fn X self T.tC) (one_line v) ?_
  refine init_call (s := ⟨(hp.push (PySem.W.kdv_tup [v])).push (HandSPX.excO C hp.objs.size), g, dr, tk, os⟩) T SF ne dbg bi (X.keeps k) (nol.keeps k) at_ room fun h' tk' d L => ?_
  have old : ∀ b o, hp.get? b = some o → h'.get? b = some o := fun b o e => L.keep b o (Nat.ne_of_lt (Nat.lt_succ_of_lt (Heap.lt_size e))) (k b o e)
  have z : ((hp.push (PySem.W.kdv_tup [v])).push (HandSPX.excO C hp.objs.size)).objs.size ≤ d := L.big
  rw [Heap.size_push, Heap.size_push] at z
  exact ⟨rfl, hq h' tk' (hp.objs.size + 1) d ⟨old, Nat.le_succ _, ⟨_, _, L.obj, rfl, rfl, rfl, rfl⟩, (by show hp.objs.size ≤ d; omega), L.dne, L.ns⟩⟩
end
theorem relO_one {v : V} {u : Value} {f : Str} (r : RelV v u) (y : Str) : RelO (List.lookup y [(f, v)]) (if y = f then some u else none) := by
  by_cases h : y = f
  · subst h
    have e : List.lookup y [(y, v)] = some v := by simp [List.lookup]
    rw [e, if_pos rfl]; exact r
  · have q : (y == f) = false := by simpa using h
    have e : List.lookup y [(f, v)] = none := by simp [List.lookup, q]
    rw [e, if_neg h]; trivial
/-- raise x(e) of such a class -/
theorem raise_own {X : Cx} {x f : Str} {C fI : Addr} {B newId initId : String} {bmB : List Value} (T : OwnTxt X.K X.mg x f C fI newId bmB) (EB : ExcBaseFacts B newId initId bmB) (SF : StoreFacts B bmB "object.__setattr__" "object") (ne : ("self" : Str) ≠ f) (dbg : (f == ("__debug__" : Str)) = false) (dbx : (x == ("__debug__" : Str)) = false) (bi : BindInit f)
    (room : Room 1 X.A) : RaiseOk X (x, some f) := by
  refine ⟨C, T.gC, fun {e p pos t} st he hg => ?_⟩
  intro pins s σ H Q I h
  refine wpAny_Call_Name_kw (ld_glob I hg T.gC ?_ dbx)
  refine PySem.W.callWith_K (h₀ := X.base) I.ok.mod.kin T.kC ?_ (star_cons st) rfl
  rw [star_cons st]
  show wpAny _ _ (spliced ((false, eval e X.env) :: backTo pos (starEach [] X.env))) _ _ s
  refine Calls.spliced_cons (thn (he.run pins s σ H _ I h) fun u s1 ⟨v, H1, I1, rv, q⟩ => Calls.spliced_nil ⟨I1.kIn, ?_⟩)
  show wpAny _ _ (call (.ref C) [u]) _ _ _
  have nol := I1.nolimit
  obtain ⟨hp, g, dr, tk, os⟩ := s1
  refine wpAny_call (make T EB SF ne dbg bi I1.kIn nol (by have := room.dp; omega) fun h' tk' a d M => ?_)
  show MkP X pins σ Q (.ref a) ⟨h', g, dr, tk', os⟩
  obtain ⟨oe, fv, hoe, hc, hd, hdat, h1⟩ := M.obj
  have hns := M.ns
  obtain ⟨G', g1, g2⟩ := restrict h' fun b => decide (b ≠ a)
  have gk : ∀ b, b ≠ a → G'.get? b = h'.get? b := fun b hb => g1 b (decide_eq_true hb)
  have ge : G'.get? a = none := g2 a (by simp)
  have old : ∀ b o, hp.get? b = some o → G'.get? b = some o := fun b o q => (gk b (Nat.ne_of_lt (Nat.lt_of_lt_of_le (Heap.lt_size q) M.new))).trans (M.keep b o q)
  have ob : ObjOk X.prog X.w (upd H1 d (.xd [(f, v)])) G' d (.xd [(f, v)]) := ⟨_, hns.at (fun o q => (gk d M.dne).trans q), fun y => relO_one rv y⟩
  have J : Inv X pins σ (upd H1 d (.xd [(f, v)])) ⟨G', g, dr, tk', os⟩ := I1.laid (t' := tk') old M.big ob
  refine ⟨a, oe, fv, ⟨G', g, dr, tk', os⟩, _, .ref C, some d, rfl, J, fun b o q => ?_, ge, hoe, ⟨hc, hd⟩, hdat, h1, ?_, rfl, I1.bare, raises_own T.exC T.tyC, q d (I1.hok.fresh M.big)⟩
  · by_cases hb : b = a
    · have q' : G'.get? b = some o := q
      rw [hb, ge] at q'; cases q'
    · exact (gk b hb).symm.trans q
  · rw [upd_ne (Ne.symm M.dne)]
    exact I1.hok.fresh M.new
/-- raise x(e) of a class without __init__ of its own -/
theorem raise_plain {X : Cx} {x : Str} {C : Addr} {B newId initId : String} {bmB : List Value} (EB : ExcBaseFacts B newId initId bmB) (q : PySem.W.excIn X.K C bmB newId = true) (gC : X.mg x = some (.ref C)) (kC : keepIn X.K (.ref C) = true)
    (exC : subIn X.K (.ref C) (.type "BaseException") = some true) (tyC : typeIn X.K (.ref C) = some (.type "type")) (dbx : (x == ("__debug__" : Str)) = false) : RaiseOk X (x, none) :=
  ⟨C, gC, fun {e p pos t} st he hg => SkE.pmk_own1 EB q gC kC (raises_own exC tyC) hg he (star_cons st) dbx⟩
/-- the facts of an own class as one check -/
def ownB (K : Frag) (x f : Str) (newId : String) (bmB : List Value) : Bool :=
  excInitIn K (He.ga K x) bmB newId && (excOver K (He.ga K x) bmB && (hasDictIn K (He.ga K x) && (decide (findIn K (.ref (He.ga K x)) "__setattr__" = some (some (.builtin "object.__setattr__"))) && (decide (takerIn K (He.ga K x) f = some none) &&
    (decide (findIn K (.ref (He.ga K x)) "__init__" = some (some (.ref (He.fAd K (x, some "__init__"))))) && (decide (typeIn K (.ref (He.fAd K (x, some "__init__"))) = some (.type "function")) && (keepIn K (.ref (He.ga K x)) &&
    (decide (subIn K (.ref (He.ga K x)) (.type "BaseException") = some true) && decide (typeIn K (.ref (He.ga K x)) = some (.type "type"))))))))))
theorem own_of {K : Frag} {mg : Str → Option Value} {x f qual : Str} {newId : String} {bmB : List Value} {p1 p2 q1 q2 q3 q4 : Pos} {fd : FuncData} (h : ownB K x f newId bmB = true) (gC : mg x = some (.ref (He.ga K x)))
    (F : FunD K "__init__" qual (initArgs f p1 p2) (initBody f q1 q2 q3 q4) (initScope f) [] [] (He.fAd K (x, some "__init__")) fd) : OwnTxt K mg x f (He.ga K x) (He.fAd K (x, some "__init__")) newId bmB := by
  unfold ownB at h
  simp only [Bool.and_eq_true, decide_eq_true_eq] at h
  obtain ⟨h1, h2, h3, h4, h5, h6, h7, h8, h9, h10⟩ := h
  exact ⟨gC, h1, h2, h3, h4, h5, h6, h7, h8, h9, h10, qual, p1, p2, q1, q2, q3, q4, fd, F⟩
end MP

set_option autoImplicit false
set_option Elab.async false
set_option linter.all false
set_option maxRecDepth 100000
set_option maxHeartbeats 4000000
/-! The classes of a text: one check, and what it says. -/
namespace MP
open PySem PySem.Spec PyProof.Rows L2
def excCB (K : PySem.W.Frag) (D : Addr) : Bool :=
  decide (PySem.W.findIn K (.ref D) "__getattribute__" = some (some (.builtin "BaseException.__getattribute__"))) && (decide (PySem.W.findIn K (.ref D) "__getattr__" = some none) && (decide (PySem.W.subIn K (.ref D) (.type "BaseException") = some true) && (PySem.W.hasDictIn K D &&
  (decide (PySem.W.findIn K (.ref D) "__class__" = some (some (.builtin "object.__class__"))) && (decide (PySem.W.specialIn K (.builtin "object.__class__") "__get__" = some (some (.builtin "getset_descriptor.__get__"))) && (decide (PySem.W.takesIn K (.builtin "object.__class__") = some true) && decide (PySem.W.mroIn K D (.type "object") = some true)))))))
theorem excCB_ok {K : PySem.W.Frag} {D : Addr} (h : excCB K D = true) : ExcC K D := by
  unfold excCB at h
  simp only [Bool.and_eq_true, decide_eq_true_eq] at h
  obtain ⟨h1, h2, h3, h4, h5, h6, h7, h8⟩ := h
  exact ⟨h1, h2, h3, h4, h5, h6, h7, h8⟩
/-- which class is under which; which fields are read -/
abbrev Isx := List ((Str × Str) × Bool)
def clsB (K : PySem.W.Frag) (it : Isx) (ft : List (Str × Str)) : Bool :=
  (it.all fun p => excCB K (He.ga K p.1.1) && (p.1.2 != ("__debug__" : Str) && (decide (PySem.W.exmOne K (.ref (He.ga K p.1.1)) (.ref (He.ga K p.1.2)) = some p.2) && decide (PySem.W.kitOne K (.ref (He.ga K p.1.1)) (.ref (He.ga K p.1.2)) = some p.2)))) &&
  ft.all fun p => xfB K (He.ga K p.1) && decide (PySem.W.findIn K (.ref (He.ga K p.1)) p.2 = some none)
theorem lookup_mem {α β : Type} [BEq α] [LawfulBEq α] {a : α} {b : β} : ∀ {l : List (α × β)}, l.lookup a = some b → (a, b) ∈ l
  | [], h => by simp at h
  | (x, y) :: r, h => by
    rw [List.lookup_cons] at h
    by_cases c : a == x
    · simp only [c] at h
      cases h
      rw [eq_of_beq c]; exact List.mem_cons_self
    · simp only [Bool.not_eq_true] at c
      simp only [c] at h
      exact List.mem_cons_of_mem _ (lookup_mem h)
theorem clsOk_of {K : PySem.W.Frag} {mg : Str → Option Value} {call : Calls} {it : Isx} {ft : List (Str × Str)} (h : clsB K it ft = true) (gl : ∀ p ∈ it, mg p.1.1 = some (.ref (He.ga K p.1.1)) ∧ mg p.1.2 = some (.ref (He.ga K p.1.2)))
    (hi : ∀ c c', call.isx c c' = it.lookup (c, c')) (hf : ∀ c f, call.fld c f = ft.contains (c, f)) : ClsOk K mg call := by
  unfold clsB at h
  simp only [Bool.and_eq_true, List.all_eq_true, decide_eq_true_eq, bne_iff_ne] at h
  obtain ⟨h1, h2⟩ := h
  refine ⟨fun c c' b e => ?_, fun c f e => ?_⟩
  · rw [hi] at e
    have m := lookup_mem e
    obtain ⟨q1, q2, q3, q4⟩ := h1 _ m
    obtain ⟨g1, g2⟩ := gl _ m
    exact ⟨g1, excCB_ok q1, by simpa using q2, .ref (He.ga K c'), .inl ⟨g2, rfl⟩, q3, q4⟩
  · rw [hf] at e
    have m : (c, f) ∈ ft := by simpa using e
    obtain ⟨q1, q2⟩ := h2 _ m
    exact ⟨xfB_ok q1, q2⟩
end MP

set_option autoImplicit false
set_option Elab.async false
set_option linter.all false
set_option maxRecDepth 100000
set_option maxHeartbeats 2000000
/-! Running the functional Python: what the parts give, as rules for simp. -/
namespace MP
open PySem PySem.Spec PyProof.Rows L2
/-- no cell names a cell that is not there -/
def Wf (h : Sto) : Prop := h.all (MO.below h.length) = true
section
variable {h : Sto} {x y : D}
@[simp] theorem deref_int (i : Int) : deref h (.int i) = .int i := rfl
@[simp] theorem deref_bl (b : Bool) : deref h (.bl b) = .bl b := rfl
@[simp] theorem deref_str (s : Str) : deref h (.str s) = .str s := rfl
@[simp] theorem deref_non : deref h .non = .non := rfl
@[simp] theorem deref_tup (xs : List D) : deref h (.tup xs) = .tup xs := rfl
@[simp] theorem deref_lst (xs : List D) : deref h (.lst xs) = .lst xs := rfl
@[simp] theorem deref_scr (xs : List Int) : deref h (.scr xs) = .scr xs := rfl
@[simp] theorem deref_ty (s : String) : deref h (.ty s) = .ty s := rfl
theorem deref_ref {i : Nat} {xs : List D} (e : h[i]? = some (.lst xs)) : deref h (.ref i) = .lst xs := by simp [deref, e]
theorem leave_int {n : Nat} {i : Int} {h' : Sto} (hl : h'.length = n) (hb : Wf h') : leave n (.int i) h' = .ok (.int i) h' := by
  subst hl
  unfold Wf at hb
  simp only [leave, refsBelow, List.take_length, hb, Nat.le_refl, and_self, if_true]
theorem Wf.set {i : Nat} {o : MO} (w : Wf h) (ho : MO.below h.length o = true) : Wf (h.set i o) := by
  unfold Wf at w ⊢
  rw [List.all_eq_true] at w ⊢
  rw [List.length_set]
  intro x hx
  rcases List.mem_or_eq_of_mem_set hx with hx | rfl
  · exact w x hx
  · exact ho
end
section
variable {i j : Int}
@[simp] theorem binD_add : binD .Add (.int i) (.int j) = some (.int (i + j)) := rfl
@[simp] theorem binD_sub : binD .Sub (.int i) (.int j) = some (.int (i - j)) := rfl
theorem binD_mul (h : mulOk i j = true) : binD .Mult (.int i) (.int j) = some (.int (i * j)) := if_pos h
theorem binD_mod (h : j ≠ 0) : binD .Mod (.int i) (.int j) = some (.int (i.fmod j)) := if_pos h
theorem binD_div (h : j ≠ 0) (h2 : j.natAbs < 1073741824) : binD .FloorDiv (.int i) (.int j) = some (.int (i.fdiv j)) := if_pos ⟨h, h2⟩
theorem binD_pow (h : 0 ≤ j ∧ (Builtin.Int.intBits i : Int) * j ≤ 2 ^ 27) : binD .Pow (.int i) (.int j) = some (.int (i ^ j.toNat)) := if_pos h
@[simp] theorem cmpD_lt : cmpD .Lt (.int i) (.int j) = some (decide (i < j)) := rfl
@[simp] theorem cmpD_le : cmpD .LtE (.int i) (.int j) = some (decide (i ≤ j)) := rfl
@[simp] theorem cmpD_gt : cmpD .Gt (.int i) (.int j) = some (decide (j < i)) := rfl
@[simp] theorem cmpD_ge : cmpD .GtE (.int i) (.int j) = some (decide (j ≤ i)) := rfl
@[simp] theorem idxD_lst (xs : List D) : idxD (.lst xs) (.int i) = atI xs i := rfl
@[simp] theorem idxD_tup (xs : List D) : idxD (.tup xs) (.int i) = atI xs i := rfl
@[simp] theorem idxD_scr (xs : List Int) : idxD (.scr xs) (.int i) = (atI xs i).map .int := rfl
@[simp] theorem put_name (k : Nat) (d : D) (ρ : Env) : put (.name k) d ρ = some (ρ.set k (some d)) := rfl
end
theorem evSs_nx {call : Calls} {s : S} {r : Ss} {nb : Nat} {ρ ρ' : Env} {h h' : Sto} (e : evS call s nb ρ h = .ok (.nx ρ') h') : evSs call (.cons s r) nb ρ h = evSs call r nb ρ' h' := by simp only [evSs, e]
theorem evSs_rt {call : Calls} {s : S} {r : Ss} {nb : Nat} {ρ : Env} {h h' : Sto} {d : D} (e : evS call s nb ρ h = .ok (.rt d) h') : evSs call (.cons s r) nb ρ h = .ok (.rt d) h' := by simp only [evSs, e]
theorem evS_set {call : Calls} {k : Nat} {e : C} {nb : Nat} {ρ : Env} {h h' : Sto} {d : D} (q : ev call e ρ h = .ok d h') : evS call (.set (.name k) e) nb ρ h = .ok (.nx (ρ.set k (some d))) h' := by simp only [evS, q, R.bindF_ok, put_name]
theorem evS_ite {call : Calls} {t : C} {a b : Ss} {nb : Nat} {ρ : Env} {h h' : Sto} {c : Bool} (q : tst call t ρ h = .ok c h') : evS call (.ite t a b) nb ρ h = if c then evSs call a nb ρ h' else evSs call b nb ρ h' := by simp only [evS, q, R.bindF_ok]
theorem evS_ret {call : Calls} {e : C} {nb : Nat} {ρ : Env} {h h' : Sto} {d : D} (q : ev call e ρ h = .ok d h') : evS call (.ret e) nb ρ h = .ok (.rt d) h' := by simp only [evS, q, R.bindF_ok]
theorem evS_sub {call : Calls} {o i e : C} {nb : Nat} {ρ : Env} {h h1 h2 h3 : Sto} {v : D} {k j : Nat} {n : Int} {xs : List D} (q : ev call e ρ h = .ok v h1) (q2 : ev call o ρ h1 = .ok (.ref k) h2) (q3 : ev call i ρ h2 = .ok (.int n) h3)
    (hk : h3[k]? = some (.lst xs)) (hj : ixN xs.length n = some j) : evS call (.sub o i e) nb ρ h = .ok (.nx ρ) (h3.set k (.lst (xs.set j v))) := by simp only [evS, q, R.bindF_ok, q2, q3, hk, hj]
theorem run_of {Γ : Txt} {f : Str} {d : Def} {n : Nat} {as : List D} {h : Sto} (e : Γ f = some d) (hl : as.length = d.m) (hm : d.m ≤ d.n) {h' : Sto} {x : D} {r : R D} (q : evSs (run Γ n) d.body h.length (startE d.n as) h = .ok (.rt x) h') (l : leave h.length x h' = r) : run Γ (n + 1) f as h = r := by
  show (match Γ f with
    | none => R.bad
    | some d => if as.length = d.m ∧ d.m ≤ d.n then endD h (evSs (run Γ n) d.body h.length (startE d.n as) h) else .bad) = r
  simp only [e]
  rw [if_pos ⟨hl, hm⟩, q]
  exact l
/-- a call that ends in an exception -/
theorem run_exc {Γ : Txt} {f : Str} {d : Def} {n : Nat} {as : List D} {h : Sto} (e : Γ f = some d) (hl : as.length = d.m) (hm : d.m ≤ d.n) {h' : Sto} {x : Ex} {ρ : Env} (q : evSs (run Γ n) d.body h.length (startE d.n as) h = .ok (.ex x ρ) h')
    (l : x.fs.all (fun p => refsBelow h.length p.2) = true ∧ (h'.take h.length).all (MO.below h.length) = true ∧ h.length ≤ h'.length) : run Γ (n + 1) f as h = .exc x (h'.take h.length) := by
  show (match Γ f with
    | none => R.bad
    | some d => if as.length = d.m ∧ d.m ≤ d.n then endD h (evSs (run Γ n) d.body h.length (startE d.n as) h) else .bad) = _
  simp only [e]
  rw [if_pos ⟨hl, hm⟩, q]
  exact if_pos l
@[simp] theorem run_noact {Γ : Txt} {n : Nat} : (run Γ n).noact = run Γ n := by cases n <;> rfl
/-! ### the draws -/
def drawOne (b c : Int) : Int := (b + 2654435761 * c).fmod 4294967279
def drawStir (b c : Int) : Int := (drawOne b c * drawOne b c).fmod 4294967231 * drawOne b c + 40503 * c
def drawTwo (b c : Int) : Int := (drawStir b c + b.fmod 65521).fmod 4294967197
def draw (a b c t : Int) : Int := if 0 < a then a.fmod t else (((drawTwo b (c + 1) * drawTwo b (c + 1)).fmod 4294967189).fdiv 256).fmod t
def drawn (a b c t : Int) : List D := if 0 < a then [.int (a.fdiv t), .int b, .int c] else [.int a, .int b, .int (c + 1)]
theorem fmod_small {x m : Int} (hm : 0 < m) (hm2 : m ≤ 2 ^ 64) (y : Int) : mulOk (x.fmod m) y = true := by
  have h1 := Int.fmod_nonneg_of_pos x hm
  have h2 := Int.fmod_lt_of_pos x hm
  simp only [mulOk, Bool.or_eq_true, Bool.and_eq_true, decide_eq_true_eq]
  left; omega
theorem con_small {x : Int} (h1 : -(2 ^ 64) < x) (h2 : x < 2 ^ 64) (y : Int) : mulOk x y = true := by
  simp only [mulOk, Bool.or_eq_true, Bool.and_eq_true, decide_eq_true_eq]
  left; omega
def c__law_draw : Def :=
  ⟨6, 2,
   (Ss.cons (S.ite (C.cmp .Gt (C.idx (C.var 0) (C.int 0)) (C.int 0)) (Ss.cons (S.set (G.name 5) (C.bin .Mod (C.idx (C.var 0) (C.int 0)) (C.var 1)))
    (Ss.cons (S.sub (C.var 0) (C.int 0) (C.bin .FloorDiv (C.idx (C.var 0) (C.int 0)) (C.var 1)))
    (Ss.cons (S.ret (C.var 5))
    Ss.nil))) Ss.nil)
    (Ss.cons (S.sub (C.var 0) (C.int 2) (C.bin .Add (C.idx (C.var 0) (C.int 2)) (C.int 1)))
    (Ss.cons (S.set (G.name 2) (C.bin .Mod (C.bin .Add (C.idx (C.var 0) (C.int 1)) (C.bin .Mult (C.int 2654435761) (C.idx (C.var 0) (C.int 2)))) (C.int 4294967279)))
    (Ss.cons (S.set (G.name 3) (C.bin .Add (C.bin .Mult (C.bin .Mod (C.bin .Mult (C.var 2) (C.var 2)) (C.int 4294967231)) (C.var 2)) (C.bin .Mult (C.int 40503) (C.idx (C.var 0) (C.int 2)))))
    (Ss.cons (S.set (G.name 4) (C.bin .Mod (C.bin .Add (C.var 3) (C.bin .Mod (C.idx (C.var 0) (C.int 1)) (C.int 65521))) (C.int 4294967197)))
    (Ss.cons (S.ret (C.bin .Mod (C.bin .FloorDiv (C.bin .Mod (C.bin .Mult (C.var 4) (C.var 4)) (C.int 4294967189)) (C.int 256)) (C.var 1)))
    Ss.nil))))))⟩
theorem allBelow_ints {n : Nat} : ∀ {xs : List D}, (∀ x ∈ xs, ∃ i, x = D.int i) → allBelow n xs = true
  | [], _ => rfl
  | x :: xs, hx => by
    obtain ⟨j, rfl⟩ := hx x List.mem_cons_self
    simp only [allBelow, refsBelow, Bool.true_and]
    exact allBelow_ints fun y hy => hx y (List.mem_cons_of_mem _ hy)
theorem at0 {x y z : D} : atI [x, y, z] 0 = some x := rfl
theorem at1 {x y z : D} : atI [x, y, z] 1 = some y := rfl
theorem at2 {x y z : D} : atI [x, y, z] 2 = some z := rfl
theorem run_draw {Γ : Txt} (hΓ : Γ "_law_draw" = some c__law_draw) (n : Nat) {h : Sto} {i : Nat} {a b c t : Int} (hi : h[i]? = some (.lst [.int a, .int b, .int c])) (w : Wf h) (t1 : 0 < t) (t2 : t < 1073741824) :
    run Γ (n + 1) "_law_draw" [.ref i, .int t] h = .ok (.int (draw a b c t)) (h.set i (.lst (drawn a b c t))) := by
  have hl : i < h.length := (List.getElem?_eq_some_iff.mp hi).1
  have e0 := deref_ref hi
  have t3 : t ≠ 0 := by omega
  have t4 : t.natAbs < 1073741824 := by omega
  have fin : ∀ xs, (∀ x ∈ xs, ∃ i, x = D.int i) → Wf (h.set i (.lst xs)) := fun xs hx => w.set (by simp only [MO.below]; exact allBelow_ints hx)
  by_cases ha : 0 < a
  · refine run_of hΓ rfl (by decide) (x := .int (a.fmod t)) (h' := h.set i (.lst [.int (a.fdiv t), .int b, .int c])) ?_ ?_
    · simp only [c__law_draw]
      refine (evSs_rt (d := .int (a.fmod t)) (h' := h.set i (.lst [.int (a.fdiv t), .int b, .int c])) ?_)
      refine (evS_ite (c := true) (h' := h) ?_).trans ?_
      · simp only [ev, tst, evs, evO, evI, R.bind_ok, R.of_some, R.of_none, deref_int, deref_bl, deref_str, deref_non, deref_tup, deref_lst, deref_scr, deref_ty, binD_add, binD_sub, cmpD_lt, cmpD_le, cmpD_gt, cmpD_ge, idxD_lst, idxD_tup, idxD_scr, put_name, List.getElem?_cons_zero, List.getElem?_cons_succ, List.set_cons_zero, List.set_cons_succ, List.map_cons, List.map_nil, Option.map_some, List.cons_append, List.nil_append, List.replicate, startE, List.length_cons, List.length_nil, Nat.sub_self, Nat.reduceSub, Nat.reduceAdd, e0, at0]; simp [ha]
      rw [if_pos rfl]
      refine (evSs_nx (evS_set (d := .int (a.fmod t)) (h' := h) ?_)).trans ?_
      · simp only [ev, tst, evs, evO, evI, R.bind_ok, R.of_some, R.of_none, deref_int, deref_bl, deref_str, deref_non, deref_tup, deref_lst, deref_scr, deref_ty, binD_add, binD_sub, cmpD_lt, cmpD_le, cmpD_gt, cmpD_ge, idxD_lst, idxD_tup, idxD_scr, put_name, List.getElem?_cons_zero, List.getElem?_cons_succ, List.set_cons_zero, List.set_cons_succ, List.map_cons, List.map_nil, Option.map_some, List.cons_append, List.nil_append, List.replicate, startE, List.length_cons, List.length_nil, Nat.sub_self, Nat.reduceSub, Nat.reduceAdd, e0, at0, binD_mod t3]
      refine (evSs_nx (evS_sub (v := .int (a.fdiv t)) (k := i) (n := 0) (j := 0) (h1 := h) (h2 := h) (h3 := h) ?_ ?_ ?_ hi rfl)).trans ?_
      · simp only [ev, tst, evs, evO, evI, R.bind_ok, R.of_some, R.of_none, deref_int, deref_bl, deref_str, deref_non, deref_tup, deref_lst, deref_scr, deref_ty, binD_add, binD_sub, cmpD_lt, cmpD_le, cmpD_gt, cmpD_ge, idxD_lst, idxD_tup, idxD_scr, put_name, List.getElem?_cons_zero, List.getElem?_cons_succ, List.set_cons_zero, List.set_cons_succ, List.map_cons, List.map_nil, Option.map_some, List.cons_append, List.nil_append, List.replicate, startE, List.length_cons, List.length_nil, Nat.sub_self, Nat.reduceSub, Nat.reduceAdd, e0, at0, binD_div t3 t4]
      · simp only [ev, tst, evs, evO, evI, R.bind_ok, R.of_some, R.of_none, deref_int, deref_bl, deref_str, deref_non, deref_tup, deref_lst, deref_scr, deref_ty, binD_add, binD_sub, cmpD_lt, cmpD_le, cmpD_gt, cmpD_ge, idxD_lst, idxD_tup, idxD_scr, put_name, List.getElem?_cons_zero, List.getElem?_cons_succ, List.set_cons_zero, List.set_cons_succ, List.map_cons, List.map_nil, Option.map_some, List.cons_append, List.nil_append, List.replicate, startE, List.length_cons, List.length_nil, Nat.sub_self, Nat.reduceSub, Nat.reduceAdd]
      · simp only [ev, tst, evs, evO, evI, R.bind_ok, R.of_some, R.of_none, deref_int, deref_bl, deref_str, deref_non, deref_tup, deref_lst, deref_scr, deref_ty, binD_add, binD_sub, cmpD_lt, cmpD_le, cmpD_gt, cmpD_ge, idxD_lst, idxD_tup, idxD_scr, put_name, List.getElem?_cons_zero, List.getElem?_cons_succ, List.set_cons_zero, List.set_cons_succ, List.map_cons, List.map_nil, Option.map_some, List.cons_append, List.nil_append, List.replicate, startE, List.length_cons, List.length_nil, Nat.sub_self, Nat.reduceSub, Nat.reduceAdd]
      refine evSs_rt (evS_ret ?_)
      simp only [ev, tst, evs, evO, evI, R.bind_ok, R.of_some, R.of_none, deref_int, deref_bl, deref_str, deref_non, deref_tup, deref_lst, deref_scr, deref_ty, binD_add, binD_sub, cmpD_lt, cmpD_le, cmpD_gt, cmpD_ge, idxD_lst, idxD_tup, idxD_scr, put_name, List.getElem?_cons_zero, List.getElem?_cons_succ, List.set_cons_zero, List.set_cons_succ, List.map_cons, List.map_nil, Option.map_some, List.cons_append, List.nil_append, List.replicate, startE, List.length_cons, List.length_nil, Nat.sub_self, Nat.reduceSub, Nat.reduceAdd]
    · rw [show draw a b c t = a.fmod t from if_pos ha, show drawn a b c t = [.int (a.fdiv t), .int b, .int c] from if_pos ha]
      exact leave_int (by simp) (fin _ (by simp))
  · have na : decide (0 < a) = false := by simpa using ha
    have e1 : deref (h.set i (.lst [.int a, .int b, .int (c + 1)])) (.ref i) = .lst [.int a, .int b, .int (c + 1)] := deref_ref (List.getElem?_set_self hl)
    generalize hg : h.set i (.lst [.int a, .int b, .int (c + 1)]) = g at e1
    have wg : Wf g := hg ▸ fin _ (by simp)
    have lg : g.length = h.length := by rw [← hg, List.length_set]
    refine run_of hΓ rfl (by decide) (x := .int (draw a b c t)) (h' := g) ?_ ?_
    · simp only [c__law_draw]
      refine (evSs_nx (ρ' := startE 6 [.ref i, .int t]) (h' := h) ((evS_ite (c := false) (h' := h) ?_).trans ?_)).trans ?_
      · simp only [ev, tst, evs, evO, evI, R.bind_ok, R.of_some, R.of_none, deref_int, deref_bl, deref_str, deref_non, deref_tup, deref_lst, deref_scr, deref_ty, binD_add, binD_sub, cmpD_lt, cmpD_le, cmpD_gt, cmpD_ge, idxD_lst, idxD_tup, idxD_scr, put_name, List.getElem?_cons_zero, List.getElem?_cons_succ, List.set_cons_zero, List.set_cons_succ, List.map_cons, List.map_nil, Option.map_some, List.cons_append, List.nil_append, List.replicate, startE, List.length_cons, List.length_nil, Nat.sub_self, Nat.reduceSub, Nat.reduceAdd, e0, at0, na]
      · rfl
      refine (evSs_nx (evS_sub (v := .int (c + 1)) (k := i) (n := 2) (j := 2) (h1 := h) (h2 := h) (h3 := h) ?_ ?_ ?_ hi rfl)).trans ?_
      · simp only [ev, tst, evs, evO, evI, R.bind_ok, R.of_some, R.of_none, deref_int, deref_bl, deref_str, deref_non, deref_tup, deref_lst, deref_scr, deref_ty, binD_add, binD_sub, cmpD_lt, cmpD_le, cmpD_gt, cmpD_ge, idxD_lst, idxD_tup, idxD_scr, put_name, List.getElem?_cons_zero, List.getElem?_cons_succ, List.set_cons_zero, List.set_cons_succ, List.map_cons, List.map_nil, Option.map_some, List.cons_append, List.nil_append, List.replicate, startE, List.length_cons, List.length_nil, Nat.sub_self, Nat.reduceSub, Nat.reduceAdd, e0, at2]
      · simp only [ev, tst, evs, evO, evI, R.bind_ok, R.of_some, R.of_none, deref_int, deref_bl, deref_str, deref_non, deref_tup, deref_lst, deref_scr, deref_ty, binD_add, binD_sub, cmpD_lt, cmpD_le, cmpD_gt, cmpD_ge, idxD_lst, idxD_tup, idxD_scr, put_name, List.getElem?_cons_zero, List.getElem?_cons_succ, List.set_cons_zero, List.set_cons_succ, List.map_cons, List.map_nil, Option.map_some, List.cons_append, List.nil_append, List.replicate, startE, List.length_cons, List.length_nil, Nat.sub_self, Nat.reduceSub, Nat.reduceAdd]
      · simp only [ev, tst, evs, evO, evI, R.bind_ok, R.of_some, R.of_none, deref_int, deref_bl, deref_str, deref_non, deref_tup, deref_lst, deref_scr, deref_ty, binD_add, binD_sub, cmpD_lt, cmpD_le, cmpD_gt, cmpD_ge, idxD_lst, idxD_tup, idxD_scr, put_name, List.getElem?_cons_zero, List.getElem?_cons_succ, List.set_cons_zero, List.set_cons_succ, List.map_cons, List.map_nil, Option.map_some, List.cons_append, List.nil_append, List.replicate, startE, List.length_cons, List.length_nil, Nat.sub_self, Nat.reduceSub, Nat.reduceAdd]
      show evSs _ _ _ _ (h.set i (.lst [.int a, .int b, .int (c + 1)])) = _
      rw [hg]
      refine (evSs_nx (evS_set (d := .int (drawOne b (c + 1))) (h' := g) ?_)).trans ?_
      · simp only [ev, tst, evs, evO, evI, R.bind_ok, R.of_some, R.of_none, deref_int, deref_bl, deref_str, deref_non, deref_tup, deref_lst, deref_scr, deref_ty, binD_add, binD_sub, cmpD_lt, cmpD_le, cmpD_gt, cmpD_ge, idxD_lst, idxD_tup, idxD_scr, put_name, List.getElem?_cons_zero, List.getElem?_cons_succ, List.set_cons_zero, List.set_cons_succ, List.map_cons, List.map_nil, Option.map_some, List.cons_append, List.nil_append, List.replicate, startE, List.length_cons, List.length_nil, Nat.sub_self, Nat.reduceSub, Nat.reduceAdd, e1, at1, at2, binD_mul (con_small (x := 2654435761) (by decide) (by decide) _), binD_mod (show (4294967279 : Int) ≠ 0 by decide), drawOne]
      refine (evSs_nx (evS_set (d := .int (drawStir b (c + 1))) (h' := g) ?_)).trans ?_
      · have m1 : ∀ y, mulOk (drawOne b (c + 1)) y = true := fmod_small (by decide) (by decide)
        simp only [ev, tst, evs, evO, evI, R.bind_ok, R.of_some, R.of_none, deref_int, deref_bl, deref_str, deref_non, deref_tup, deref_lst, deref_scr, deref_ty, binD_add, binD_sub, cmpD_lt, cmpD_le, cmpD_gt, cmpD_ge, idxD_lst, idxD_tup, idxD_scr, put_name, List.getElem?_cons_zero, List.getElem?_cons_succ, List.set_cons_zero, List.set_cons_succ, List.map_cons, List.map_nil, Option.map_some, List.cons_append, List.nil_append, List.replicate, startE, List.length_cons, List.length_nil, Nat.sub_self, Nat.reduceSub, Nat.reduceAdd, e1, at2, binD_mul (m1 _), binD_mul (fmod_small (x := drawOne b (c + 1) * drawOne b (c + 1)) (m := 4294967231) (by decide) (by decide) _), binD_mul (con_small (x := 40503) (by decide) (by decide) _), binD_mod (show (4294967231 : Int) ≠ 0 by decide), drawStir]
      refine (evSs_nx (evS_set (d := .int (drawTwo b (c + 1))) (h' := g) ?_)).trans ?_
      · simp only [ev, tst, evs, evO, evI, R.bind_ok, R.of_some, R.of_none, deref_int, deref_bl, deref_str, deref_non, deref_tup, deref_lst, deref_scr, deref_ty, binD_add, binD_sub, cmpD_lt, cmpD_le, cmpD_gt, cmpD_ge, idxD_lst, idxD_tup, idxD_scr, put_name, List.getElem?_cons_zero, List.getElem?_cons_succ, List.set_cons_zero, List.set_cons_succ, List.map_cons, List.map_nil, Option.map_some, List.cons_append, List.nil_append, List.replicate, startE, List.length_cons, List.length_nil, Nat.sub_self, Nat.reduceSub, Nat.reduceAdd, e1, at1, binD_mod (show (65521 : Int) ≠ 0 by decide), binD_mod (show (4294967197 : Int) ≠ 0 by decide), drawTwo]
      refine evSs_rt (evS_ret ?_)
      have m2 : ∀ y, mulOk (drawTwo b (c + 1)) y = true := fmod_small (by decide) (by decide)
      simp only [ev, tst, evs, evO, evI, R.bind_ok, R.of_some, R.of_none, deref_int, deref_bl, deref_str, deref_non, deref_tup, deref_lst, deref_scr, deref_ty, binD_add, binD_sub, cmpD_lt, cmpD_le, cmpD_gt, cmpD_ge, idxD_lst, idxD_tup, idxD_scr, put_name, List.getElem?_cons_zero, List.getElem?_cons_succ, List.set_cons_zero, List.set_cons_succ, List.map_cons, List.map_nil, Option.map_some, List.cons_append, List.nil_append, List.replicate, startE, List.length_cons, List.length_nil, Nat.sub_self, Nat.reduceSub, Nat.reduceAdd, binD_mul (m2 _), binD_mod (show (4294967189 : Int) ≠ 0 by decide), binD_div (show (256 : Int) ≠ 0 by decide) (by decide), binD_mod t3, draw, if_neg ha]
    · rw [show drawn a b c t = [.int a, .int b, .int (c + 1)] from if_neg ha, hg]
      exact leave_int lg wg
end MP

set_option autoImplicit false
set_option Elab.async false
set_option linter.all false
set_option maxRecDepth 100000
set_option maxHeartbeats 2000000
/-! Running the functional Python: built-ins, the streams, the picks. -/
namespace MP
open PySem PySem.Spec PyProof.Rows L2
section
variable {i j : Int} {xs : List D}
theorem bl_len_tup : bltD "len" [.tup xs] = some (.int xs.length) := rfl
theorem bl_len_lst : bltD "len" [.lst xs] = some (.int xs.length) := rfl
theorem bl_len_scr {ns : List Int} : bltD "len" [.scr ns] = some (.int ns.length) := rfl
theorem bl_abs : bltD "abs" [.int i] = some (.int (if i < 0 then -i else i)) := rfl
theorem bl_max : bltD "max" [.int i, .int j] = some (.int (if j > i then j else i)) := rfl
theorem bl_min : bltD "min" [.int i, .int j] = some (.int (if j < i then j else i)) := rfl
theorem bl_int : bltD "int" [.int i] = some (.int i) := rfl
theorem bl_int_bl {b : Bool} : bltD "int" [.bl b] = some (.int (if b then 1 else 0)) := rfl
theorem bl_list_tup : bltD "list" [.tup xs] = some (.lst xs) := rfl
theorem bl_list_lst : bltD "list" [.lst xs] = some (.lst xs) := rfl
theorem bl_tuple_tup : bltD "tuple" [.tup xs] = some (.tup xs) := rfl
theorem bl_tuple_lst : bltD "tuple" [.lst xs] = some (.tup xs) := rfl
end
theorem leave_new {h : Sto} {xs : List D} (w : Wf h) (hx : allBelow h.length xs = true) : leave h.length (.ref h.length) (h ++ [.lst xs]) = .ok (.ref h.length) (h ++ [.lst xs]) := by
  have e : (h ++ [MO.lst xs]).take (h.length + 1) = h ++ [.lst xs] := List.take_of_length_le (by simp)
  have b : (h ++ [MO.lst xs]).all (MO.below h.length) = true := by
    rw [List.all_append]
    unfold Wf at w
    rw [w]
    simp [MO.below, hx]
  simp only [leave, Nat.lt_irrefl, if_false, e, b]
  simp
/-! ### the streams -/
def cellOf (ns : List Int) (k : Nat) : Int := match ns[k]? with
  | some i => i
  | none => 5 * k + 3
def greatOf (i : Int) : Int := (if i < 0 then -i else i).fmod ((10 ^ 60) ^ 12)
def mixedOf (i : Int) (k : Nat) : Int := (greatOf i * 6364136223 + 1597334677 * k + 7 * (if decide (i < 0) = true then 1 else 0) + 11).fmod 4294967291
def firstOf (i : Int) : Int := if greatOf i - 10 ^ 18 + 1 > 0 then greatOf i - 10 ^ 18 + 1 else 0
def streamOf (ns : List Int) (k : Nat) : List D := [.int (firstOf (cellOf ns k)), .int (mixedOf (cellOf ns k) k), .int 0]
def c__law_stream : Def :=
  ⟨5, 2,
   (Ss.cons (S.set (G.name 2) (C.bin .Add (C.bin .Mult (C.int 5) (C.var 1)) (C.int 3)))
    (Ss.cons (S.ite (C.cmp .Lt (C.var 1) (C.blt "len" (Cs.cons (C.var 0) Cs.nil))) (Ss.cons (S.set (G.name 2) (C.idx (C.var 0) (C.var 1)))
    Ss.nil) Ss.nil)
    (Ss.cons (S.set (G.name 3) (C.bin .Mod (C.blt "abs" (Cs.cons (C.var 2) Cs.nil)) (C.bin .Pow (C.bin .Pow (C.int 10) (C.int 60)) (C.int 12))))
    (Ss.cons (S.set (G.name 4) (C.bin .Mod (C.bin .Add (C.bin .Add (C.bin .Add (C.bin .Mult (C.var 3) (C.int 6364136223)) (C.bin .Mult (C.int 1597334677) (C.var 1))) (C.bin .Mult (C.int 7) (C.blt "int" (Cs.cons (C.cmp .Lt (C.var 2) (C.int 0)) Cs.nil)))) (C.int 11)) (C.int 4294967291)))
    (Ss.cons (S.retM (C.lst (Cs.cons (C.blt "max" (Cs.cons (C.int 0) (Cs.cons (C.bin .Add (C.bin .Sub (C.var 3) (C.bin .Pow (C.int 10) (C.int 18))) (C.int 1)) Cs.nil))) (Cs.cons (C.var 4) (Cs.cons (C.int 0) Cs.nil)))))
    Ss.nil)))))⟩
def c__law_pick : Def :=
  ⟨2, 2,
   (Ss.cons (S.ret (C.idx (C.var 1) (C.call "_law_draw" (Cs.cons (C.var 0) (Cs.cons (C.blt "len" (Cs.cons (C.var 1) Cs.nil)) Cs.nil)))))
    Ss.nil)⟩
theorem mul_con {x y : Int} (h1 : -(2 ^ 64) < y) (h2 : y < 2 ^ 64) : mulOk x y = true := by
  simp only [mulOk, Bool.or_eq_true, Bool.and_eq_true, decide_eq_true_eq]
  right; omega
theorem run_stream {Γ : Txt} (hΓ : Γ "_law_stream" = some c__law_stream) (n : Nat) {h : Sto} {ns : List Int} {k : Nat} (w : Wf h) :
    run Γ (n + 1) "_law_stream" [.scr ns, .int k] h = .ok (.ref h.length) (h ++ [.lst (streamOf ns k)]) := by
  refine run_of hΓ rfl (by decide) (x := .ref h.length) (h' := h ++ [.lst (streamOf ns k)]) ?_ (leave_new w (allBelow_ints (by simp [streamOf])))
  simp only [c__law_stream]
  have start : startE 5 [.scr ns, .int k] = [some (.scr ns), some (.int k), none, none, none] := rfl
  rw [start]
  refine (evSs_nx (ρ' := [some (.scr ns), some (.int k), some (.int (5 * k + 3)), none, none]) (h' := h) (evS_set (d := .int (5 * k + 3)) ?_)).trans ?_
  · simp only [ev, tst, evs, evO, evI, R.bind_ok, R.of_some, R.of_none, deref_int, deref_bl, deref_str, deref_non, deref_tup, deref_lst, deref_scr, deref_ty, binD_add, binD_sub, cmpD_lt, cmpD_le, cmpD_gt, cmpD_ge, idxD_lst, idxD_tup, idxD_scr, put_name, List.getElem?_cons_zero, List.getElem?_cons_succ, List.set_cons_zero, List.set_cons_succ, List.map_cons, List.map_nil, Option.map_some, List.cons_append, List.nil_append, List.replicate, startE, List.length_cons, List.length_nil, Nat.sub_self, Nat.reduceSub, Nat.reduceAdd, binD_mul (con_small (x := 5) (by decide) (by decide) _)]
  have two : evS (run Γ n) (S.ite (C.cmp .Lt (C.var 1) (C.blt "len" (Cs.cons (C.var 0) Cs.nil))) (Ss.cons (S.set (G.name 2) (C.idx (C.var 0) (C.var 1))) Ss.nil) Ss.nil) h.length [some (.scr ns), some (.int k), some (.int (5 * k + 3)), none, none] h
      = .ok (.nx [some (.scr ns), some (.int k), some (.int (cellOf ns k)), none, none]) h := by
    refine (evS_ite (c := decide ((k : Int) < ns.length)) (h' := h) ?_).trans ?_
    · simp only [ev, tst, evs, evO, evI, R.bind_ok, R.of_some, R.of_none, deref_int, deref_bl, deref_str, deref_non, deref_tup, deref_lst, deref_scr, deref_ty, binD_add, binD_sub, cmpD_lt, cmpD_le, cmpD_gt, cmpD_ge, idxD_lst, idxD_tup, idxD_scr, put_name, List.getElem?_cons_zero, List.getElem?_cons_succ, List.set_cons_zero, List.set_cons_succ, List.map_cons, List.map_nil, Option.map_some, List.cons_append, List.nil_append, List.replicate, startE, List.length_cons, List.length_nil, Nat.sub_self, Nat.reduceSub, Nat.reduceAdd, bl_len_scr]
    by_cases c : k < ns.length
    · have e : ns[k]? = some ns[k] := by simp [c]
      have ea : atI ns (k : Int) = some (cellOf ns k) := by
        simp [atI, ixN, c, cellOf, e]
      rw [if_pos (by simpa using c)]
      refine (evSs_nx (evS_set (d := .int (cellOf ns k)) (h' := h) ?_)).trans rfl
      simp only [ev, tst, evs, evO, evI, R.bind_ok, R.of_some, R.of_none, deref_int, deref_bl, deref_str, deref_non, deref_tup, deref_lst, deref_scr, deref_ty, binD_add, binD_sub, cmpD_lt, cmpD_le, cmpD_gt, cmpD_ge, idxD_lst, idxD_tup, idxD_scr, put_name, List.getElem?_cons_zero, List.getElem?_cons_succ, List.set_cons_zero, List.set_cons_succ, List.map_cons, List.map_nil, Option.map_some, List.cons_append, List.nil_append, List.replicate, startE, List.length_cons, List.length_nil, Nat.sub_self, Nat.reduceSub, Nat.reduceAdd, ea]
    · have e : ns[k]? = none := by simp [Nat.le_of_not_lt c]
      rw [if_neg (by simpa using c)]
      simp [cellOf, e, evSs]
  refine (evSs_nx two).trans ?_
  generalize hc : cellOf ns k = i
  refine (evSs_nx (evS_set (d := .int (greatOf i)) (h' := h) ?_)).trans ?_
  · simp only [ev, tst, evs, evO, evI, R.bind_ok, R.of_some, R.of_none, deref_int, deref_bl, deref_str, deref_non, deref_tup, deref_lst, deref_scr, deref_ty, binD_add, binD_sub, cmpD_lt, cmpD_le, cmpD_gt, cmpD_ge, idxD_lst, idxD_tup, idxD_scr, put_name, List.getElem?_cons_zero, List.getElem?_cons_succ, List.set_cons_zero, List.set_cons_succ, List.map_cons, List.map_nil, Option.map_some, List.cons_append, List.nil_append, List.replicate, startE, List.length_cons, List.length_nil, Nat.sub_self, Nat.reduceSub, Nat.reduceAdd, bl_abs, binD_pow (i := 10) (j := 60) (by decide +kernel), binD_pow (i := 10 ^ (60 : Int).toNat) (j := 12) (by decide +kernel)]
    rw [binD_mod (by decide +kernel)]
    rfl
  refine (evSs_nx (evS_set (d := .int (mixedOf i k)) (h' := h) ?_)).trans ?_
  · simp only [ev, tst, evs, evO, evI, R.bind_ok, R.of_some, R.of_none, deref_int, deref_bl, deref_str, deref_non, deref_tup, deref_lst, deref_scr, deref_ty, binD_add, binD_sub, cmpD_lt, cmpD_le, cmpD_gt, cmpD_ge, idxD_lst, idxD_tup, idxD_scr, put_name, List.getElem?_cons_zero, List.getElem?_cons_succ, List.set_cons_zero, List.set_cons_succ, List.map_cons, List.map_nil, Option.map_some, List.cons_append, List.nil_append, List.replicate, startE, List.length_cons, List.length_nil, Nat.sub_self, Nat.reduceSub, Nat.reduceAdd, binD_mul (mul_con (y := 6364136223) (by decide) (by decide)), binD_mul (con_small (x := 1597334677) (by decide) (by decide) _), binD_mul (con_small (x := 7) (by decide) (by decide) _), bl_int_bl, binD_mod (show (4294967291 : Int) ≠ 0 by decide)]
    rfl
  refine evSs_rt ?_
  simp only [evS]
  simp only [ev, tst, evs, evO, evI, R.bind_ok, R.of_some, R.of_none, deref_int, deref_bl, deref_str, deref_non, deref_tup, deref_lst, deref_scr, deref_ty, binD_add, binD_sub, cmpD_lt, cmpD_le, cmpD_gt, cmpD_ge, idxD_lst, idxD_tup, idxD_scr, put_name, List.getElem?_cons_zero, List.getElem?_cons_succ, List.set_cons_zero, List.set_cons_succ, List.map_cons, List.map_nil, Option.map_some, List.cons_append, List.nil_append, List.replicate, startE, List.length_cons, List.length_nil, Nat.sub_self, Nat.reduceSub, Nat.reduceAdd, bl_max, binD_pow (i := 10) (j := 18) (by decide +kernel), R.bindF_ok]
  simp [streamOf, hc, firstOf, sizeLine_eq]
/-! ### the picks -/
theorem draw_range (a b c : Int) {t : Int} (ht : 0 < t) : 0 ≤ draw a b c t ∧ draw a b c t < t := by
  unfold draw
  split
  · exact ⟨Int.fmod_nonneg_of_pos _ ht, Int.fmod_lt_of_pos _ ht⟩
  · exact ⟨Int.fmod_nonneg_of_pos _ ht, Int.fmod_lt_of_pos _ ht⟩
def pick (a b c : Int) (xs : List D) : D := xs.getD (draw a b c xs.length).toNat .non
theorem pick_at (a b c : Int) {xs : List D} (hx : xs ≠ []) : atI xs (draw a b c xs.length) = some (pick a b c xs) := by
  have hl : 0 < xs.length := List.length_pos_iff.mpr hx
  obtain ⟨h1, h2⟩ := draw_range a b c (t := xs.length) (by omega)
  have h3 : (draw a b c xs.length).toNat < xs.length := by omega
  simp only [atI, ixN, if_pos h1, if_pos h2, Option.bind_some, pick]
  rw [List.getD_eq_getElem?_getD, List.getElem?_eq_getElem h3]
  rfl
theorem leave_old {n : Nat} {d : D} {h' : Sto} (hd : refsBelow n d = true) (hl : h'.length = n) (hb : Wf h') : leave n d h' = .ok d h' := by
  subst hl
  unfold Wf at hb
  cases d with
  | ref k =>
    simp only [refsBelow, decide_eq_true_eq] at hd
    simp only [leave, if_pos hd, List.take_length, hb, Nat.le_refl, and_self, if_true]
  | _ => simp only [leave, hd, List.take_length, hb, Nat.le_refl, and_self, if_true]
theorem below_get {n : Nat} : ∀ {xs : List D} {i : Nat} {d : D}, allBelow n xs = true → xs[i]? = some d → refsBelow n d = true
  | [], i, d, _, h => by simp at h
  | x :: xs, 0, d, b, h => by
    simp only [allBelow, Bool.and_eq_true] at b
    simp at h; subst h; exact b.1
  | x :: xs, i + 1, d, b, h => by
    simp only [allBelow, Bool.and_eq_true] at b
    exact below_get b.2 (by simpa using h)
theorem pick_below {n : Nat} (a b c : Int) {xs : List D} (hb : allBelow n xs = true) : refsBelow n (pick a b c xs) = true := by
  unfold pick
  rw [List.getD_eq_getElem?_getD]
  cases e : xs[(draw a b c xs.length).toNat]? with
  | none => rfl
  | some d => exact below_get hb e
theorem drawn_below {n : Nat} (a b c t : Int) : allBelow n (drawn a b c t) = true := allBelow_ints (by unfold drawn; split <;> simp)
theorem run_pick {Γ : Txt} (hΓ : Γ "_law_pick" = some c__law_pick) (hΔ : Γ "_law_draw" = some c__law_draw) (n : Nat) {h : Sto} {i : Nat} {a b c : Int} {xs : List D} {s : D} (hs : s = .lst xs ∨ s = .tup xs) (hi : h[i]? = some (.lst [.int a, .int b, .int c])) (w : Wf h) (hx : xs ≠ []) (hl : xs.length < 1073741824) (hb : allBelow h.length xs = true) :
    run Γ (n + 2) "_law_pick" [.ref i, s] h = .ok (pick a b c xs) (h.set i (.lst (drawn a b c xs.length))) := by
  have hp : 0 < xs.length := List.length_pos_iff.mpr hx
  have w' : Wf (h.set i (.lst (drawn a b c xs.length))) := w.set (by simp only [MO.below]; exact drawn_below ..)
  have e1 := run_draw hΔ n hi w (t := xs.length) (by omega) (by omega)
  have ep := pick_at a b c hx
  refine run_of hΓ rfl (by decide) (x := pick a b c xs) (h' := h.set i (.lst (drawn a b c xs.length))) ?_ (leave_old (pick_below _ _ _ hb) (by simp) w')
  simp only [c__law_pick]
  refine evSs_rt (evS_ret ?_)
  rcases hs with rfl | rfl
  · simp only [ev, tst, evs, evO, evI, R.bind_ok, R.of_some, R.of_none, deref_int, deref_bl, deref_str, deref_non, deref_tup, deref_lst, deref_scr, deref_ty, binD_add, binD_sub, cmpD_lt, cmpD_le, cmpD_gt, cmpD_ge, idxD_lst, idxD_tup, idxD_scr, put_name, List.getElem?_cons_zero, List.getElem?_cons_succ, List.set_cons_zero, List.set_cons_succ, List.map_cons, List.map_nil, Option.map_some, List.cons_append, List.nil_append, List.replicate, startE, List.length_cons, List.length_nil, Nat.sub_self, Nat.reduceSub, Nat.reduceAdd, bl_len_lst, e1, ep]
  · simp only [ev, tst, evs, evO, evI, R.bind_ok, R.of_some, R.of_none, deref_int, deref_bl, deref_str, deref_non, deref_tup, deref_lst, deref_scr, deref_ty, binD_add, binD_sub, cmpD_lt, cmpD_le, cmpD_gt, cmpD_ge, idxD_lst, idxD_tup, idxD_scr, put_name, List.getElem?_cons_zero, List.getElem?_cons_succ, List.set_cons_zero, List.set_cons_succ, List.map_cons, List.map_nil, Option.map_some, List.cons_append, List.nil_append, List.replicate, startE, List.length_cons, List.length_nil, Nat.sub_self, Nat.reduceSub, Nat.reduceAdd, bl_len_tup, e1, ep]
end MP

set_option autoImplicit false
set_option Elab.async false
set_option linter.all false
set_option maxRecDepth 100000
set_option maxHeartbeats 2000000
/-! Running the functional Python: what the streams deal. -/
namespace MP
open PySem PySem.Spec PyProof.Rows L2
/-- a stream's state -/
abbrev S3 := Int × Int × Int
def cell3 (s : S3) : List D := [.int s.1, .int s.2.1, .int s.2.2]
def drw (s : S3) (t : Int) : Int := draw s.1 s.2.1 s.2.2 t
def nxt (s : S3) (t : Int) : S3 := if 0 < s.1 then (s.1.fdiv t, s.2.1, s.2.2) else (s.1, s.2.1, s.2.2 + 1)
theorem drawn_nxt (s : S3) (t : Int) : drawn s.1 s.2.1 s.2.2 t = cell3 (nxt s t) := by
  unfold drawn nxt cell3
  split <;> rfl
theorem drw_range (s : S3) {t : Int} (ht : 0 < t) : 0 ≤ drw s t ∧ drw s t < t := draw_range _ _ _ ht
theorem run_drw {Γ : Txt} (hΓ : Γ "_law_draw" = some c__law_draw) (n : Nat) {h : Sto} {i : Nat} {s : S3} {t : Int} (hi : h[i]? = some (.lst (cell3 s))) (w : Wf h) (t1 : 0 < t) (t2 : t < 1073741824) :
    run Γ (n + 1) "_law_draw" [.ref i, .int t] h = .ok (.int (drw s t)) (h.set i (.lst (cell3 (nxt s t)))) := by
  rw [← drawn_nxt]; exact run_draw hΓ n hi w t1 t2
theorem cell3_below {n : Nat} (s : S3) : MO.below n (.lst (cell3 s)) = true := by simp only [MO.below]; exact allBelow_ints (by simp [cell3])
theorem Wf.put3 {h : Sto} (w : Wf h) (i : Nat) (s : S3) : Wf (h.set i (.lst (cell3 s))) := w.set (cell3_below s)
/-- a comprehension over a list, told turn by turn: f what a turn gives, g what it does to the state -/
def comR {α : Type} (f : α → D → Option D) (g : α → D → α) : α → List D → List D × α
  | a, [] => ([], a)
  | a, x :: xs => ((f a x).toList ++ (comR f g (g a x) xs).1, (comR f g (g a x) xs).2)
theorem comLoop_is {α : Type} {turn : D → Sto → R (Option D)} (sto : α → Sto) (f : α → D → Option D) (g : α → D → α) (P : α → List D → Prop) (hP : ∀ a x xs, P a (x :: xs) → turn x (sto a) = .ok (f a x) (sto (g a x)) ∧ P (g a x) xs) :
    ∀ (xs acc : List D) (a : α), P a xs → acc.length + xs.length ≤ sizeLine → comLoop turn xs acc (sto a) = .ok (.lst (acc ++ (comR f g a xs).1)) (sto (comR f g a xs).2)
  | [], acc, a, _, _ => by simp [comLoop, comR]
  | x :: xs, acc, a, p, l => by
    obtain ⟨e, p'⟩ := hP a x xs p
    simp only [List.length_cons] at l
    cases ef : f a x with
    | none =>
      simp only [comLoop, e, ef, comR, Option.toList_none, List.nil_append]
      exact comLoop_is sto f g P hP xs acc (g a x) p' (by omega)
    | some y =>
      simp only [comLoop, e, ef, comR, Option.toList_some]
      rw [if_pos (by omega), comLoop_is sto f g P hP xs (acc ++ [y]) (g a x) p' (by simp; omega)]
      simp
theorem comR_len {α : Type} {f : α → D → Option D} {g : α → D → α} : ∀ {xs : List D} {a : α}, (comR f g a xs).1.length ≤ xs.length
  | [], a => by simp [comR]
  | x :: xs, a => by
    have := comR_len (f := f) (g := g) (xs := xs) (a := g a x)
    simp only [comR, List.length_append, List.length_cons]
    cases f a x <;> simp <;> omega
/-! ### items in another order -/
def mixed : Nat → S3 → List D → List D × S3
  | 0, s, _ => ([], s)
  | n + 1, s, left => (left.getD (drw s left.length).toNat .non :: (mixed n (nxt s left.length) (left.eraseIdx (drw s left.length).toNat)).1, (mixed n (nxt s left.length) (left.eraseIdx (drw s left.length).toNat)).2)
theorem range_len (lo : Int) (n : Nat) : (range lo n).length = n := by simp [range]
def c__law_mixed : Def :=
  ⟨4, 2,
   (Ss.cons (S.setM 2 (C.blt "list" (Cs.cons (C.var 1) Cs.nil)))
    (Ss.cons (S.ret (C.com [("turn", 3)] (C.mth "pop" (C.var 2) (Cs.cons (C.call "_law_draw" (Cs.cons (C.var 0) (Cs.cons (C.blt "len" (Cs.cons (C.var 2) Cs.nil)) Cs.nil))) Cs.nil)) (G.name 3) (I.rng1 (C.blt "len" (Cs.cons (C.var 2) Cs.nil))) C'.no))
    Ss.nil))⟩

theorem eraseIdx_below {n : Nat} : ∀ {xs : List D} (i : Nat), allBelow n xs = true → allBelow n (xs.eraseIdx i) = true
  | [], i, _ => by simp [allBelow]
  | x :: xs, 0, b => by
    simp only [allBelow, Bool.and_eq_true] at b
    simpa using b.2
  | x :: xs, i + 1, b => by
    simp only [allBelow, Bool.and_eq_true] at b
    simp only [List.eraseIdx_cons_succ, allBelow, Bool.and_eq_true]
    exact ⟨b.1, eraseIdx_below i b.2⟩
theorem getD_below {n : Nat} {xs : List D} (i : Nat) (b : allBelow n xs = true) : refsBelow n (xs.getD i .non) = true := by
  rw [List.getD_eq_getElem?_getD]
  cases e : xs[i]? with
  | none => rfl
  | some d => exact below_get b e
theorem mixed_below {m : Nat} : ∀ (n : Nat) (s : S3) {xs : List D}, allBelow m xs = true → allBelow m (mixed n s xs).1 = true
  | 0, s, xs, _ => rfl
  | n + 1, s, xs, b => by
    simp only [mixed, allBelow, Bool.and_eq_true]
    exact ⟨getD_below _ b, mixed_below n _ (eraseIdx_below _ b)⟩
theorem mixed_len : ∀ (n : Nat) (s : S3) (xs : List D), (mixed n s xs).1.length = n
  | 0, s, xs => rfl
  | n + 1, s, xs => by simp only [mixed, List.length_cons, mixed_len n]
mutual
theorem up_refs {n m : Nat} (h : n ≤ m) : ∀ {d : D}, refsBelow n d = true → refsBelow m d = true
  | .non, _ => rfl
  | .bl _, _ => rfl
  | .int _, _ => rfl
  | .str _, _ => rfl
  | .ty _, _ => rfl
  | .dct _, _ => rfl
  | .scr _, _ => rfl
  | .ref i, q => by simp only [refsBelow, decide_eq_true_eq] at q ⊢; omega
  | .tup xs, q => by simp only [refsBelow] at q ⊢; exact up_all h q
  | .lst xs, q => by simp only [refsBelow] at q ⊢; exact up_all h q
  | .rcd k xs, q => by simp only [refsBelow] at q ⊢; exact up_all h q
theorem up_all {n m : Nat} (h : n ≤ m) : ∀ {d : List D}, allBelow n d = true → allBelow m d = true
  | [], _ => rfl
  | x :: xs, q => by
    simp only [allBelow, Bool.and_eq_true] at q ⊢
    exact ⟨up_refs h q.1, up_all h q.2⟩
end
theorem up_mo {n m : Nat} (h : n ≤ m) {o : MO} (q : MO.below n o = true) : MO.below m o = true := by
  cases o with
  | lst xs => simp only [MO.below] at q ⊢; exact up_all h q
theorem Wf.app {h : Sto} (w : Wf h) {xs : List D} (hx : allBelow h.length xs = true) : Wf (h ++ [.lst xs]) := by
  unfold Wf at w ⊢
  rw [List.all_append, Bool.and_eq_true, List.length_append]
  refine ⟨List.all_eq_true.mpr fun o ho => up_mo (Nat.le_add_right _ _) (List.all_eq_true.mp w o ho), ?_⟩
  simp only [List.all_cons, List.all_nil, Bool.and_true, MO.below]
  exact up_all (Nat.le_add_right _ _) hx
theorem range_succ (lo m : Nat) : range (lo : Int) (m + 1) = .int (lo : Int) :: range ((lo + 1 : Nat) : Int) m := by
  unfold range
  rw [List.range_succ_eq_map, List.map_cons, List.map_map]
  simp
  intro a _
  omega
/-- the turns of the comprehension that empties the list -/
theorem mixed_turns {Γ : Txt} (hΔ : Γ "_law_draw" = some c__law_draw) (n : Nat) {h0 : Sto} {i : Nat} {it : D} {turn : D → Sto → R (Option D)} (ht : turn = (fun x h => match put (.name 3) x (wipeE [some (.ref i), some it, some (.ref h0.length), none] [3]) with
        | some ρ' => (tstO (run Γ (n + 1)) .no ρ' h).bind fun c h => if c then (ev (run Γ (n + 1)) (C.mth "pop" (C.var 2) (Cs.cons (C.call "_law_draw" (Cs.cons (C.var 0) (Cs.cons (C.blt "len" (Cs.cons (C.var 2) Cs.nil)) Cs.nil))) Cs.nil)) ρ' h).bind fun y h => .ok (some y) h else .ok none h
        | none => .bad)) (w : Wf h0) (hi : i < h0.length) :
    ∀ (m : Nat) (lo : Nat) (s : S3) (left acc : List D), left.length = m → m < 1073741824 → acc.length + m ≤ sizeLine → allBelow h0.length left = true →
      comLoop turn (range lo m) acc (h0.set i (.lst (cell3 s)) ++ [.lst left]) = .ok (.lst (acc ++ (mixed m s left).1)) (h0.set i (.lst (cell3 (mixed m s left).2)) ++ [.lst []])
  | 0, lo, s, left, acc, hl, _, _, _ => by
    have : left = [] := List.length_eq_zero_iff.mp hl
    subst this
    simp [range, comLoop, mixed]
  | m + 1, lo, s, left, acc, hl, hm, ha, hb => by
    have w1 : Wf (h0.set i (.lst (cell3 s)) ++ [.lst left]) := (w.put3 i s).app (by rw [List.length_set]; exact hb)
    have g1 : (h0.set i (.lst (cell3 s)) ++ [.lst left])[i]? = some (.lst (cell3 s)) := by
      rw [List.getElem?_append_left (by simpa using hi), List.getElem?_set_self hi]
    have g2 : ∀ (s : S3) (xs : List D), (h0.set i (.lst (cell3 s)) ++ [.lst xs])[h0.length]? = some (.lst xs) := fun s xs => by
      rw [List.getElem?_append_right (by simp)]; simp
    have d2 : deref (h0.set i (.lst (cell3 s)) ++ [.lst left]) (.ref h0.length) = .lst left := deref_ref (g2 s left)
    have e1 := run_drw hΔ n g1 w1 (t := (m + 1 : Nat)) (by omega) (by omega)
    rw [List.set_append_left _ _ (by simpa using hi), List.set_set] at e1
    obtain ⟨r1, r2⟩ := drw_range s (t := (m + 1 : Nat)) (by omega)
    have r3 : (drw s ((m + 1 : Nat) : Int)).toNat < left.length := by omega
    have ix : ixN left.length (drw s ((m + 1 : Nat) : Int)) = some (drw s ((m + 1 : Nat) : Int)).toNat := by
      unfold ixN; rw [if_pos r1, if_pos (by omega)]
    have at_ : left[(drw s ((m + 1 : Nat) : Int)).toNat]? = some (left.getD (drw s ((m + 1 : Nat) : Int)).toNat .non) := by
      rw [List.getD_eq_getElem?_getD, List.getElem?_eq_getElem r3]; rfl
    have pop : mthD "pop" left [.int (drw s ((m + 1 : Nat) : Int))] = some (left.getD (drw s ((m + 1 : Nat) : Int)).toNat .non, left.eraseIdx (drw s ((m + 1 : Nat) : Int)).toNat) := by
      have : mthD "pop" left [.int (drw s ((m + 1 : Nat) : Int))] = (if -(2 ^ 63) ≤ drw s ((m + 1 : Nat) : Int) ∧ drw s ((m + 1 : Nat) : Int) < 2 ^ 63 then (match ixN left.length (drw s ((m + 1 : Nat) : Int)) with
        | some k => (left[k]?).map fun y => (y, left.eraseIdx k)
        | none => none) else none) := rfl
      rw [this, if_pos (by omega), ix]
      simp only [at_, Option.map_some]
    rw [range_succ]
    have ih := mixed_turns hΔ n ht w hi m (lo + 1) (nxt s ((m + 1 : Nat) : Int)) (left.eraseIdx (drw s ((m + 1 : Nat) : Int)).toNat) (acc ++ [left.getD (drw s ((m + 1 : Nat) : Int)).toNat .non]) (by rw [List.length_eraseIdx_of_lt r3]; omega) (by omega) (by simp; omega) (eraseIdx_below _ hb)
    have one : turn (.int (lo : Int)) (h0.set i (.lst (cell3 s)) ++ [.lst left]) = .ok (some (left.getD (drw s ((m + 1 : Nat) : Int)).toNat .non)) (h0.set i (.lst (cell3 (nxt s ((m + 1 : Nat) : Int)))) ++ [.lst (left.eraseIdx (drw s ((m + 1 : Nat) : Int)).toNat)]) := by
      rw [ht]
      simp only [put_name, wipeE, tstO, R.bind_ok, if_true, List.set_cons_succ, List.set_cons_zero]
      simp only [ev, tst, evs, evO, evI, R.bind_ok, R.of_some, R.of_none, deref_int, deref_bl, deref_str, deref_non, deref_tup, deref_lst, deref_scr, deref_ty, binD_add, binD_sub, cmpD_lt, cmpD_le, cmpD_gt, cmpD_ge, idxD_lst, idxD_tup, idxD_scr, put_name, List.getElem?_cons_zero, List.getElem?_cons_succ, List.set_cons_zero, List.set_cons_succ, List.map_cons, List.map_nil, Option.map_some, List.cons_append, List.nil_append, List.replicate, startE, List.length_cons, List.length_nil, Nat.sub_self, Nat.reduceSub, Nat.reduceAdd, bl_len_lst, d2, hl, e1, g2, if_neg (show ¬ ("pop" : Str) = "extend" by decide), pop]
      rw [List.set_append_right _ _ (by simp)]
      simp only [List.length_set, Nat.sub_self, List.set_cons_zero]
    simp only [comLoop, one]
    rw [if_pos (by omega)]
    rw [ih]
    simp only [mixed, hl, List.append_assoc, List.cons_append, List.nil_append]
theorem evI_rng1 {call : Calls} {a : C} {ρ : Env} {h h' : Sto} {j : Int} (q : ev call a ρ h = .ok (.int j) h') (h1 : -4611686018427387904 ≤ j ∧ j < 4611686018427387904) : evI call (.rng1 a) ρ h = .ok (range 0 j.toNat) h' := by
  have e : evI call (.rng1 a) ρ h = (ev call a ρ h).bind fun x h => match x with
    | .int j => if -(2 ^ 62) ≤ j ∧ j < 2 ^ 62 then .ok (range 0 j.toNat) h else .bad
    | _ => .bad := by rw [evI] <;> rfl
  rw [e, q]
  exact if_pos (by omega)
theorem evI_of {call : Calls} {a : C} {ρ : Env} {h h' : Sto} {xs : List D} {s : D} (hs : s = .lst xs ∨ s = .tup xs) (q : ev call a ρ h = .ok s h') : evI call (.of a) ρ h = .ok xs h' := by
  rcases hs with rfl | rfl <;> simp only [evI, q, R.bind_ok]
theorem ev_com {call : Calls} {own : List (Str × Nat)} {elt : C} {tg : G} {it : I} {ifs : C'} {ρ : Env} {h h' : Sto} {xs : List D} {r : R D} (q : evI call it ρ h = .ok xs h')
    (l : comLoop (fun x h => match put tg x (wipeE ρ (own.map (·.2))) with
        | some ρ' => (tstO call.noact ifs ρ' h).bind fun c h => if c then (ev call.noact elt ρ' h).bind fun y h => .ok (some y) h else .ok none h
        | none => .bad) xs [] h' = r) : ev call (.com own elt tg it ifs) ρ h = r := by
  simp only [ev, q, R.bind_ok]
  exact l
/-- a plain result, the callee's cells given up -/
theorem leave_plain {h : Sto} {t : Sto} {d : D} (nd : ∀ k, d ≠ .ref k) (hd : refsBelow h.length d = true) (w : Wf h) : leave h.length d (h ++ t) = .ok d h := by
  have e : (h ++ t).take h.length = h := by simp
  unfold Wf at w
  cases d with
  | ref k => exact absurd rfl (nd k)
  | _ => simp only [leave, hd, e, w, List.length_append, Nat.le_add_right, and_self, if_true]
theorem run_mixed {Γ : Txt} (hΓ : Γ "_law_mixed" = some c__law_mixed) (hΔ : Γ "_law_draw" = some c__law_draw) (n : Nat) {h : Sto} {i : Nat} {s : S3} {xs : List D} {it : D} (hit : it = .lst xs ∨ it = .tup xs) (hi : h[i]? = some (.lst (cell3 s))) (w : Wf h) (hl : xs.length < 1000000) (hb : allBelow h.length xs = true) :
    run Γ (n + 2) "_law_mixed" [.ref i, it] h = .ok (.lst (mixed xs.length s xs).1) (h.set i (.lst (cell3 (mixed xs.length s xs).2))) := by
  have hil : i < h.length := (List.getElem?_eq_some_iff.mp hi).1
  have h0 : h.set i (.lst (cell3 s)) = h := by
    apply List.ext_getElem?
    intro j
    by_cases e : i = j
    · subst e; rw [List.getElem?_set_self hil, hi]
    · rw [List.getElem?_set_ne e]
  have wl : Wf (h.set i (.lst (cell3 (mixed xs.length s xs).2))) := w.put3 i _
  have lv : leave h.length (.lst (mixed xs.length s xs).1) (h.set i (.lst (cell3 (mixed xs.length s xs).2)) ++ [.lst []]) = .ok (.lst (mixed xs.length s xs).1) (h.set i (.lst (cell3 (mixed xs.length s xs).2))) := by
    have := leave_plain (h := h.set i (.lst (cell3 (mixed xs.length s xs).2))) (t := [.lst []]) (d := .lst (mixed xs.length s xs).1) (by intro k z; cases z) (by
      simp only [refsBelow, List.length_set]; exact mixed_below _ _ hb) wl
    rwa [List.length_set] at this
  refine run_of hΓ rfl (by decide) (x := .lst (mixed xs.length s xs).1) (h' := h.set i (.lst (cell3 (mixed xs.length s xs).2)) ++ [.lst []]) ?_ lv
  simp only [c__law_mixed]
  have start : startE 4 [.ref i, it] = [some (.ref i), some it, none, none] := rfl
  rw [start]
  have one : evS (run Γ (n + 1)) (S.setM 2 (C.blt "list" (Cs.cons (C.var 1) Cs.nil))) h.length [some (.ref i), some it, none, none] h = .ok (.nx [some (.ref i), some it, some (.ref h.length), none]) (h ++ [.lst xs]) := by
    simp only [evS]
    rcases hit with rfl | rfl
    · simp only [ev, tst, evs, evO, evI, R.bind_ok, R.of_some, R.of_none, deref_int, deref_bl, deref_str, deref_non, deref_tup, deref_lst, deref_scr, deref_ty, binD_add, binD_sub, cmpD_lt, cmpD_le, cmpD_gt, cmpD_ge, idxD_lst, idxD_tup, idxD_scr, put_name, List.getElem?_cons_zero, List.getElem?_cons_succ, List.set_cons_zero, List.set_cons_succ, List.map_cons, List.map_nil, Option.map_some, List.cons_append, List.nil_append, List.replicate, startE, List.length_cons, List.length_nil, Nat.sub_self, Nat.reduceSub, Nat.reduceAdd, bl_list_lst, R.bindF_ok]
    · simp only [ev, tst, evs, evO, evI, R.bind_ok, R.of_some, R.of_none, deref_int, deref_bl, deref_str, deref_non, deref_tup, deref_lst, deref_scr, deref_ty, binD_add, binD_sub, cmpD_lt, cmpD_le, cmpD_gt, cmpD_ge, idxD_lst, idxD_tup, idxD_scr, put_name, List.getElem?_cons_zero, List.getElem?_cons_succ, List.set_cons_zero, List.set_cons_succ, List.map_cons, List.map_nil, Option.map_some, List.cons_append, List.nil_append, List.replicate, startE, List.length_cons, List.length_nil, Nat.sub_self, Nat.reduceSub, Nat.reduceAdd, bl_list_tup, R.bindF_ok]
  refine (evSs_nx one).trans (evSs_rt (evS_ret ?_))
  have d2 : deref (h ++ [.lst xs]) (.ref h.length) = .lst xs := deref_ref (by simp)
  have big : sizeLine = 16777216 := sizeLine_eq
  have go := mixed_turns hΔ n (it := it) (h0 := h) (i := i) rfl w hil xs.length 0 s xs [] rfl (by omega) (by simp; omega) hb
  rw [h0, List.nil_append, Int.natCast_zero] at go
  refine ev_com (evI_rng1 (j := xs.length) (h' := h ++ [.lst xs]) ?_ (by omega)) ?_
  · simp only [ev, evs, R.bind_ok, List.getElem?_cons_zero, List.getElem?_cons_succ, List.map_cons, List.map_nil, d2, bl_len_lst, R.of_some]
  · rw [Int.toNat_natCast]
    exact go
end MP

set_option autoImplicit false
set_option Elab.async false
set_option linter.all false
set_option maxRecDepth 100000
set_option maxHeartbeats 2000000
/-! Running the functional Python: rows and partial rows that are dealt. -/
namespace MP
open PySem PySem.Spec PyProof.Rows L2
theorem set_same {h : Sto} {i : Nat} {o : MO} (hi : h[i]? = some o) : h.set i o = h := by
  apply List.ext_getElem?
  intro j
  by_cases e : i = j
  · subst e; rw [List.getElem?_set_self (List.getElem?_eq_some_iff.mp hi).1, hi]
  · rw [List.getElem?_set_ne e]
theorem ev_blt1 {call : Calls} {f : Str} {e : C} {ρ : Env} {h h' : Sto} {x d : D} (q : ev call e ρ h = .ok x h') (b : bltD f [deref h' x] = some d) : ev call (.blt f (.cons e .nil)) ρ h = .ok d h' := by
  simp only [ev, evs, q, R.bind_ok, List.map_cons, List.map_nil, b, R.of_some]
theorem ev_call1 {call : Calls} {f : Str} {e : C} {ρ : Env} {h h' : Sto} {x : D} (q : ev call e ρ h = .ok x h') : ev call (.call f (.cons e .nil)) ρ h = call f [x] h' := by
  simp only [ev, evs, q, R.bind_ok]
theorem ev_call2 {call : Calls} {f : Str} {e e2 : C} {ρ : Env} {h h' h2 : Sto} {x x2 : D} (q : ev call e ρ h = .ok x h') (q2 : ev call e2 ρ h' = .ok x2 h2) : ev call (.call f (.cons e (.cons e2 .nil))) ρ h = call f [x, x2] h2 := by
  simp only [ev, evs, q, q2, R.bind_ok]
theorem ev_bin {call : Calls} {op : Operator} {a b : C} {ρ : Env} {h h1 h2 : Sto} {x y d : D} (q : ev call a ρ h = .ok x h1) (q2 : ev call b ρ h1 = .ok y h2) (o : binD op (deref h2 x) (deref h2 y) = some d) : ev call (.bin op a b) ρ h = .ok d h2 := by
  simp only [ev, q, q2, R.bind_ok, o, R.of_some]
/-- draws of numbers below t, one a turn -/
def deal (t : Int) (s : S3) (xs : List D) : List D × S3 := comR (fun s _ => some (.int (drw s t))) (fun s _ => nxt s t) s xs
theorem deal_ints {t : Int} : ∀ {xs : List D} {s : S3}, ∀ x ∈ (deal t s xs).1, ∃ i, x = D.int i
  | [], s, x, h => by simp [deal, comR] at h
  | y :: xs, s, x, h => by
    simp only [deal, comR, Option.toList_some, List.cons_append, List.nil_append, List.mem_cons] at h
    rcases h with rfl | h
    · exact ⟨_, rfl⟩
    · exact deal_ints (xs := xs) (s := nxt s t) x h
theorem deal_len {t : Int} : ∀ {xs : List D} {s : S3}, (deal t s xs).1.length = xs.length
  | [], s => rfl
  | y :: xs, s => by
    have := deal_len (t := t) (xs := xs) (s := nxt s t)
    simp only [deal, comR, Option.toList_some, List.cons_append, List.nil_append, List.length_cons] at this ⊢
    rw [this]
def rowOf (s : S3) (n : Nat) : List D × S3 := deal 2 s (range 0 n)
def c__law_row : Def :=
  ⟨3, 2,
   (Ss.cons (S.ret (C.blt "tuple" (Cs.cons (C.com [("key", 2)] (C.call "_law_draw" (Cs.cons (C.var 0) (Cs.cons (C.int 2) Cs.nil))) (G.name 2) (I.rng1 (C.var 1)) C'.no) Cs.nil)))
    Ss.nil)⟩
theorem run_row {Γ : Txt} (hΓ : Γ "_law_row" = some c__law_row) (hΔ : Γ "_law_draw" = some c__law_draw) (n : Nat) {h : Sto} {i : Nat} {s : S3} {k : Nat} (hi : h[i]? = some (.lst (cell3 s))) (w : Wf h) (hk : k < 1000000) :
    run Γ (n + 2) "_law_row" [.ref i, .int k] h = .ok (.tup (rowOf s k).1) (h.set i (.lst (cell3 (rowOf s k).2))) := by
  have hil : i < h.length := (List.getElem?_eq_some_iff.mp hi).1
  have wl : Wf (h.set i (.lst (cell3 (rowOf s k).2))) := w.put3 i _
  refine run_of hΓ rfl (by decide) (x := .tup (rowOf s k).1) (h' := h.set i (.lst (cell3 (rowOf s k).2))) ?_ (leave_old (by simp only [refsBelow]; exact allBelow_ints deal_ints) (by simp) wl)
  simp only [c__law_row]
  have start : startE 3 [.ref i, .int k] = [some (.ref i), some (.int k), none] := rfl
  rw [start]
  have big : sizeLine = 16777216 := sizeLine_eq
  have com : ev (run Γ (n + 1)) (C.com [("key", 2)] (C.call "_law_draw" (Cs.cons (C.var 0) (Cs.cons (C.int 2) Cs.nil))) (G.name 2) (I.rng1 (C.var 1)) C'.no) [some (.ref i), some (.int k), none] h = .ok (.lst (rowOf s k).1) (h.set i (.lst (cell3 (rowOf s k).2))) := by
    refine ev_com (evI_rng1 (j := k) (h' := h) ?_ (by omega)) ?_
    · simp only [ev, tst, evs, evO, evI, R.bind_ok, R.of_some, R.of_none, deref_int, deref_bl, deref_str, deref_non, deref_tup, deref_lst, deref_scr, deref_ty, binD_add, binD_sub, cmpD_lt, cmpD_le, cmpD_gt, cmpD_ge, idxD_lst, idxD_tup, idxD_scr, put_name, List.getElem?_cons_zero, List.getElem?_cons_succ, List.set_cons_zero, List.set_cons_succ, List.map_cons, List.map_nil, Option.map_some, List.cons_append, List.nil_append, List.replicate, startE, List.length_cons, List.length_nil, Nat.sub_self, Nat.reduceSub, Nat.reduceAdd]
    · rw [Int.toNat_natCast]
      have := comLoop_is (α := S3) (turn := fun x h => match put (.name 2) x (wipeE [some (.ref i), some (.int k), none] [2]) with
        | some ρ' => (tstO (run Γ (n + 1)) .no ρ' h).bind fun c h => if c then (ev (run Γ (n + 1)) (C.call "_law_draw" (Cs.cons (C.var 0) (Cs.cons (C.int 2) Cs.nil))) ρ' h).bind fun y h => .ok (some y) h else .ok none h
        | none => .bad) (fun s => h.set i (.lst (cell3 s))) (fun s _ => some (.int (drw s 2))) (fun s _ => nxt s 2) (fun _ _ => True) (fun s x xs _ => ⟨?_, trivial⟩) (range 0 k) [] s trivial (by rw [range_len]; simp; omega)
      · rw [set_same hi, List.nil_append] at this
        exact this
      · have e1 := run_drw hΔ n (h := h.set i (.lst (cell3 s))) (i := i) (s := s) (t := 2) (List.getElem?_set_self hil) (w.put3 i s) (by decide) (by decide)
        rw [List.set_set] at e1
        simp only [put_name, wipeE, tstO, R.bind_ok, if_true, List.set_cons_succ, List.set_cons_zero]
        simp only [ev, tst, evs, evO, evI, R.bind_ok, R.of_some, R.of_none, deref_int, deref_bl, deref_str, deref_non, deref_tup, deref_lst, deref_scr, deref_ty, binD_add, binD_sub, cmpD_lt, cmpD_le, cmpD_gt, cmpD_ge, idxD_lst, idxD_tup, idxD_scr, put_name, List.getElem?_cons_zero, List.getElem?_cons_succ, List.set_cons_zero, List.set_cons_succ, List.map_cons, List.map_nil, Option.map_some, List.cons_append, List.nil_append, List.replicate, startE, List.length_cons, List.length_nil, Nat.sub_self, Nat.reduceSub, Nat.reduceAdd, e1]
  exact evSs_rt (evS_ret (ev_blt1 com (by rw [deref_lst]; exact bl_tuple_lst)))
end MP

set_option autoImplicit false
set_option Elab.async false
set_option linter.all false
set_option maxRecDepth 100000
set_option maxHeartbeats 2000000
/-! Running the functional Python: data, comprehensions over them, calls without a state. -/
namespace MP
open PySem PySem.Spec PyProof.Rows L2
/-! ### data -/
def dat (d : D) : Bool := (toPy d).isSome
def dats (xs : List D) : Bool := (toPys xs).isSome
theorem dats_iff : ∀ {xs : List D}, dats xs = true ↔ ∀ x ∈ xs, dat x = true
  | [] => by simp [dats, toPys]
  | x :: xs => by
    have ih := dats_iff (xs := xs)
    unfold dats at ih ⊢
    unfold dat at ih ⊢
    simp only [List.mem_cons, forall_eq_or_imp, ← ih]
    simp only [toPys]
    cases toPy x <;> cases toPys xs <;> simp
theorem dat_tup {xs : List D} : dat (.tup xs) = dats xs := by simp [dat, dats, toPy]
theorem dat_lst {xs : List D} : dat (.lst xs) = dats xs := by simp [dat, dats, toPy]
theorem dat_ty {d : D} (h : dat d = true) : ∃ t, tyOf d = some t := by
  cases d <;> first | exact ⟨_, rfl⟩ | (simp [dat, toPy] at h)
mutual
theorem dat_refs {n : Nat} : ∀ {d : D}, dat d = true → refsBelow n d = true
  | .non, _ => rfl
  | .bl _, _ => rfl
  | .int _, _ => rfl
  | .str _, _ => rfl
  | .dct _, _ => rfl
  | .ty _, h => by simp [dat, toPy] at h
  | .ref _, h => by simp [dat, toPy] at h
  | .scr _, h => by simp [dat, toPy] at h
  | .rcd _ _, h => by simp [dat, toPy] at h
  | .tup xs, h => by simp only [refsBelow]; exact dats_refs (by rwa [dat_tup] at h)
  | .lst xs, h => by simp only [refsBelow]; exact dats_refs (by rwa [dat_lst] at h)
theorem dats_refs {n : Nat} : ∀ {d : List D}, dats d = true → allBelow n d = true
  | [], _ => rfl
  | x :: xs, h => by
    have := dats_iff.mp h
    simp only [allBelow, Bool.and_eq_true]
    exact ⟨dat_refs (this x List.mem_cons_self), dats_refs (dats_iff.mpr fun y hy => this y (List.mem_cons_of_mem _ hy))⟩
end
theorem dat_deref {h : Sto} {d : D} (q : dat d = true) : deref h d = d := by
  cases d <;> first | rfl | (simp [dat, toPy] at q)
theorem deref_dct {h : Sto} {u : List (Key × V)} : deref h (.dct u) = .dct u := rfl
theorem leave_dat {h : Sto} {d : D} (q : dat d = true) (w : Wf h) : leave h.length d h = .ok d h := leave_old (dat_refs q) rfl w
theorem leave_bl {h : Sto} {b : Bool} (w : Wf h) : leave h.length (.bl b) h = .ok (.bl b) h := leave_dat rfl w
theorem leave_non {h : Sto} (w : Wf h) : leave h.length .non h = .ok .non h := leave_dat rfl w
/-- a call whose body comes to its end -/
theorem run_nx {Γ : Txt} {f : Str} {d : Def} {n : Nat} {as : List D} {h : Sto} (e : Γ f = some d) (hl : as.length = d.m) (hm : d.m ≤ d.n) {h' : Sto} {ρ : Env} {r : R D} (q : evSs (run Γ n) d.body h.length (startE d.n as) h = .ok (.nx ρ) h') (l : leave h.length .non h' = r) : run Γ (n + 1) f as h = r := by
  show (match Γ f with
    | none => R.bad
    | some d => if as.length = d.m ∧ d.m ≤ d.n then endD h (evSs (run Γ n) d.body h.length (startE d.n as) h) else .bad) = r
  simp only [e]
  rw [if_pos ⟨hl, hm⟩, q]
  exact l
theorem evS_for {call : Calls} {g : G} {it : I} {body : Ss} {nb : Nat} {ρ : Env} {h h' : Sto} {xs : List D} {r : R Flow} (q : evI call it ρ h = .ok xs h')
    (l : forLoop (fun x ρ h2 => match put g x ρ with
        | some ρ' => if h'.length ≤ h2.length then evSs call body h'.length ρ' h2 else .bad
        | none => .bad) xs ρ h' = r) : evS call (.for_ g it body) nb ρ h = r := by
  simp only [evS, q, R.bindF_ok]
  exact l
theorem evSs_end {call : Calls} {s : S} {r : Ss} {nb : Nat} {ρ : Env} {h h' : Sto} {fl : Flow} (e : evS call s nb ρ h = .ok fl h') (nn : ∀ ρ', fl ≠ .nx ρ') : evSs call (.cons s r) nb ρ h = .ok fl h' := by
  simp only [evSs, e]
  cases fl with
  | nx ρ' => exact absurd rfl (nn ρ')
  | _ => rfl
/-! ### built-ins -/
theorem bl_isi {x : D} {c t : String} (h : tyOf x = some t) : bltD "isinstance" [x, .ty c] = (isIsi t c).map .bl := by
  have : bltD "isinstance" [x, .ty c] = (match tyOf x with
    | some t => (isIsi t c).map .bl
    | none => none) := rfl
  rw [this, h]
theorem bl_all {ys : List D} : bltD "all" [.lst ys] = (boolsD ys).map fun bs => .bl (bs.all id) := rfl
theorem bl_any {ys : List D} : bltD "any" [.lst ys] = (boolsD ys).map fun bs => .bl (bs.any id) := rfl
theorem bl_sum {ys : List D} : bltD "sum" [.lst ys] = (intsD ys).map fun ns => .int ns.sum := rfl
theorem bl_str {i : Int} (h : i.natAbs.log2 < 1920) : bltD "str" [.int i] = some (.str (toString i)) := if_pos h
theorem boolsD_map {xs : List D} {p : D → Bool} : boolsD (xs.map fun x => .bl (p x)) = some (xs.map p) := by
  induction xs with
  | nil => rfl
  | cons x xs ih => simp [boolsD, ih]
theorem intsD_map {ns : List Int} : intsD (ns.map .int) = some ns := by
  induction ns with
  | nil => rfl
  | cons x xs ih => simp [intsD, ih]
theorem all_map {xs : List D} {p : D → Bool} : bltD "all" [.lst (xs.map fun x => .bl (p x))] = some (.bl (xs.all p)) := by
  rw [bl_all, boolsD_map]; simp [List.all_map]
theorem any_map {xs : List D} {p : D → Bool} : bltD "any" [.lst (xs.map fun x => .bl (p x))] = some (.bl (xs.any p)) := by
  rw [bl_any, boolsD_map]; simp [List.any_map]
@[simp] theorem cmpD_eqi {i j : Int} : cmpD .Eq (.int i) (.int j) = some (decide (i = j)) := by
  have : cmpD .Eq (.int i) (.int j) = eqD (.int i) (.int j) := by simp only [cmpD]
  rw [this]
  simp [eqD, strEq, toPy, SeqAt.shaped, PyData.canLay0, PyData.depth, PyData.eqv]
  by_cases c : i = j <;> simp [c]
@[simp] theorem cmpD_nei {i j : Int} : cmpD .NotEq (.int i) (.int j) = some (!decide (i = j)) := by
  have : cmpD .NotEq (.int i) (.int j) = (cmpD .Eq (.int i) (.int j)).map (!·) := rfl
  rw [this, cmpD_eqi]; rfl
/-! ### slices -/
theorem sIx_non {n d : Nat} : HT.sIx n d none = d := rfl
theorem sIx_at {n d k : Nat} : HT.sIx n d (some (k : Int)) = min k n := HT.sIx_nat n d k
theorem cut_last {xs : List D} {k : Nat} (hk : 0 < k) : cutD xs (some (-(k : Int))) none = xs.drop (xs.length - k) := by
  unfold cutD
  have e : HT.sIx xs.length 0 (some (-(k : Int))) = xs.length - k := by
    show (if -(k : Int) < 0 then (-(k : Int) + (xs.length : Int)).toNat else min (-(k : Int)).toNat xs.length) = _
    rw [if_pos (by omega)]
    omega
  rw [e, sIx_non, List.take_of_length_le (by simp)]
theorem cut_from {xs : List D} {k : Nat} : cutD xs (some (k : Int)) none = xs.drop k := by
  unfold cutD
  rw [sIx_non, sIx_at]
  by_cases c : k ≤ xs.length
  · rw [Nat.min_eq_left c, List.take_of_length_le (by simp)]
  · rw [Nat.min_eq_right (by omega), List.drop_eq_nil_of_le (Nat.le_refl _), List.drop_eq_nil_of_le (by omega)]
    simp
theorem cut_to {xs : List D} {k : Nat} : cutD xs none (some (k : Int)) = xs.take k := by
  unfold cutD
  rw [sIx_non, sIx_at]
  simp only [List.drop_zero, Nat.sub_zero]
  by_cases c : k ≤ xs.length
  · rw [Nat.min_eq_left c]
  · rw [Nat.min_eq_right (by omega), List.take_of_length_le (Nat.le_refl _), List.take_of_length_le (by omega)]
theorem cut_one {xs : List D} {i k : Nat} : cutD xs (some (i : Int)) (some (k : Int)) = (xs.drop i).take (k - i) := by
  unfold cutD
  rw [sIx_at, sIx_at]
  by_cases c : i ≤ xs.length
  · rw [Nat.min_eq_left c]
    by_cases c2 : k ≤ xs.length
    · rw [Nat.min_eq_left c2]
    · rw [Nat.min_eq_right (Nat.le_of_not_le c2), List.take_of_length_le (by simp), List.take_of_length_le (by simp; omega)]
  · rw [Nat.min_eq_right (Nat.le_of_not_le c), List.drop_eq_nil_of_le (Nat.le_refl _), List.drop_eq_nil_of_le (Nat.le_of_not_le c)]
    simp
/-! ### comprehensions without a state -/
theorem comLoop_opt {turn : D → Sto → R (Option D)} {f : D → Option D} {h : Sto} : ∀ {xs acc : List D}, (∀ x ∈ xs, turn x h = .ok (f x) h) → acc.length + xs.length ≤ sizeLine → comLoop turn xs acc h = .ok (.lst (acc ++ xs.filterMap f)) h
  | [], acc, _, _ => by simp [comLoop]
  | x :: xs, acc, hx, l => by
    have e := hx x List.mem_cons_self
    have hr := fun y hy => hx y (List.mem_cons_of_mem _ hy)
    simp only [List.length_cons] at l
    cases ef : f x with
    | none =>
      simp only [comLoop, e, ef, List.filterMap_cons]
      exact comLoop_opt hr (by omega)
    | some y =>
      simp only [comLoop, e, ef, List.filterMap_cons]
      rw [if_pos (by omega), comLoop_opt hr (by simp; omega)]
      simp
theorem comLoop_map {turn : D → Sto → R (Option D)} {f : D → D} {h : Sto} {xs : List D} (hx : ∀ x ∈ xs, turn x h = .ok (some (f x)) h) (l : xs.length ≤ sizeLine) : comLoop turn xs [] h = .ok (.lst (xs.map f)) h := by
  rw [comLoop_opt (f := fun x => some (f x)) hx (by simpa using l)]
  simp
theorem bl_repr {x : D} {p : PyData} (h : toPy x = some p) (a : PyData.showable p = true) (b : p.depth ≤ 64) (c : p.shown.length ≤ sizeLine) (d : (p.canLay0 || isDct p) = true) : bltD "repr" [x] = some (.str p.shown) := by
  have : bltD "repr" [x] = (match toPy x with
    | some d => if PyData.showable d && decide (d.depth ≤ 64) && decide (d.shown.length ≤ sizeLine) && (d.canLay0 || isDct d) then some (.str d.shown) else none
    | none => none) := rfl
  rw [this, h]
  simp only
  rw [if_pos (by simp only [a, b, c, d, decide_true, Bool.and_self])]
theorem cmp_str {a b : Str} : cmpD .Eq (.str a) (.str b) = some (decide (a = b)) := by
  have : cmpD .Eq (.str a) (.str b) = eqD (.str a) (.str b) := by simp only [cmpD]
  rw [this]
  rfl
theorem pys_int {ns : List Int} : toPys (ns.map .int) = some (ns.map .int) := by
  induction ns with
  | nil => rfl
  | cons n ns ih => simp [toPys, toPy, ih]
theorem lay_int {ns : List Int} : PyData.canLayAll0 (ns.map .int) = true ∧ PyData.depthAll (ns.map .int) = 0 := by
  induction ns with
  | nil => exact ⟨rfl, rfl⟩
  | cons n ns ih => simp [PyData.canLayAll0, PyData.canLay0, PyData.depthAll, PyData.depth, ih]
theorem cmp_nil {ns : List Int} : cmpD .Eq (.lst (ns.map .int)) (.lst []) = some ns.isEmpty := by
  have : cmpD .Eq (.lst (ns.map .int)) (.lst []) = eqD (.lst (ns.map .int)) (.lst []) := by simp only [cmpD]
  rw [this]
  have e1 : toPy (.lst (ns.map .int)) = some (.list (ns.map .int)) := by simp [toPy, pys_int]
  have e2 : toPy (.lst []) = some (.list []) := rfl
  unfold eqD
  simp only [strEq]
  rw [e1, e2]
  simp only
  rw [if_pos (by simp [SeqAt.shaped, PyData.canLay0, PyData.depth, lay_int, PyData.canLayAll0, PyData.depthAll])]
  cases ns <;> simp [PyData.eqv, PyData.eqvAll]
/-! ### lambdas -/
theorem relock_self : ∀ {ρ : MP.Env}, relock ρ (ρ.map fun o : Option D => o.getD .non) = ρ
  | [] => rfl
  | none :: r => by
    have := relock_self (ρ := r)
    simp only [relock, List.map_cons, List.zipWith_cons_cons, Option.map_none] at this ⊢
    rw [this]
  | some d :: r => by
    have := relock_self (ρ := r)
    simp only [relock, List.map_cons, List.zipWith_cons_cons, Option.map_some, Option.getD_some] at this ⊢
    rw [this]
theorem low_fn {c : Calls} : c.low.fn = c.fn := rfl
theorem isx_run {Γ : Txt} {n : Nat} : (run Γ n).isx = Γ.isx := by cases n <;> rfl
theorem fld_run {Γ : Txt} {n : Nat} : (run Γ n).fld = Γ.fld := by cases n <;> rfl
theorem ev_lamc {Γ : Txt} {n : Nat} {f : Str} {e : C} {ρ : MP.Env} {h : Sto} {r : R D} {dd : Def} (hd : Γ f = some dd) (hm : dd.m = 1 ∧ 1 ≤ dd.n)
    (hb : ∀ a c q us, endD h (evSs { (run Γ n) with act := actOf a c q us fun ds h => ev (run Γ (n + 1)).low e (relock ρ ds) h } dd.body h.length (startE dd.n [.rcd (.fn a c q us) (ρ.map fun o : Option D => o.getD .non)]) h) = r) : ev (run Γ (n + 1)) (.lamc f e) ρ h = r := by
  simp only [ev]
  refine lamR_of fun a c q us => ?_
  show (match Γ f with
    | none => R.bad
    | some dd => if 1 = dd.m ∧ dd.m ≤ dd.n then endD h (evSs { (run Γ n) with act := actOf a c q us fun ds h => ev (run Γ (n + 1)).low e (relock ρ ds) h } dd.body h.length (startE dd.n [.rcd (.fn a c q us) (ρ.map fun o : Option D => o.getD .non)]) h) else .bad) = _
  rw [hd]
  simp only
  rw [if_pos ⟨hm.1.symm, by rw [hm.1]; exact hm.2⟩]
  exact hb a c q us
end MP

set_option autoImplicit false
set_option Elab.async false
set_option linter.all false
set_option maxRecDepth 100000
set_option maxHeartbeats 2000000
/-! Running the functional Python: small data and their texts; draws from a stream told by what is left. -/
namespace MP
open PySem PySem.Spec PyProof.Rows L2
/-! ### small data -/
/-- depth at most k, at most nine items each, small leaves -/
def lay : Nat → D → Bool
  | _, .non => true
  | _, .bl _ => true
  | _, .int i => decide (-10 ≤ i) && decide (i ≤ 10)
  | _, .str s => decide (s.cps.size ≤ 3) && PyData.strOk s
  | k + 1, .tup xs => decide (xs.length ≤ 9) && xs.all (lay k)
  | k + 1, .lst xs => decide (xs.length ≤ 9) && xs.all (lay k)
  | _, _ => false
def layW : Nat → Nat
  | 0 => 4
  | k + 1 => 9 * (layW k + 1)
structure Laid (k W : Nat) (p : PyData) : Prop where
  can : p.canLay0 = true
  dep : p.depth ≤ k
  sho : p.intsShort 13 = true
  abl : p.showable = true
  wei : p.weight ≤ W
theorem int_small {i : Int} (h1 : -10 ≤ i) (h2 : i ≤ 10) : PyData.intsShort 13 (.int i) = true ∧ PyData.showable (.int i) = true ∧ PyData.weight (.int i) ≤ 4 := by
  have : ∀ k : Fin 21, PyData.intsShort 13 (.int ((k.1 : Int) - 10)) = true ∧ PyData.showable (.int ((k.1 : Int) - 10)) = true ∧ PyData.weight (.int ((k.1 : Int) - 10)) ≤ 4 := by decide +kernel
  have t := this ⟨(i + 10).toNat, by omega⟩
  have e : (((i + 10).toNat : Nat) : Int) - 10 = i := by omega
  simp only [e] at t
  exact t
theorem layW_ge (k : Nat) : 4 ≤ layW k := by
  induction k with
  | zero => exact Nat.le_refl _
  | succ k ih => simp only [layW]; omega
theorem lays_py {k : Nat} (ih : ∀ d, lay k d = true → ∃ p, toPy d = some p ∧ Laid k (layW k) p) : ∀ {xs : List D}, xs.all (lay k) = true → ∃ ps, toPys xs = some ps ∧ PyData.canLayAll0 ps = true ∧ PyData.depthAll ps ≤ k ∧ PyData.intsShortAll 13 ps = true ∧ PyData.showableAll ps = true ∧ PyData.weightAll ps ≤ xs.length * (layW k + 1)
  | [], _ => ⟨[], rfl, rfl, Nat.zero_le _, rfl, rfl, Nat.zero_le _⟩
  | x :: xs, h => by
    simp only [List.all_cons, Bool.and_eq_true] at h
    obtain ⟨p, e, L⟩ := ih x h.1
    obtain ⟨ps, e2, h1, h2, h3, h4, h5⟩ := lays_py ih h.2
    refine ⟨p :: ps, by simp [toPys, e, e2], by simp [PyData.canLayAll0, L.can, h1], by simp only [PyData.depthAll]; exact Nat.max_le.mpr ⟨L.dep, h2⟩, by simp [PyData.intsShortAll, L.sho, h3], by simp [PyData.showableAll, L.abl, h4], ?_⟩
    simp only [PyData.weightAll, List.length_cons]
    have := L.wei
    have e : (xs.length + 1) * (layW k + 1) = xs.length * (layW k + 1) + (layW k + 1) := Nat.succ_mul ..
    omega
theorem lay_leaf {k : Nat} {d : D} (h : lay 0 d = true) : ∃ p, toPy d = some p ∧ Laid k (layW k) p := by
  have g := layW_ge k
  cases d with
  | non => exact ⟨_, rfl, rfl, Nat.zero_le _, rfl, rfl, Nat.zero_le _⟩
  | bl b => exact ⟨_, rfl, rfl, Nat.zero_le _, rfl, rfl, Nat.zero_le _⟩
  | int i =>
    simp only [lay, Bool.and_eq_true, decide_eq_true_eq] at h
    obtain ⟨a, b, c⟩ := int_small h.1 h.2
    exact ⟨_, rfl, rfl, Nat.zero_le _, a, b, Nat.le_trans c g⟩
  | str s =>
    simp only [lay, Bool.and_eq_true, decide_eq_true_eq] at h
    exact ⟨_, rfl, h.2, Nat.zero_le _, rfl, rfl, by simp only [PyData.weight]; omega⟩
  | _ => simp [lay] at h
theorem lay_py : ∀ {k : Nat} {d : D}, lay k d = true → ∃ p, toPy d = some p ∧ Laid k (layW k) p
  | 0, d, h => lay_leaf h
  | k + 1, .tup xs, h => by
    simp only [lay, Bool.and_eq_true, decide_eq_true_eq] at h
    obtain ⟨ps, e, h1, h2, h3, h4, h5⟩ := lays_py (fun d q => lay_py (k := k) q) h.2
    refine ⟨.tuple ps, by simp [toPy, e], by simpa [PyData.canLay0] using h1, by simp only [PyData.depth]; omega, by simpa [PyData.intsShort] using h3, by simpa [PyData.showable] using h4, ?_⟩
    simp only [PyData.weight, layW]
    exact Nat.le_trans h5 (Nat.mul_le_mul_right _ h.1)
  | k + 1, .lst xs, h => by
    simp only [lay, Bool.and_eq_true, decide_eq_true_eq] at h
    obtain ⟨ps, e, h1, h2, h3, h4, h5⟩ := lays_py (fun d q => lay_py (k := k) q) h.2
    refine ⟨.list ps, by simp [toPy, e], by simpa [PyData.canLay0] using h1, by simp only [PyData.depth]; omega, by simpa [PyData.intsShort] using h3, by simpa [PyData.showable] using h4, ?_⟩
    simp only [PyData.weight, layW]
    exact Nat.le_trans h5 (Nat.mul_le_mul_right _ h.1)
  | k + 1, .non, h => lay_leaf (by simpa [lay] using h)
  | k + 1, .bl _, h => lay_leaf (by simpa [lay] using h)
  | k + 1, .int _, h => lay_leaf (by simpa [lay] using h)
  | k + 1, .str _, h => lay_leaf (by simpa [lay] using h)
  | k + 1, .ty _, h => by simp [lay] at h
  | k + 1, .dct _, h => by simp [lay] at h
  | k + 1, .ref _, h => by simp [lay] at h
  | k + 1, .scr _, h => by simp [lay] at h
  | k + 1, .rcd _ _, h => by simp [lay] at h
theorem lay_up : ∀ {k : Nat} {d : D}, lay k d = true → lay (k + 1) d = true
  | 0, d, h => by cases d <;> first | (simp [lay] at h; done) | (simpa [lay] using h)
  | k + 1, .tup xs, h => by
    simp only [lay, Bool.and_eq_true, List.all_eq_true] at h
    show (decide (xs.length ≤ 9) && xs.all (lay (k + 1))) = true
    rw [Bool.and_eq_true, List.all_eq_true]
    exact ⟨h.1, fun x hx => lay_up (h.2 x hx)⟩
  | k + 1, .lst xs, h => by
    simp only [lay, Bool.and_eq_true, List.all_eq_true] at h
    show (decide (xs.length ≤ 9) && xs.all (lay (k + 1))) = true
    rw [Bool.and_eq_true, List.all_eq_true]
    exact ⟨h.1, fun x hx => lay_up (h.2 x hx)⟩
  | k + 1, .non, h => by simpa [lay] using h
  | k + 1, .bl _, h => by simpa [lay] using h
  | k + 1, .int _, h => by simpa [lay] using h
  | k + 1, .str _, h => by simpa [lay] using h
  | k + 1, .ty _, h => by simp [lay] at h
  | k + 1, .dct _, h => by simp [lay] at h
  | k + 1, .ref _, h => by simp [lay] at h
  | k + 1, .scr _, h => by simp [lay] at h
  | k + 1, .rcd _ _, h => by simp [lay] at h
/-- may be shown and compared with its text -/
structure GoodV (v : D) : Prop where
  dt : dat v = true
  rp : ∃ s, bltD "repr" [v] = some (.str s)
  ln : ∀ xs, v = .tup xs → xs.length ≤ sizeLine
theorem good_of {v : D} {p : PyData} (e : toPy v = some p) (a : PyData.showable p = true) (b : p.depth ≤ 64) (c : p.shown.length ≤ sizeLine) (d : (p.canLay0 || isDct p) = true) (l : ∀ xs, v = .tup xs → xs.length ≤ sizeLine) : GoodV v :=
  ⟨by simp [dat, e], ⟨_, bl_repr e a b c d⟩, l⟩
def goodB (v : D) : Bool := match toPy v with
  | some p => PyData.showable p && (decide (p.depth ≤ 64) && (decide (p.shown.length ≤ 1000) && ((p.canLay0 || isDct p) && (match v with
    | .tup xs => decide (xs.length ≤ 1000)
    | _ => true))))
  | none => false
theorem goodB_ok {v : D} (h : goodB v = true) : GoodV v := by
  unfold goodB at h
  split at h
  · rename_i p e
    simp only [Bool.and_eq_true, decide_eq_true_eq] at h
    obtain ⟨h1, h2, h3, h4, h5⟩ := h
    refine good_of e h1 h2 (by rw [sizeLine_eq]; omega) h4 fun xs q => ?_
    subst q
    simp only [decide_eq_true_eq] at h5
    rw [sizeLine_eq]; omega
  · cases h
theorem lay_good {k : Nat} {d : D} (hk : k ≤ 4) (h : lay k d = true) : GoodV d := by
  obtain ⟨p, e, L⟩ := lay_py h
  have w4 : layW k ≤ 33624 := by
    have : ∀ k : Fin 5, layW k.1 ≤ 33624 := by decide
    exact this ⟨k, by omega⟩
  have l := PyData.shown_le 13 (by decide) p (PyData.leavesShort_of_canLay0 13 p L.can L.sho)
  refine good_of e L.abl (Nat.le_trans L.dep (by omega)) ?_ (by rw [L.can]; rfl) fun xs q => ?_
  · rw [sizeLine_eq]
    have := L.wei
    have : (13 + 2) * p.weight ≤ 15 * 33624 := Nat.mul_le_mul_left 15 (by omega)
    omega
  · subst q
    cases k with
    | zero => simp [lay] at h
    | succ k =>
      simp only [lay, Bool.and_eq_true, decide_eq_true_eq] at h
      rw [sizeLine_eq]; omega
theorem lay_dat {k : Nat} {d : D} (h : lay k d = true) : dat d = true := by
  obtain ⟨p, e, _⟩ := lay_py h
  simp [dat, e]
/-- == () of a small tuple -/
theorem cmp_tnil {k : Nat} {xs : List D} (hk : k ≤ 60) (h : xs.all (lay k) = true) : cmpD .NotEq (.tup xs) (.tup []) = some (!xs.isEmpty) := by
  obtain ⟨ps, e, h1, h2, h3, h4, h5⟩ := lays_py (fun d q => lay_py q) h
  have e1 : cmpD .NotEq (.tup xs) (.tup []) = (eqD (.tup xs) (.tup [])).map (!·) := by simp only [cmpD]
  have e2 : toPy (.tup xs) = some (.tuple ps) := by simp [toPy, e]
  have e3 : toPy (.tup []) = some (.tuple []) := rfl
  have sh : SeqAt.shaped (.tuple ps) = true := by
    have : PyData.depthAll ps + 1 ≤ 64 := by omega
    simp [SeqAt.shaped, PyData.canLay0, h1, PyData.depth, this]
  rw [e1]
  unfold eqD
  simp only [strEq]
  rw [e2, e3]
  simp only
  rw [if_pos (by rw [sh]; rfl)]
  cases xs with
  | nil => simp only [toPys] at e; cases e; rfl
  | cons x xs =>
    cases ps with
    | nil =>
      simp only [toPys] at e
      split at e <;> cases e
    | cons p ps => simp [PyData.eqv, PyData.eqvAll]
/-! ### draws -/
/-- the stream stands at i, and nothing else has changed -/
structure At (h : Sto) (i : Nat) (s : S3) : Prop where
  w : Wf h
  at_ : h[i]? = some (.lst (cell3 s))
theorem At.lt {h : Sto} {i : Nat} {s : S3} (a : At h i s) : i < h.length := (List.getElem?_eq_some_iff.mp a.at_).1
def stp (h : Sto) (i : Nat) (s : S3) : Sto := h.set i (.lst (cell3 s))
theorem At.stp {h : Sto} {i : Nat} {s : S3} (a : At h i s) (s' : S3) : At (stp h i s') i s' := ⟨a.w.put3 i s', List.getElem?_set_self a.lt⟩
theorem sto_upd2 {h : Sto} {i : Nat} {s s' : S3} : stp (stp h i s) i s' = stp h i s' := List.set_set ..
theorem sto_len {h : Sto} {i : Nat} {s : S3} : (stp h i s).length = h.length := List.length_set ..
section
variable {Γ : Txt} (gd : Γ "_law_draw" = some c__law_draw) (gp : Γ "_law_pick" = some c__law_pick) {h : Sto} {i : Nat} {s : S3} (a : At h i s) (n : Nat)
include gd a
theorem at_draw {t : Int} (t1 : 0 < t) (t2 : t < 1073741824) : ∃ (v : Int) (s' : S3), run Γ (n + 1) "_law_draw" [.ref i, .int t] h = .ok (.int v) (stp h i s') ∧ 0 ≤ v ∧ v < t :=
  ⟨_, _, run_drw gd n a.at_ a.w t1 t2, drw_range s t1⟩
include gp
theorem at_pick {xs : List D} (hx : xs ≠ []) (hl : xs.length < 1000) (hd : dats xs = true) : ∃ (v : D) (s' : S3), run Γ (n + 2) "_law_pick" [.ref i, .lst xs] h = .ok v (stp h i s') ∧ v ∈ xs := by
  have e := run_pick gp gd n (s := .lst xs) (.inl rfl) a.at_ a.w hx (by omega) (dats_refs hd)
  rw [drawn_nxt] at e
  refine ⟨_, _, e, ?_⟩
  have hp := List.length_pos_iff.mpr hx
  obtain ⟨h1, h2⟩ := drw_range s (t := xs.length) (by omega)
  unfold pick
  rw [List.getD_eq_getElem?_getD]
  have lt : (draw s.1 s.2.1 s.2.2 xs.length).toNat < xs.length := by
    have h2' : draw s.1 s.2.1 s.2.2 xs.length < xs.length := h2
    have h1' : 0 ≤ draw s.1 s.2.1 s.2.2 xs.length := h1
    omega
  rw [List.getElem?_eq_getElem lt]
  exact List.getElem_mem lt
end
theorem mixed_mem : ∀ (n : Nat) (s : S3) (xs : List D), xs.length = n → ∀ y ∈ (mixed n s xs).1, y ∈ xs
  | 0, _, _, _, y, h => by simp [mixed] at h
  | n + 1, s, xs, hl, y, h => by
    simp only [mixed, List.mem_cons] at h
    obtain ⟨r1, r2⟩ := drw_range s (t := xs.length) (by omega)
    have lt : (drw s xs.length).toNat < xs.length := by omega
    rcases h with rfl | h
    · rw [List.getD_eq_getElem?_getD, List.getElem?_eq_getElem lt]
      exact List.getElem_mem lt
    · have := mixed_mem n _ (xs.eraseIdx (drw s xs.length).toNat) (by rw [List.length_eraseIdx_of_lt lt]; omega) y h
      exact List.mem_of_mem_eraseIdx this
theorem mem_range {lo : Int} {n : Nat} {x : D} (h : x ∈ range lo n) : ∃ k : Nat, k < n ∧ x = .int (lo + k) := by
  unfold range at h
  obtain ⟨k, hk, rfl⟩ := List.mem_map.mp h
  exact ⟨k, List.mem_range.mp hk, rfl⟩
theorem mem_deal {t : Int} (ht : 0 < t) : ∀ {xs : List D} {s : S3}, ∀ x ∈ (deal t s xs).1, ∃ v : Int, x = .int v ∧ 0 ≤ v ∧ v < t
  | [], s, x, h => by simp [deal, comR] at h
  | y :: xs, s, x, h => by
    simp only [deal, comR, Option.toList_some, List.cons_append, List.nil_append, List.mem_cons] at h
    rcases h with rfl | h
    · exact ⟨_, rfl, drw_range s ht⟩
    · exact mem_deal ht (xs := xs) (s := nxt s t) x h
section
variable {Γ : Txt} (gd : Γ "_law_draw" = some c__law_draw) (gm : Γ "_law_mixed" = some c__law_mixed) (gr : Γ "_law_row" = some c__law_row) {h : Sto} {i : Nat} {s : S3} (a : At h i s) (n : Nat)
include gd a
include gm in
theorem at_mixed {it : D} {xs : List D} (hit : it = .lst xs ∨ it = .tup xs) (hl : xs.length < 1000) (hd : dats xs = true) : ∃ (ys : List D) (s' : S3), run Γ (n + 2) "_law_mixed" [.ref i, it] h = .ok (.lst ys) (stp h i s') ∧ ys.length = xs.length ∧ ∀ y ∈ ys, y ∈ xs :=
  ⟨_, _, run_mixed gm gd n hit a.at_ a.w (by omega) (dats_refs hd), mixed_len _ _ _, mixed_mem _ _ _ rfl⟩
include gr in
theorem at_row {k : Nat} (hk : k < 1000) : ∃ (xs : List D) (s' : S3), run Γ (n + 2) "_law_row" [.ref i, .int k] h = .ok (.tup xs) (stp h i s') ∧ xs.length = k ∧ ∀ x ∈ xs, ∃ v : Int, x = .int v ∧ 0 ≤ v ∧ v < 2 :=
  ⟨_, _, run_row gr gd n a.at_ a.w (by omega), by rw [rowOf, deal_len, range_len], mem_deal (by decide)⟩
end
end MP

set_option linter.all false
set_option maxRecDepth 100000
namespace HT
open PySem PySem.Spec PyProof.Rows L2 MP
def c_is_between : Def :=
  ⟨3, 3,
   (Ss.cons (S.ite (C.or (Cs.cons (C.blt "isinstance" (Cs.cons (C.var 2) (Cs.cons (C.typ "bool" "bool") Cs.nil))) (Cs.cons (C.not (C.blt "isinstance" (Cs.cons (C.var 2) (Cs.cons (C.typ "int" "int") Cs.nil)))) Cs.nil))) (Ss.cons (S.ret (C.bl false))
    Ss.nil) Ss.nil)
    (Ss.cons (S.ret (C.chn .LtE .LtE (C.var 0) (C.var 2) (C.var 1)))
    Ss.nil))⟩
def c_is_pair : Def :=
  ⟨1, 1,
   (Ss.cons (S.ret (C.and (Cs.cons (C.blt "isinstance" (Cs.cons (C.var 0) (Cs.cons (C.typ "tuple" "tuple") Cs.nil))) (Cs.cons (C.cmp .Eq (C.blt "len" (Cs.cons (C.var 0) Cs.nil)) (C.int 2)) Cs.nil))))
    Ss.nil)⟩
def c_is_literal : Def :=
  ⟨4, 2,
   (Ss.cons (S.ite (C.not (C.call "is_pair" (Cs.cons (C.var 1) Cs.nil))) (Ss.cons (S.ret (C.bl false))
    Ss.nil) Ss.nil)
    (Ss.cons (S.set (G.tup2 2 3) (C.var 1))
    (Ss.cons (S.ret (C.and (Cs.cons (C.call "is_between" (Cs.cons (C.int 0) (Cs.cons (C.bin .Sub (C.var 0) (C.int 1)) (Cs.cons (C.var 2) Cs.nil)))) (Cs.cons (C.call "is_between" (Cs.cons (C.int 0) (Cs.cons (C.int 1) (Cs.cons (C.var 3) Cs.nil)))) Cs.nil))))
    Ss.nil)))⟩
def c_are_literals : Def :=
  ⟨3, 2,
   (Ss.cons (S.ret (C.and (Cs.cons (C.blt "isinstance" (Cs.cons (C.var 1) (Cs.cons (C.typ "tuple" "tuple") Cs.nil))) (Cs.cons (C.blt "all" (Cs.cons (C.com [("literal", 2)] (C.call "is_literal" (Cs.cons (C.var 0) (Cs.cons (C.var 2) Cs.nil))) (G.name 2) (I.of (C.var 1)) C'.no) Cs.nil)) Cs.nil))))
    Ss.nil)⟩
def c_is_row : Def :=
  ⟨3, 2,
   (Ss.cons (S.exp (C.call "check_size" (Cs.cons (C.var 0) Cs.nil)))
    (Ss.cons (S.ite (C.or (Cs.cons (C.not (C.blt "isinstance" (Cs.cons (C.var 1) (Cs.cons (C.typ "tuple" "tuple") Cs.nil)))) (Cs.cons (C.cmp .NotEq (C.blt "len" (Cs.cons (C.var 1) Cs.nil)) (C.var 0)) Cs.nil))) (Ss.cons (S.ret (C.bl false))
    Ss.nil) Ss.nil)
    (Ss.cons (S.ret (C.blt "all" (Cs.cons (C.com [("bit", 2)] (C.call "is_between" (Cs.cons (C.int 0) (Cs.cons (C.int 1) (Cs.cons (C.var 2) Cs.nil)))) (G.name 2) (I.of (C.var 1)) C'.no) Cs.nil)))
    Ss.nil)))⟩
def c_is_partial : Def :=
  ⟨3, 2,
   (Ss.cons (S.exp (C.call "check_size" (Cs.cons (C.var 0) Cs.nil)))
    (Ss.cons (S.ret (C.and (Cs.cons (C.call "are_literals" (Cs.cons (C.var 0) (Cs.cons (C.var 1) Cs.nil))) (Cs.cons (C.call "ascend" (Cs.cons (C.com [("literal", 2)] (C.idx (C.var 2) (C.int 0)) (G.name 2) (I.of (C.var 1)) C'.no) Cs.nil)) Cs.nil))))
    Ss.nil))⟩
def c_ascend : Def :=
  ⟨3, 1,
   (Ss.cons (S.ret (C.blt "all" (Cs.cons (C.com [("low", 1), ("high", 2)] (C.cmp .Lt (C.var 1) (C.var 2)) (G.tup2 1 2) (I.zip (C.var 0) (C.slc (C.var 0) (C'.yes (C.int 1)) C'.no)) C'.no) Cs.nil)))
    Ss.nil)⟩
def c_check_between : Def :=
  ⟨3, 3,
   (Ss.cons (S.ite (C.not (C.call "is_between" (Cs.cons (C.var 0) (Cs.cons (C.var 1) (Cs.cons (C.var 2) Cs.nil))))) (Ss.cons (S.raise "InvalidNumber" (some "value") (C.var 2))
    Ss.nil) Ss.nil)
    Ss.nil)⟩
def c_check_size : Def :=
  ⟨1, 1,
   (Ss.cons (S.exp (C.call "check_between" (Cs.cons (C.int 1) (Cs.cons (C.con "MAX_KEYS" 7) (Cs.cons (C.var 0) Cs.nil)))))
    Ss.nil)⟩
def c__law_partial : Def :=
  ⟨5, 3,
   (Ss.cons (S.set (G.name 3) (C.slc (C.call "_law_mixed" (Cs.cons (C.var 0) (Cs.cons (C.lrng (C.var 1)) Cs.nil))) C'.no (C'.yes (C.call "_law_draw" (Cs.cons (C.var 0) (Cs.cons (C.bin .Add (C.var 2) (C.int 1)) Cs.nil))))))
    (Ss.cons (S.ret (C.blt "tuple" (Cs.cons (C.com [("key", 4)] (C.tup (Cs.cons (C.var 4) (Cs.cons (C.call "_law_draw" (Cs.cons (C.var 0) (Cs.cons (C.int 2) Cs.nil))) Cs.nil))) (G.name 4) (I.of (C.blt "sorted" (Cs.cons (C.var 3) Cs.nil))) C'.no) Cs.nil)))
    Ss.nil))⟩
def c__law_odd : Def :=
  ⟨2, 1,
   (Ss.cons (S.set (G.name 1) (C.lst (Cs.cons C.non (Cs.cons (C.bl true) (Cs.cons (C.bl false) (Cs.cons (C.neg (C.int 1)) (Cs.cons (C.int 0) (Cs.cons (C.int 1) (Cs.cons (C.int 2) (Cs.cons (C.int 8) (Cs.cons (C.bin .Pow (C.int 10) (C.int 39)) (Cs.cons (C.str "") (Cs.cons (C.str "a") (Cs.cons (C.str "0") (Cs.cons (C.str "01") (Cs.cons (C.str "none") (Cs.cons (C.tup Cs.nil) (Cs.cons (C.tup (Cs.cons (C.int 0) Cs.nil)) (Cs.cons (C.tup (Cs.cons (C.int 0) (Cs.cons (C.int 1) Cs.nil))) (Cs.cons (C.tup (Cs.cons (C.int 1) (Cs.cons (C.int 1) (Cs.cons (C.int 0) Cs.nil)))) (Cs.cons (C.lst Cs.nil) Cs.nil)))))))))))))))))))))
    (Ss.cons (S.set (G.name 1) (C.bin .Add (C.var 1) (C.lst (Cs.cons (C.lst (Cs.cons (C.int 0) (Cs.cons (C.int 1) Cs.nil))) (Cs.cons (C.dic []) (Cs.cons (C.dic [(0, 1)]) (Cs.cons (C.tup (Cs.cons C.non Cs.nil)) (Cs.cons (C.tup (Cs.cons (C.tup Cs.nil) Cs.nil)) (Cs.cons (C.tup (Cs.cons (C.tup (Cs.cons (C.int 0) (Cs.cons (C.int 1) Cs.nil))) Cs.nil)) (Cs.cons (C.tup (Cs.cons (C.tup (Cs.cons (C.int 0) (Cs.cons (C.int 0) Cs.nil))) (Cs.cons (C.tup (Cs.cons (C.int 1) (Cs.cons (C.int 1) Cs.nil))) Cs.nil))) (Cs.cons (C.tup (Cs.cons (C.int 2) (Cs.cons (C.tup (Cs.cons (C.tup (Cs.cons (C.int 0) (Cs.cons (C.int 0) Cs.nil))) (Cs.cons (C.tup (Cs.cons (C.int 1) (Cs.cons (C.int 1) Cs.nil))) Cs.nil))) Cs.nil))) Cs.nil)))))))))))
    (Ss.cons (S.set (G.name 1) (C.bin .Add (C.var 1) (C.lst (Cs.cons (C.tup (Cs.cons (C.tup (Cs.cons (C.int 0) (Cs.cons (C.int 1) Cs.nil))) (Cs.cons (C.int 1) Cs.nil))) (Cs.cons (C.tup (Cs.cons (C.int 1) (Cs.cons (C.int 2) Cs.nil))) Cs.nil)))))
    (Ss.cons (S.ret (C.call "_law_pick" (Cs.cons (C.var 0) (Cs.cons (C.var 1) Cs.nil))))
    Ss.nil))))⟩
def c__law_bent : Def :=
  ⟨5, 3,
   (Ss.cons (S.ite (C.and (Cs.cons (C.blt "isinstance" (Cs.cons (C.var 1) (Cs.cons (C.typ "tuple" "tuple") Cs.nil))) (Cs.cons (C.cmp .NotEq (C.var 1) (C.tup Cs.nil)) (Cs.cons (C.cmp .Gt (C.var 2) (C.int 0)) (Cs.cons (C.cmp .Gt (C.call "_law_draw" (Cs.cons (C.var 0) (Cs.cons (C.int 4) Cs.nil))) (C.int 0)) Cs.nil))))) (Ss.cons (S.set (G.name 3) (C.call "_law_draw" (Cs.cons (C.var 0) (Cs.cons (C.blt "len" (Cs.cons (C.var 1) Cs.nil)) Cs.nil))))
    (Ss.cons (S.ret (C.bin .Add (C.bin .Add (C.slc (C.var 1) C'.no (C'.yes (C.var 3))) (C.tup (Cs.cons (C.call "_law_bent" (Cs.cons (C.var 0) (Cs.cons (C.idx (C.var 1) (C.var 3)) (Cs.cons (C.bin .Sub (C.var 2) (C.int 1)) Cs.nil)))) Cs.nil))) (C.slc (C.var 1) (C'.yes (C.bin .Add (C.var 3) (C.int 1))) C'.no)))
    Ss.nil)) Ss.nil)
    (Ss.cons (S.ite (C.blt "isinstance" (Cs.cons (C.var 1) (Cs.cons (C.typ "tuple" "tuple") Cs.nil))) (Ss.cons (S.set (G.name 3) (C.call "_law_draw" (Cs.cons (C.var 0) (Cs.cons (C.bin .Add (C.blt "len" (Cs.cons (C.var 1) Cs.nil)) (C.int 1)) Cs.nil))))
    (Ss.cons (S.set (G.name 4) (C.lst (Cs.cons (C.blt "list" (Cs.cons (C.var 1) Cs.nil)) (Cs.cons (C.bin .Add (C.slc (C.var 1) C'.no (C'.yes (C.var 3))) (C.slc (C.var 1) (C'.yes (C.bin .Add (C.var 3) (C.int 1))) C'.no)) (Cs.cons (C.bin .Add (C.bin .Add (C.slc (C.var 1) C'.no (C'.yes (C.var 3))) (C.tup (Cs.cons (C.int 0) Cs.nil))) (C.slc (C.var 1) (C'.yes (C.var 3)) C'.no)) (Cs.cons (C.rev (C.var 1)) (Cs.cons (C.tup (Cs.cons (C.var 1) Cs.nil)) (Cs.cons (C.tup Cs.nil) Cs.nil))))))))
    (Ss.cons (S.ret (C.call "_law_pick" (Cs.cons (C.var 0) (Cs.cons (C.bin .Add (C.var 4) (C.lst (Cs.cons (C.bin .Add (C.var 1) (C.slc (C.var 1) (C'.yes (C.neg (C.int 1))) C'.no)) (Cs.cons (C.bin .Add (C.bin .Add (C.slc (C.var 1) C'.no (C'.yes (C.var 3))) (C.slc (C.var 1) (C'.yes (C.var 3)) (C'.yes (C.bin .Add (C.var 3) (C.int 1))))) (C.slc (C.var 1) (C'.yes (C.var 3)) C'.no)) Cs.nil)))) Cs.nil))))
    Ss.nil))) Ss.nil)
    (Ss.cons (S.ite (C.and (Cs.cons (C.blt "isinstance" (Cs.cons (C.var 1) (Cs.cons (C.typ "int" "int") Cs.nil))) (Cs.cons (C.not (C.blt "isinstance" (Cs.cons (C.var 1) (Cs.cons (C.typ "bool" "bool") Cs.nil)))) Cs.nil))) (Ss.cons (S.ret (C.call "_law_pick" (Cs.cons (C.var 0) (Cs.cons (C.lst (Cs.cons (C.bin .Add (C.var 1) (C.int 1)) (Cs.cons (C.bin .Sub (C.var 1) (C.int 1)) (Cs.cons (C.bin .Sub (C.int 1) (C.var 1)) (Cs.cons (C.blt "str" (Cs.cons (C.var 1) Cs.nil)) (Cs.cons (C.cmp .Eq (C.var 1) (C.int 1)) (Cs.cons (C.tup (Cs.cons (C.var 1) Cs.nil)) (Cs.cons C.non (Cs.cons (C.int 7) Cs.nil))))))))) Cs.nil))))
    Ss.nil) Ss.nil)
    (Ss.cons (S.ret (C.call "_law_odd" (Cs.cons (C.var 0) Cs.nil)))
    Ss.nil))))⟩
def c__law_is_whole : Def :=
  ⟨2, 2,
   (Ss.cons (S.ret (C.and (Cs.cons (C.blt "isinstance" (Cs.cons (C.var 0) (Cs.cons (C.typ "int" "int") Cs.nil))) (Cs.cons (C.not (C.blt "isinstance" (Cs.cons (C.var 0) (Cs.cons (C.typ "bool" "bool") Cs.nil)))) (Cs.cons (C.chn .LtE .LtE (C.int 0) (C.var 0) (C.var 1)) Cs.nil)))))
    Ss.nil)⟩
def c__law_is_row : Def :=
  ⟨3, 2,
   (Ss.cons (S.ite (C.or (Cs.cons (C.not (C.blt "isinstance" (Cs.cons (C.var 1) (Cs.cons (C.typ "tuple" "tuple") Cs.nil)))) (Cs.cons (C.cmp .NotEq (C.blt "len" (Cs.cons (C.var 1) Cs.nil)) (C.var 0)) Cs.nil))) (Ss.cons (S.ret (C.bl false))
    Ss.nil) Ss.nil)
    (Ss.cons (S.ret (C.cmp .Eq (C.com [("bit", 2)] (C.int 1) (G.name 2) (I.of (C.var 1)) (C'.yes (C.not (C.call "_law_is_whole" (Cs.cons (C.var 2) (Cs.cons (C.int 1) Cs.nil)))))) (C.lst Cs.nil)))
    Ss.nil))⟩
def c__law_is_partial : Def :=
  ⟨4, 2,
   (Ss.cons (S.ite (C.not (C.blt "isinstance" (Cs.cons (C.var 1) (Cs.cons (C.typ "tuple" "tuple") Cs.nil)))) (Ss.cons (S.ret (C.bl false))
    Ss.nil) Ss.nil)
    (Ss.cons (S.set (G.name 2) (C.neg (C.int 1)))
    (Ss.cons (S.for_ (G.name 3) (I.of (C.var 1)) (Ss.cons (S.ite (C.or (Cs.cons (C.not (C.blt "isinstance" (Cs.cons (C.var 3) (Cs.cons (C.typ "tuple" "tuple") Cs.nil)))) (Cs.cons (C.cmp .NotEq (C.blt "len" (Cs.cons (C.var 3) Cs.nil)) (C.int 2)) Cs.nil))) (Ss.cons (S.ret (C.bl false))
    Ss.nil) Ss.nil)
    (Ss.cons (S.ite (C.or (Cs.cons (C.not (C.call "_law_is_whole" (Cs.cons (C.idx (C.var 3) (C.int 0)) (Cs.cons (C.bin .Sub (C.var 0) (C.int 1)) Cs.nil)))) (Cs.cons (C.not (C.call "_law_is_whole" (Cs.cons (C.idx (C.var 3) (C.int 1)) (Cs.cons (C.int 1) Cs.nil)))) (Cs.cons (C.cmp .LtE (C.idx (C.var 3) (C.int 0)) (C.var 2)) Cs.nil)))) (Ss.cons (S.ret (C.bl false))
    Ss.nil) Ss.nil)
    (Ss.cons (S.set (G.name 2) (C.idx (C.var 3) (C.int 0)))
    Ss.nil))))
    (Ss.cons (S.ret (C.bl true))
    Ss.nil))))⟩
def c__law_judged_right : Def :=
  ⟨4, 2,
   (Ss.cons (S.set (G.name 2) (C.blt "repr" (Cs.cons (C.var 1) Cs.nil)))
    (Ss.cons (S.set (G.name 3) (C.lst (Cs.cons (C.call "is_row" (Cs.cons (C.var 0) (Cs.cons (C.var 1) Cs.nil))) (Cs.cons (C.call "is_partial" (Cs.cons (C.var 0) (Cs.cons (C.var 1) Cs.nil))) Cs.nil))))
    (Ss.cons (S.ret (C.and (Cs.cons (C.cmp .Eq (C.blt "repr" (Cs.cons (C.var 3) Cs.nil)) (C.blt "repr" (Cs.cons (C.lst (Cs.cons (C.call "_law_is_row" (Cs.cons (C.var 0) (Cs.cons (C.var 1) Cs.nil))) (Cs.cons (C.call "_law_is_partial" (Cs.cons (C.var 0) (Cs.cons (C.var 1) Cs.nil))) Cs.nil))) Cs.nil))) (Cs.cons (C.cmp .Eq (C.blt "repr" (Cs.cons (C.var 1) Cs.nil)) (C.var 2)) Cs.nil))))
    Ss.nil)))⟩
def c__law_refused : Def :=
  ⟨2, 1,
   (Ss.cons (S.try_ (Ss.cons (S.exp (C.act 0))
    Ss.nil) (Hds.cons "InvalidNumber" (some 1) (Ss.cons (S.ret (C.lst (Cs.cons (C.xf (C.var 1) "value") Cs.nil))) Ss.nil) Hds.nil))
    (Ss.cons (S.ret (C.str "returned"))
    Ss.nil))⟩
def c__law_values : Def :=
  ⟨8, 2,
   (Ss.cons (S.par 2 3 (C.call "_law_row" (Cs.cons (C.var 0) (Cs.cons (C.var 1) Cs.nil))) (C.call "_law_partial" (Cs.cons (C.var 0) (Cs.cons (C.var 1) (Cs.cons (C.var 1) Cs.nil)))))
    (Ss.cons (S.set (G.name 4) (C.lst (Cs.cons (C.var 2) (Cs.cons (C.var 3) (Cs.cons (C.bin .Add (C.var 2) (C.tup (Cs.cons (C.int 0) Cs.nil))) (Cs.cons (C.slc (C.var 2) (C'.yes (C.int 1)) C'.no) (Cs.cons (C.blt "list" (Cs.cons (C.var 2) Cs.nil)) (Cs.cons (C.blt "tuple" (Cs.cons (C.com [("bit", 6)] (C.cmp .Eq (C.var 6) (C.int 1)) (G.name 6) (I.of (C.var 2)) C'.no) Cs.nil)) (Cs.cons (C.rev (C.var 3)) (Cs.cons (C.tup (Cs.cons (C.var 3) Cs.nil)) Cs.nil))))))))))
    (Ss.cons (S.set (G.name 4) (C.bin .Add (C.var 4) (C.lst (Cs.cons (C.bin .Add (C.var 3) (C.slc (C.var 3) (C'.yes (C.neg (C.int 1))) C'.no)) (Cs.cons (C.bin .Add (C.var 3) (C.tup (Cs.cons (C.tup (Cs.cons (C.var 1) (Cs.cons (C.int 0) Cs.nil))) Cs.nil))) (Cs.cons (C.bin .Add (C.var 3) (C.tup (Cs.cons (C.tup (Cs.cons (C.bin .Sub (C.var 1) (C.int 1)) (Cs.cons (C.int 2) Cs.nil))) Cs.nil))) (Cs.cons (C.blt "list" (Cs.cons (C.var 3) Cs.nil)) Cs.nil)))))))
    (Ss.cons (S.set (G.name 4) (C.bin .Add (C.var 4) (C.lst (Cs.cons (C.blt "tuple" (Cs.cons (C.com [("literal", 7)] (C.blt "list" (Cs.cons (C.var 7) Cs.nil)) (G.name 7) (I.of (C.var 3)) C'.no) Cs.nil)) (Cs.cons (C.tup (Cs.cons (C.tup (Cs.cons (C.int 0) (Cs.cons (C.bl true) Cs.nil))) Cs.nil)) (Cs.cons (C.tup (Cs.cons (C.tup (Cs.cons (C.bl false) (Cs.cons (C.int 1) Cs.nil))) Cs.nil)) (Cs.cons (C.tup (Cs.cons (C.tup (Cs.cons (C.neg (C.int 1)) (Cs.cons (C.int 0) Cs.nil))) Cs.nil)) (Cs.cons (C.tup Cs.nil) Cs.nil))))))))
    (Ss.cons (S.for_ (G.name 5) (I.rng1 (C.int 4)) (Ss.cons (S.set (G.name 4) (C.bin .Add (C.var 4) (C.lst (Cs.cons (C.call "_law_bent" (Cs.cons (C.var 0) (Cs.cons (C.var 2) (Cs.cons (C.int 2) Cs.nil)))) (Cs.cons (C.call "_law_bent" (Cs.cons (C.var 0) (Cs.cons (C.var 3) (Cs.cons (C.int 3) Cs.nil)))) (Cs.cons (C.call "_law_odd" (Cs.cons (C.var 0) Cs.nil)) Cs.nil))))))
    Ss.nil))
    (Ss.cons (S.ret (C.var 4))
    Ss.nil))))))⟩
def c_law : Def :=
  ⟨7, 1,
   (Ss.cons (S.ite (C.cmp .NotEq (C.con "MAX_KEYS" 7) (C.int 7)) (Ss.cons (S.ret (C.bl false))
    Ss.nil) Ss.nil)
    (Ss.cons (S.for_ (G.name 1) (I.rng1 (C.blt "max" (Cs.cons (C.int 1) (Cs.cons (C.blt "min" (Cs.cons (C.int 12) (Cs.cons (C.blt "len" (Cs.cons (C.var 0) Cs.nil)) Cs.nil))) Cs.nil)))) (Ss.cons (S.set (G.name 3) (C.call "_law_stream" (Cs.cons (C.var 0) (Cs.cons (C.var 1) Cs.nil))))
    (Ss.cons (S.set (G.name 4) (C.bin .Add (C.int 1) (C.call "_law_draw" (Cs.cons (C.var 3) (Cs.cons (C.int 7) Cs.nil)))))
    (Ss.cons (S.for_ (G.name 5) (I.of (C.call "_law_values" (Cs.cons (C.var 3) (Cs.cons (C.var 4) Cs.nil)))) (Ss.cons (S.ite (C.not (C.call "_law_judged_right" (Cs.cons (C.var 4) (Cs.cons (C.var 5) Cs.nil)))) (Ss.cons (S.ret (C.bl false))
    Ss.nil) Ss.nil)
    Ss.nil))
    (Ss.cons (S.set (G.name 6) (C.call "_law_pick" (Cs.cons (C.var 3) (Cs.cons (C.lst (Cs.cons (C.int 0) (Cs.cons (C.int 8) (Cs.cons (C.neg (C.int 1)) (Cs.cons C.non (Cs.cons (C.bl true) (Cs.cons (C.str "3") (Cs.cons (C.tup (Cs.cons (C.int 3) Cs.nil)) (Cs.cons (C.bin .Pow (C.int 10) (C.int 39)) (Cs.cons (C.lst Cs.nil) (Cs.cons (C.dic []) (Cs.cons (C.bl false) Cs.nil)))))))))))) Cs.nil))))
    (Ss.cons (S.set (G.name 5) (C.call "_law_odd" (Cs.cons (C.var 3) Cs.nil)))
    (Ss.cons (S.ite (C.cmp .NotEq (C.lamc "_law_refused" (C.call "is_row" (Cs.cons (C.var 6) (Cs.cons (C.var 5) Cs.nil)))) (C.lst (Cs.cons (C.var 6) Cs.nil))) (Ss.cons (S.ret (C.bl false))
    Ss.nil) Ss.nil)
    (Ss.cons (S.ite (C.cmp .NotEq (C.lamc "_law_refused" (C.call "is_partial" (Cs.cons (C.var 6) (Cs.cons (C.var 5) Cs.nil)))) (C.lst (Cs.cons (C.var 6) Cs.nil))) (Ss.cons (S.ret (C.bl false))
    Ss.nil) Ss.nil)
    Ss.nil))))))))
    (Ss.cons (S.set (G.name 2) (C.lst (Cs.cons (C.call "is_row" (Cs.cons (C.int 7) (Cs.cons (C.bin .Mult (C.tup (Cs.cons (C.int 0) Cs.nil)) (C.int 7)) Cs.nil))) (Cs.cons (C.call "is_row" (Cs.cons (C.int 7) (Cs.cons (C.bin .Mult (C.tup (Cs.cons (C.int 0) Cs.nil)) (C.int 8)) Cs.nil))) (Cs.cons (C.call "is_row" (Cs.cons (C.int 1) (Cs.cons (C.tup (Cs.cons (C.int 1) Cs.nil)) Cs.nil))) (Cs.cons (C.call "is_row" (Cs.cons (C.int 1) (Cs.cons (C.int 1) Cs.nil))) (Cs.cons (C.call "is_row" (Cs.cons (C.int 2) (Cs.cons (C.str "01") Cs.nil))) Cs.nil)))))))
    (Ss.cons (S.set (G.name 2) (C.bin .Add (C.var 2) (C.lst (Cs.cons (C.call "is_partial" (Cs.cons (C.int 1) (Cs.cons (C.tup Cs.nil) Cs.nil))) (Cs.cons (C.call "is_partial" (Cs.cons (C.int 2) (Cs.cons (C.tup (Cs.cons (C.tup (Cs.cons (C.int 0) (Cs.cons (C.int 1) Cs.nil))) (Cs.cons (C.tup (Cs.cons (C.int 0) (Cs.cons (C.int 0) Cs.nil))) Cs.nil))) Cs.nil))) (Cs.cons (C.call "is_partial" (Cs.cons (C.int 2) (Cs.cons (C.tup (Cs.cons (C.tup (Cs.cons (C.int 0) (Cs.cons (C.int 0) Cs.nil))) (Cs.cons (C.tup (Cs.cons (C.int 1) (Cs.cons (C.int 1) Cs.nil))) Cs.nil))) Cs.nil))) Cs.nil))))))
    (Ss.cons (S.ret (C.cmp .Eq (C.var 2) (C.lst (Cs.cons (C.bl true) (Cs.cons (C.bl false) (Cs.cons (C.bl true) (Cs.cons (C.bl false) (Cs.cons (C.bl false) (Cs.cons (C.bl true) (Cs.cons (C.bl false) (Cs.cons (C.bl true) Cs.nil)))))))))))
    Ss.nil)))))⟩
def tab : List (Str × Def) := [("is_between", c_is_between), ("is_pair", c_is_pair), ("is_literal", c_is_literal), ("are_literals", c_are_literals), ("is_row", c_is_row), ("is_partial", c_is_partial), ("ascend", c_ascend), ("check_between", c_check_between), ("check_size", c_check_size), ("_law_stream", c__law_stream), ("_law_draw", c__law_draw), ("_law_pick", c__law_pick), ("_law_mixed", c__law_mixed), ("_law_row", c__law_row), ("_law_partial", c__law_partial), ("_law_odd", c__law_odd), ("_law_bent", c__law_bent), ("_law_is_whole", c__law_is_whole), ("_law_is_row", c__law_is_row), ("_law_is_partial", c__law_is_partial), ("_law_judged_right", c__law_judged_right), ("_law_refused", c__law_refused), ("_law_values", c__law_values), ("law", c_law)]
def it : List ((Str × Str) × Bool) := [(("InvalidNumber", "InvalidNumber"), true)]
def ft : List (Str × Str) := [("InvalidNumber", "value")]
def Γ : Txt := ⟨fun f => tab.lookup f, fun c c' => it.lookup (c, c'), fun c f => ft.contains (c, f)⟩
theorem g_is_between : Γ "is_between" = some c_is_between := by rfl
theorem g_is_pair : Γ "is_pair" = some c_is_pair := by rfl
theorem g_is_literal : Γ "is_literal" = some c_is_literal := by rfl
theorem g_are_literals : Γ "are_literals" = some c_are_literals := by rfl
theorem g_is_row : Γ "is_row" = some c_is_row := by rfl
theorem g_is_partial : Γ "is_partial" = some c_is_partial := by rfl
theorem g_ascend : Γ "ascend" = some c_ascend := by rfl
theorem g_check_between : Γ "check_between" = some c_check_between := by rfl
theorem g_check_size : Γ "check_size" = some c_check_size := by rfl
theorem g__law_stream : Γ "_law_stream" = some c__law_stream := by rfl
theorem g__law_draw : Γ "_law_draw" = some c__law_draw := by rfl
theorem g__law_pick : Γ "_law_pick" = some c__law_pick := by rfl
theorem g__law_mixed : Γ "_law_mixed" = some c__law_mixed := by rfl
theorem g__law_row : Γ "_law_row" = some c__law_row := by rfl
theorem g__law_partial : Γ "_law_partial" = some c__law_partial := by rfl
theorem g__law_odd : Γ "_law_odd" = some c__law_odd := by rfl
theorem g__law_bent : Γ "_law_bent" = some c__law_bent := by rfl
theorem g__law_is_whole : Γ "_law_is_whole" = some c__law_is_whole := by rfl
theorem g__law_is_row : Γ "_law_is_row" = some c__law_is_row := by rfl
theorem g__law_is_partial : Γ "_law_is_partial" = some c__law_is_partial := by rfl
theorem g__law_judged_right : Γ "_law_judged_right" = some c__law_judged_right := by rfl
theorem g__law_refused : Γ "_law_refused" = some c__law_refused := by rfl
theorem g__law_values : Γ "_law_values" = some c__law_values := by rfl
theorem g_law : Γ "law" = some c_law := by rfl
end HT

set_option autoImplicit false
set_option linter.all false
set_option maxRecDepth 100000
set_option maxHeartbeats 4000000
namespace HT
open PySem PySem.Spec PyProof.Rows L2 MP
/-! ### the program's part -/
def isB (lo hi : Int) : D → Bool
  | .int i => decide (lo ≤ i) && decide (i ≤ hi)
  | _ => false
theorem at0' {x : D} {xs : List D} : atI (x :: xs) 0 = some x := by simp [atI, ixN]
theorem at1' {x y : D} {xs : List D} : atI (x :: y :: xs) 1 = some y := by
  have : (1 : Int) < (xs.length : Int) + 1 + 1 := by omega
  simp [atI, ixN, this]
variable {h : Sto} (w : Wf h) (n : Nat)
include w
theorem run_between {lo hi : Int} {d : D} (q : dat d = true) : MP.run Γ (n + 1) "is_between" [.int lo, .int hi, d] h = .ok (.bl (isB lo hi d)) h := by
  obtain ⟨t, ht⟩ := dat_ty q
  have b := bl_isi (c := "bool") ht
  have i := bl_isi (c := "int") ht
  refine run_of (g_is_between) rfl (by decide) ?_ (leave_bl w)
  cases d with
  | int v =>
    cases ht
    simp only [evSs, evS, ev, tst, evs, evO, evAnd, evOr, MP.tAnd, MP.tOr, tstO, R.bind_ok, R.bind_exc, R.bindF_ok, R.bindF_exc, R.of_some, R.of_none, deref_int, deref_bl, deref_str, deref_non, deref_tup, deref_lst, deref_scr, deref_ty, deref_dct, binD_add, binD_sub, cmpD_lt, cmpD_le, cmpD_gt, cmpD_ge, cmpD_eqi, cmpD_nei, idxD_lst, idxD_tup, idxD_scr, put_name, List.getElem?_cons_zero, List.getElem?_cons_succ, List.set_cons_zero, List.set_cons_succ, List.map_cons, List.map_nil, Option.map_some, Option.bind_some, List.cons_append, List.nil_append, List.replicate, startE, List.length_cons, List.length_nil, Nat.sub_self, Nat.reduceSub, Nat.reduceAdd, truD, if_true, if_false, Bool.not_true, Bool.not_false, Bool.false_eq_true, run_noact, Nat.zero_le, c_is_between, b, i, isIsi]
    by_cases c : lo ≤ v <;> simp [c, isB]
  | bl v => cases ht; simp only [evSs, evS, ev, tst, evs, evO, evAnd, evOr, MP.tAnd, MP.tOr, tstO, R.bind_ok, R.bind_exc, R.bindF_ok, R.bindF_exc, R.of_some, R.of_none, deref_int, deref_bl, deref_str, deref_non, deref_tup, deref_lst, deref_scr, deref_ty, deref_dct, binD_add, binD_sub, cmpD_lt, cmpD_le, cmpD_gt, cmpD_ge, cmpD_eqi, cmpD_nei, idxD_lst, idxD_tup, idxD_scr, put_name, List.getElem?_cons_zero, List.getElem?_cons_succ, List.set_cons_zero, List.set_cons_succ, List.map_cons, List.map_nil, Option.map_some, Option.bind_some, List.cons_append, List.nil_append, List.replicate, startE, List.length_cons, List.length_nil, Nat.sub_self, Nat.reduceSub, Nat.reduceAdd, truD, if_true, if_false, Bool.not_true, Bool.not_false, Bool.false_eq_true, run_noact, Nat.zero_le, c_is_between, b, i, isIsi]; rfl
  | non => cases ht; simp only [evSs, evS, ev, tst, evs, evO, evAnd, evOr, MP.tAnd, MP.tOr, tstO, R.bind_ok, R.bind_exc, R.bindF_ok, R.bindF_exc, R.of_some, R.of_none, deref_int, deref_bl, deref_str, deref_non, deref_tup, deref_lst, deref_scr, deref_ty, deref_dct, binD_add, binD_sub, cmpD_lt, cmpD_le, cmpD_gt, cmpD_ge, cmpD_eqi, cmpD_nei, idxD_lst, idxD_tup, idxD_scr, put_name, List.getElem?_cons_zero, List.getElem?_cons_succ, List.set_cons_zero, List.set_cons_succ, List.map_cons, List.map_nil, Option.map_some, Option.bind_some, List.cons_append, List.nil_append, List.replicate, startE, List.length_cons, List.length_nil, Nat.sub_self, Nat.reduceSub, Nat.reduceAdd, truD, if_true, if_false, Bool.not_true, Bool.not_false, Bool.false_eq_true, run_noact, Nat.zero_le, c_is_between, b, i, isIsi]; rfl
  | str v => cases ht; simp only [evSs, evS, ev, tst, evs, evO, evAnd, evOr, MP.tAnd, MP.tOr, tstO, R.bind_ok, R.bind_exc, R.bindF_ok, R.bindF_exc, R.of_some, R.of_none, deref_int, deref_bl, deref_str, deref_non, deref_tup, deref_lst, deref_scr, deref_ty, deref_dct, binD_add, binD_sub, cmpD_lt, cmpD_le, cmpD_gt, cmpD_ge, cmpD_eqi, cmpD_nei, idxD_lst, idxD_tup, idxD_scr, put_name, List.getElem?_cons_zero, List.getElem?_cons_succ, List.set_cons_zero, List.set_cons_succ, List.map_cons, List.map_nil, Option.map_some, Option.bind_some, List.cons_append, List.nil_append, List.replicate, startE, List.length_cons, List.length_nil, Nat.sub_self, Nat.reduceSub, Nat.reduceAdd, truD, if_true, if_false, Bool.not_true, Bool.not_false, Bool.false_eq_true, run_noact, Nat.zero_le, c_is_between, b, i, isIsi]; rfl
  | tup v => cases ht; simp only [evSs, evS, ev, tst, evs, evO, evAnd, evOr, MP.tAnd, MP.tOr, tstO, R.bind_ok, R.bind_exc, R.bindF_ok, R.bindF_exc, R.of_some, R.of_none, deref_int, deref_bl, deref_str, deref_non, deref_tup, deref_lst, deref_scr, deref_ty, deref_dct, binD_add, binD_sub, cmpD_lt, cmpD_le, cmpD_gt, cmpD_ge, cmpD_eqi, cmpD_nei, idxD_lst, idxD_tup, idxD_scr, put_name, List.getElem?_cons_zero, List.getElem?_cons_succ, List.set_cons_zero, List.set_cons_succ, List.map_cons, List.map_nil, Option.map_some, Option.bind_some, List.cons_append, List.nil_append, List.replicate, startE, List.length_cons, List.length_nil, Nat.sub_self, Nat.reduceSub, Nat.reduceAdd, truD, if_true, if_false, Bool.not_true, Bool.not_false, Bool.false_eq_true, run_noact, Nat.zero_le, c_is_between, b, i, isIsi]; rfl
  | lst v => cases ht; simp only [evSs, evS, ev, tst, evs, evO, evAnd, evOr, MP.tAnd, MP.tOr, tstO, R.bind_ok, R.bind_exc, R.bindF_ok, R.bindF_exc, R.of_some, R.of_none, deref_int, deref_bl, deref_str, deref_non, deref_tup, deref_lst, deref_scr, deref_ty, deref_dct, binD_add, binD_sub, cmpD_lt, cmpD_le, cmpD_gt, cmpD_ge, cmpD_eqi, cmpD_nei, idxD_lst, idxD_tup, idxD_scr, put_name, List.getElem?_cons_zero, List.getElem?_cons_succ, List.set_cons_zero, List.set_cons_succ, List.map_cons, List.map_nil, Option.map_some, Option.bind_some, List.cons_append, List.nil_append, List.replicate, startE, List.length_cons, List.length_nil, Nat.sub_self, Nat.reduceSub, Nat.reduceAdd, truD, if_true, if_false, Bool.not_true, Bool.not_false, Bool.false_eq_true, run_noact, Nat.zero_le, c_is_between, b, i, isIsi]; rfl
  | dct v => cases ht; simp only [evSs, evS, ev, tst, evs, evO, evAnd, evOr, MP.tAnd, MP.tOr, tstO, R.bind_ok, R.bind_exc, R.bindF_ok, R.bindF_exc, R.of_some, R.of_none, deref_int, deref_bl, deref_str, deref_non, deref_tup, deref_lst, deref_scr, deref_ty, deref_dct, binD_add, binD_sub, cmpD_lt, cmpD_le, cmpD_gt, cmpD_ge, cmpD_eqi, cmpD_nei, idxD_lst, idxD_tup, idxD_scr, put_name, List.getElem?_cons_zero, List.getElem?_cons_succ, List.set_cons_zero, List.set_cons_succ, List.map_cons, List.map_nil, Option.map_some, Option.bind_some, List.cons_append, List.nil_append, List.replicate, startE, List.length_cons, List.length_nil, Nat.sub_self, Nat.reduceSub, Nat.reduceAdd, truD, if_true, if_false, Bool.not_true, Bool.not_false, Bool.false_eq_true, run_noact, Nat.zero_le, c_is_between, b, i, isIsi]; rfl
  | _ => cases ht
def isPr : D → Bool
  | .tup xs => decide (xs.length = 2)
  | _ => false
theorem run_pair {d : D} (q : dat d = true) : MP.run Γ (n + 1) "is_pair" [d] h = .ok (.bl (isPr d)) h := by
  obtain ⟨t, ht⟩ := dat_ty q
  have b := bl_isi (c := "tuple") ht
  refine run_of (g_is_pair) rfl (by decide) ?_ (leave_bl w)
  cases d with
  | tup v =>
    cases ht
    simp only [evSs, evS, ev, tst, evs, evO, evAnd, evOr, MP.tAnd, MP.tOr, tstO, R.bind_ok, R.bind_exc, R.bindF_ok, R.bindF_exc, R.of_some, R.of_none, deref_int, deref_bl, deref_str, deref_non, deref_tup, deref_lst, deref_scr, deref_ty, deref_dct, binD_add, binD_sub, cmpD_lt, cmpD_le, cmpD_gt, cmpD_ge, cmpD_eqi, cmpD_nei, idxD_lst, idxD_tup, idxD_scr, put_name, List.getElem?_cons_zero, List.getElem?_cons_succ, List.set_cons_zero, List.set_cons_succ, List.map_cons, List.map_nil, Option.map_some, Option.bind_some, List.cons_append, List.nil_append, List.replicate, startE, List.length_cons, List.length_nil, Nat.sub_self, Nat.reduceSub, Nat.reduceAdd, truD, if_true, if_false, Bool.not_true, Bool.not_false, Bool.false_eq_true, run_noact, Nat.zero_le, c_is_pair, b, isIsi, bl_len_tup, isPr]
    by_cases c : v.length = 2
    · simp [c]
    · have : ¬ (v.length : Int) = 2 := by omega
      simp [c, this]
  | int v => cases ht; simp only [evSs, evS, ev, tst, evs, evO, evAnd, evOr, MP.tAnd, MP.tOr, tstO, R.bind_ok, R.bind_exc, R.bindF_ok, R.bindF_exc, R.of_some, R.of_none, deref_int, deref_bl, deref_str, deref_non, deref_tup, deref_lst, deref_scr, deref_ty, deref_dct, binD_add, binD_sub, cmpD_lt, cmpD_le, cmpD_gt, cmpD_ge, cmpD_eqi, cmpD_nei, idxD_lst, idxD_tup, idxD_scr, put_name, List.getElem?_cons_zero, List.getElem?_cons_succ, List.set_cons_zero, List.set_cons_succ, List.map_cons, List.map_nil, Option.map_some, Option.bind_some, List.cons_append, List.nil_append, List.replicate, startE, List.length_cons, List.length_nil, Nat.sub_self, Nat.reduceSub, Nat.reduceAdd, truD, if_true, if_false, Bool.not_true, Bool.not_false, Bool.false_eq_true, run_noact, Nat.zero_le, c_is_pair, b, isIsi]; rfl
  | bl v => cases ht; simp only [evSs, evS, ev, tst, evs, evO, evAnd, evOr, MP.tAnd, MP.tOr, tstO, R.bind_ok, R.bind_exc, R.bindF_ok, R.bindF_exc, R.of_some, R.of_none, deref_int, deref_bl, deref_str, deref_non, deref_tup, deref_lst, deref_scr, deref_ty, deref_dct, binD_add, binD_sub, cmpD_lt, cmpD_le, cmpD_gt, cmpD_ge, cmpD_eqi, cmpD_nei, idxD_lst, idxD_tup, idxD_scr, put_name, List.getElem?_cons_zero, List.getElem?_cons_succ, List.set_cons_zero, List.set_cons_succ, List.map_cons, List.map_nil, Option.map_some, Option.bind_some, List.cons_append, List.nil_append, List.replicate, startE, List.length_cons, List.length_nil, Nat.sub_self, Nat.reduceSub, Nat.reduceAdd, truD, if_true, if_false, Bool.not_true, Bool.not_false, Bool.false_eq_true, run_noact, Nat.zero_le, c_is_pair, b, isIsi]; rfl
  | non => cases ht; simp only [evSs, evS, ev, tst, evs, evO, evAnd, evOr, MP.tAnd, MP.tOr, tstO, R.bind_ok, R.bind_exc, R.bindF_ok, R.bindF_exc, R.of_some, R.of_none, deref_int, deref_bl, deref_str, deref_non, deref_tup, deref_lst, deref_scr, deref_ty, deref_dct, binD_add, binD_sub, cmpD_lt, cmpD_le, cmpD_gt, cmpD_ge, cmpD_eqi, cmpD_nei, idxD_lst, idxD_tup, idxD_scr, put_name, List.getElem?_cons_zero, List.getElem?_cons_succ, List.set_cons_zero, List.set_cons_succ, List.map_cons, List.map_nil, Option.map_some, Option.bind_some, List.cons_append, List.nil_append, List.replicate, startE, List.length_cons, List.length_nil, Nat.sub_self, Nat.reduceSub, Nat.reduceAdd, truD, if_true, if_false, Bool.not_true, Bool.not_false, Bool.false_eq_true, run_noact, Nat.zero_le, c_is_pair, b, isIsi]; rfl
  | str v => cases ht; simp only [evSs, evS, ev, tst, evs, evO, evAnd, evOr, MP.tAnd, MP.tOr, tstO, R.bind_ok, R.bind_exc, R.bindF_ok, R.bindF_exc, R.of_some, R.of_none, deref_int, deref_bl, deref_str, deref_non, deref_tup, deref_lst, deref_scr, deref_ty, deref_dct, binD_add, binD_sub, cmpD_lt, cmpD_le, cmpD_gt, cmpD_ge, cmpD_eqi, cmpD_nei, idxD_lst, idxD_tup, idxD_scr, put_name, List.getElem?_cons_zero, List.getElem?_cons_succ, List.set_cons_zero, List.set_cons_succ, List.map_cons, List.map_nil, Option.map_some, Option.bind_some, List.cons_append, List.nil_append, List.replicate, startE, List.length_cons, List.length_nil, Nat.sub_self, Nat.reduceSub, Nat.reduceAdd, truD, if_true, if_false, Bool.not_true, Bool.not_false, Bool.false_eq_true, run_noact, Nat.zero_le, c_is_pair, b, isIsi]; rfl
  | lst v => cases ht; simp only [evSs, evS, ev, tst, evs, evO, evAnd, evOr, MP.tAnd, MP.tOr, tstO, R.bind_ok, R.bind_exc, R.bindF_ok, R.bindF_exc, R.of_some, R.of_none, deref_int, deref_bl, deref_str, deref_non, deref_tup, deref_lst, deref_scr, deref_ty, deref_dct, binD_add, binD_sub, cmpD_lt, cmpD_le, cmpD_gt, cmpD_ge, cmpD_eqi, cmpD_nei, idxD_lst, idxD_tup, idxD_scr, put_name, List.getElem?_cons_zero, List.getElem?_cons_succ, List.set_cons_zero, List.set_cons_succ, List.map_cons, List.map_nil, Option.map_some, Option.bind_some, List.cons_append, List.nil_append, List.replicate, startE, List.length_cons, List.length_nil, Nat.sub_self, Nat.reduceSub, Nat.reduceAdd, truD, if_true, if_false, Bool.not_true, Bool.not_false, Bool.false_eq_true, run_noact, Nat.zero_le, c_is_pair, b, isIsi]; rfl
  | dct v => cases ht; simp only [evSs, evS, ev, tst, evs, evO, evAnd, evOr, MP.tAnd, MP.tOr, tstO, R.bind_ok, R.bind_exc, R.bindF_ok, R.bindF_exc, R.of_some, R.of_none, deref_int, deref_bl, deref_str, deref_non, deref_tup, deref_lst, deref_scr, deref_ty, deref_dct, binD_add, binD_sub, cmpD_lt, cmpD_le, cmpD_gt, cmpD_ge, cmpD_eqi, cmpD_nei, idxD_lst, idxD_tup, idxD_scr, put_name, List.getElem?_cons_zero, List.getElem?_cons_succ, List.set_cons_zero, List.set_cons_succ, List.map_cons, List.map_nil, Option.map_some, Option.bind_some, List.cons_append, List.nil_append, List.replicate, startE, List.length_cons, List.length_nil, Nat.sub_self, Nat.reduceSub, Nat.reduceAdd, truD, if_true, if_false, Bool.not_true, Bool.not_false, Bool.false_eq_true, run_noact, Nat.zero_le, c_is_pair, b, isIsi]; rfl
  | _ => cases ht
def isL (size : Int) : D → Bool
  | .tup [k, b] => isB 0 (size - 1) k && isB 0 1 b
  | _ => false
omit w in
theorem isPr_two {d : D} (e : isPr d = true) : ∃ a b, d = .tup [a, b] := by
  cases d with
  | tup xs =>
    simp only [isPr, decide_eq_true_eq] at e
    match xs, e with
    | [a, b], _ => exact ⟨a, b, rfl⟩
  | _ => cases e
omit w in
theorem isL_not {size : Int} {d : D} (e : isPr d = false) : isL size d = false := by
  cases d with
  | tup xs =>
    match xs, e with
    | [], _ => rfl
    | [_], _ => rfl
    | _ :: _ :: _ :: _, _ => rfl
  | _ => rfl
theorem run_literal {size : Int} {d : D} (q : dat d = true) : MP.run Γ (n + 2) "is_literal" [.int size, d] h = .ok (.bl (isL size d)) h := by
  have p := run_pair w n q
  refine run_of (g_is_literal) rfl (by decide) ?_ (leave_bl w)
  cases e : isPr d with
  | false =>
    rw [e] at p
    simp only [evSs, evS, ev, tst, evs, evO, evAnd, evOr, MP.tAnd, MP.tOr, tstO, R.bind_ok, R.bind_exc, R.bindF_ok, R.bindF_exc, R.of_some, R.of_none, deref_int, deref_bl, deref_str, deref_non, deref_tup, deref_lst, deref_scr, deref_ty, deref_dct, binD_add, binD_sub, cmpD_lt, cmpD_le, cmpD_gt, cmpD_ge, cmpD_eqi, cmpD_nei, idxD_lst, idxD_tup, idxD_scr, put_name, List.getElem?_cons_zero, List.getElem?_cons_succ, List.set_cons_zero, List.set_cons_succ, List.map_cons, List.map_nil, Option.map_some, Option.bind_some, List.cons_append, List.nil_append, List.replicate, startE, List.length_cons, List.length_nil, Nat.sub_self, Nat.reduceSub, Nat.reduceAdd, truD, if_true, if_false, Bool.not_true, Bool.not_false, Bool.false_eq_true, run_noact, Nat.zero_le, c_is_literal, p, isL_not e]
  | true =>
    obtain ⟨a, b, rfl⟩ := isPr_two e
    rw [e] at p
    rw [dat_tup, dats_iff] at q
    have b1 := run_between w n (lo := 0) (hi := size - 1) (q a (by simp))
    have b2 := run_between w n (lo := 0) (hi := 1) (q b (by simp))
    simp only [evSs, evS, ev, tst, evs, evO, evAnd, evOr, MP.tAnd, MP.tOr, tstO, R.bind_ok, R.bind_exc, R.bindF_ok, R.bindF_exc, R.of_some, R.of_none, deref_int, deref_bl, deref_str, deref_non, deref_tup, deref_lst, deref_scr, deref_ty, deref_dct, binD_add, binD_sub, cmpD_lt, cmpD_le, cmpD_gt, cmpD_ge, cmpD_eqi, cmpD_nei, idxD_lst, idxD_tup, idxD_scr, put_name, List.getElem?_cons_zero, List.getElem?_cons_succ, List.set_cons_zero, List.set_cons_succ, List.map_cons, List.map_nil, Option.map_some, Option.bind_some, List.cons_append, List.nil_append, List.replicate, startE, List.length_cons, List.length_nil, Nat.sub_self, Nat.reduceSub, Nat.reduceAdd, truD, if_true, if_false, Bool.not_true, Bool.not_false, Bool.false_eq_true, run_noact, Nat.zero_le, c_is_literal, p, put, b1, b2, isL]
    cases isB 0 (size - 1) a <;> rfl
def areL (size : Int) : D → Bool
  | .tup xs => xs.all (isL size)
  | _ => false
theorem run_literals {size : Int} {d : D} (q : dat d = true) (l : ∀ xs, d = .tup xs → xs.length ≤ sizeLine) : MP.run Γ (n + 3) "are_literals" [.int size, d] h = .ok (.bl (areL size d)) h := by
  obtain ⟨t, ht⟩ := dat_ty q
  have b := bl_isi (c := "tuple") ht
  refine run_of (g_are_literals) rfl (by decide) ?_ (leave_bl w)
  cases d with
  | tup v =>
    cases ht
    rw [dat_tup, dats_iff] at q
    have com : ev (MP.run Γ (n + 2)) (C.com [("literal", 2)] (C.call "is_literal" (Cs.cons (C.var 0) (Cs.cons (C.var 2) Cs.nil))) (G.name 2) (I.of (C.var 1)) C'.no) (startE 3 [.int size, .tup v]) h = .ok (.lst (v.map fun x => .bl (isL size x))) h := by
      refine ev_com (evI_of (xs := v) (s := .tup v) (.inr rfl) rfl) (comLoop_map (fun x hx => ?_) (l v rfl))
      simp only [evSs, evS, ev, tst, evs, evO, evAnd, evOr, MP.tAnd, MP.tOr, tstO, R.bind_ok, R.bind_exc, R.bindF_ok, R.bindF_exc, R.of_some, R.of_none, deref_int, deref_bl, deref_str, deref_non, deref_tup, deref_lst, deref_scr, deref_ty, deref_dct, binD_add, binD_sub, cmpD_lt, cmpD_le, cmpD_gt, cmpD_ge, cmpD_eqi, cmpD_nei, idxD_lst, idxD_tup, idxD_scr, put_name, List.getElem?_cons_zero, List.getElem?_cons_succ, List.set_cons_zero, List.set_cons_succ, List.map_cons, List.map_nil, Option.map_some, Option.bind_some, List.cons_append, List.nil_append, List.replicate, startE, List.length_cons, List.length_nil, Nat.sub_self, Nat.reduceSub, Nat.reduceAdd, truD, if_true, if_false, Bool.not_true, Bool.not_false, Bool.false_eq_true, run_noact, Nat.zero_le, wipeE, run_literal w n (q x hx)]
    simp only [evSs, evS, ev, tst, evs, evO, evAnd, evOr, MP.tAnd, MP.tOr, tstO, R.bind_ok, R.bind_exc, R.bindF_ok, R.bindF_exc, R.of_some, R.of_none, deref_int, deref_bl, deref_str, deref_non, deref_tup, deref_lst, deref_scr, deref_ty, deref_dct, binD_add, binD_sub, cmpD_lt, cmpD_le, cmpD_gt, cmpD_ge, cmpD_eqi, cmpD_nei, idxD_lst, idxD_tup, idxD_scr, put_name, List.getElem?_cons_zero, List.getElem?_cons_succ, List.set_cons_zero, List.set_cons_succ, List.map_cons, List.map_nil, Option.map_some, Option.bind_some, List.cons_append, List.nil_append, List.replicate, startE, List.length_cons, List.length_nil, Nat.sub_self, Nat.reduceSub, Nat.reduceAdd, truD, if_true, if_false, Bool.not_true, Bool.not_false, Bool.false_eq_true, run_noact, Nat.zero_le, c_are_literals, b, isIsi]
    simp only [evSs, evS, ev, tst, evs, evO, evAnd, evOr, MP.tAnd, MP.tOr, tstO, R.bind_ok, R.bind_exc, R.bindF_ok, R.bindF_exc, R.of_some, R.of_none, deref_int, deref_bl, deref_str, deref_non, deref_tup, deref_lst, deref_scr, deref_ty, deref_dct, binD_add, binD_sub, cmpD_lt, cmpD_le, cmpD_gt, cmpD_ge, cmpD_eqi, cmpD_nei, idxD_lst, idxD_tup, idxD_scr, put_name, List.getElem?_cons_zero, List.getElem?_cons_succ, List.set_cons_zero, List.set_cons_succ, List.map_cons, List.map_nil, Option.map_some, Option.bind_some, List.cons_append, List.nil_append, List.replicate, startE, List.length_cons, List.length_nil, Nat.sub_self, Nat.reduceSub, Nat.reduceAdd, truD, if_true, if_false, Bool.not_true, Bool.not_false, Bool.false_eq_true, run_noact, Nat.zero_le] at com
    simp only [evSs, evS, ev, tst, evs, evO, evAnd, evOr, MP.tAnd, MP.tOr, tstO, R.bind_ok, R.bind_exc, R.bindF_ok, R.bindF_exc, R.of_some, R.of_none, deref_int, deref_bl, deref_str, deref_non, deref_tup, deref_lst, deref_scr, deref_ty, deref_dct, binD_add, binD_sub, cmpD_lt, cmpD_le, cmpD_gt, cmpD_ge, cmpD_eqi, cmpD_nei, idxD_lst, idxD_tup, idxD_scr, put_name, List.getElem?_cons_zero, List.getElem?_cons_succ, List.set_cons_zero, List.set_cons_succ, List.map_cons, List.map_nil, Option.map_some, Option.bind_some, List.cons_append, List.nil_append, List.replicate, startE, List.length_cons, List.length_nil, Nat.sub_self, Nat.reduceSub, Nat.reduceAdd, truD, if_true, if_false, Bool.not_true, Bool.not_false, Bool.false_eq_true, run_noact, Nat.zero_le, com, all_map, areL]
  | int v => cases ht; simp only [evSs, evS, ev, tst, evs, evO, evAnd, evOr, MP.tAnd, MP.tOr, tstO, R.bind_ok, R.bind_exc, R.bindF_ok, R.bindF_exc, R.of_some, R.of_none, deref_int, deref_bl, deref_str, deref_non, deref_tup, deref_lst, deref_scr, deref_ty, deref_dct, binD_add, binD_sub, cmpD_lt, cmpD_le, cmpD_gt, cmpD_ge, cmpD_eqi, cmpD_nei, idxD_lst, idxD_tup, idxD_scr, put_name, List.getElem?_cons_zero, List.getElem?_cons_succ, List.set_cons_zero, List.set_cons_succ, List.map_cons, List.map_nil, Option.map_some, Option.bind_some, List.cons_append, List.nil_append, List.replicate, startE, List.length_cons, List.length_nil, Nat.sub_self, Nat.reduceSub, Nat.reduceAdd, truD, if_true, if_false, Bool.not_true, Bool.not_false, Bool.false_eq_true, run_noact, Nat.zero_le, c_are_literals, b, isIsi]; rfl
  | bl v => cases ht; simp only [evSs, evS, ev, tst, evs, evO, evAnd, evOr, MP.tAnd, MP.tOr, tstO, R.bind_ok, R.bind_exc, R.bindF_ok, R.bindF_exc, R.of_some, R.of_none, deref_int, deref_bl, deref_str, deref_non, deref_tup, deref_lst, deref_scr, deref_ty, deref_dct, binD_add, binD_sub, cmpD_lt, cmpD_le, cmpD_gt, cmpD_ge, cmpD_eqi, cmpD_nei, idxD_lst, idxD_tup, idxD_scr, put_name, List.getElem?_cons_zero, List.getElem?_cons_succ, List.set_cons_zero, List.set_cons_succ, List.map_cons, List.map_nil, Option.map_some, Option.bind_some, List.cons_append, List.nil_append, List.replicate, startE, List.length_cons, List.length_nil, Nat.sub_self, Nat.reduceSub, Nat.reduceAdd, truD, if_true, if_false, Bool.not_true, Bool.not_false, Bool.false_eq_true, run_noact, Nat.zero_le, c_are_literals, b, isIsi]; rfl
  | non => cases ht; simp only [evSs, evS, ev, tst, evs, evO, evAnd, evOr, MP.tAnd, MP.tOr, tstO, R.bind_ok, R.bind_exc, R.bindF_ok, R.bindF_exc, R.of_some, R.of_none, deref_int, deref_bl, deref_str, deref_non, deref_tup, deref_lst, deref_scr, deref_ty, deref_dct, binD_add, binD_sub, cmpD_lt, cmpD_le, cmpD_gt, cmpD_ge, cmpD_eqi, cmpD_nei, idxD_lst, idxD_tup, idxD_scr, put_name, List.getElem?_cons_zero, List.getElem?_cons_succ, List.set_cons_zero, List.set_cons_succ, List.map_cons, List.map_nil, Option.map_some, Option.bind_some, List.cons_append, List.nil_append, List.replicate, startE, List.length_cons, List.length_nil, Nat.sub_self, Nat.reduceSub, Nat.reduceAdd, truD, if_true, if_false, Bool.not_true, Bool.not_false, Bool.false_eq_true, run_noact, Nat.zero_le, c_are_literals, b, isIsi]; rfl
  | str v => cases ht; simp only [evSs, evS, ev, tst, evs, evO, evAnd, evOr, MP.tAnd, MP.tOr, tstO, R.bind_ok, R.bind_exc, R.bindF_ok, R.bindF_exc, R.of_some, R.of_none, deref_int, deref_bl, deref_str, deref_non, deref_tup, deref_lst, deref_scr, deref_ty, deref_dct, binD_add, binD_sub, cmpD_lt, cmpD_le, cmpD_gt, cmpD_ge, cmpD_eqi, cmpD_nei, idxD_lst, idxD_tup, idxD_scr, put_name, List.getElem?_cons_zero, List.getElem?_cons_succ, List.set_cons_zero, List.set_cons_succ, List.map_cons, List.map_nil, Option.map_some, Option.bind_some, List.cons_append, List.nil_append, List.replicate, startE, List.length_cons, List.length_nil, Nat.sub_self, Nat.reduceSub, Nat.reduceAdd, truD, if_true, if_false, Bool.not_true, Bool.not_false, Bool.false_eq_true, run_noact, Nat.zero_le, c_are_literals, b, isIsi]; rfl
  | lst v => cases ht; simp only [evSs, evS, ev, tst, evs, evO, evAnd, evOr, MP.tAnd, MP.tOr, tstO, R.bind_ok, R.bind_exc, R.bindF_ok, R.bindF_exc, R.of_some, R.of_none, deref_int, deref_bl, deref_str, deref_non, deref_tup, deref_lst, deref_scr, deref_ty, deref_dct, binD_add, binD_sub, cmpD_lt, cmpD_le, cmpD_gt, cmpD_ge, cmpD_eqi, cmpD_nei, idxD_lst, idxD_tup, idxD_scr, put_name, List.getElem?_cons_zero, List.getElem?_cons_succ, List.set_cons_zero, List.set_cons_succ, List.map_cons, List.map_nil, Option.map_some, Option.bind_some, List.cons_append, List.nil_append, List.replicate, startE, List.length_cons, List.length_nil, Nat.sub_self, Nat.reduceSub, Nat.reduceAdd, truD, if_true, if_false, Bool.not_true, Bool.not_false, Bool.false_eq_true, run_noact, Nat.zero_le, c_are_literals, b, isIsi]; rfl
  | dct v => cases ht; simp only [evSs, evS, ev, tst, evs, evO, evAnd, evOr, MP.tAnd, MP.tOr, tstO, R.bind_ok, R.bind_exc, R.bindF_ok, R.bindF_exc, R.of_some, R.of_none, deref_int, deref_bl, deref_str, deref_non, deref_tup, deref_lst, deref_scr, deref_ty, deref_dct, binD_add, binD_sub, cmpD_lt, cmpD_le, cmpD_gt, cmpD_ge, cmpD_eqi, cmpD_nei, idxD_lst, idxD_tup, idxD_scr, put_name, List.getElem?_cons_zero, List.getElem?_cons_succ, List.set_cons_zero, List.set_cons_succ, List.map_cons, List.map_nil, Option.map_some, Option.bind_some, List.cons_append, List.nil_append, List.replicate, startE, List.length_cons, List.length_nil, Nat.sub_self, Nat.reduceSub, Nat.reduceAdd, truD, if_true, if_false, Bool.not_true, Bool.not_false, Bool.false_eq_true, run_noact, Nat.zero_le, c_are_literals, b, isIsi]; rfl
  | _ => cases ht
def ascI : List Int → Bool
  | a :: b :: r => decide (a < b) && ascI (b :: r)
  | _ => true
def ltD : D → Bool
  | .tup [.int a, .int b] => decide (a < b)
  | _ => false
omit w in
theorem zip_len : ∀ {xs ys : List D}, (zipD xs ys).length ≤ xs.length
  | [], _ => by simp [zipD]
  | _ :: _, [] => by simp [zipD]
  | x :: xs, y :: ys => by simp only [zipD, List.length_cons]; exact Nat.succ_le_succ zip_len
omit w in
theorem zip_int : ∀ {ns ms : List Int}, ∀ x ∈ zipD (ns.map .int) (ms.map .int), ∃ a b, x = .tup [.int a, .int b]
  | [], _, x, h => by simp [zipD] at h
  | _ :: _, [], x, h => by simp [zipD] at h
  | a :: ns, b :: ms, x, h => by
    simp only [List.map_cons, zipD, List.mem_cons] at h
    rcases h with rfl | h
    · exact ⟨a, b, rfl⟩
    · exact zip_int x h
omit w in
theorem zip_asc : ∀ {ns : List Int}, (zipD (ns.map .int) ((ns.map .int).drop 1)).all ltD = ascI ns
  | [] => rfl
  | [a] => rfl
  | a :: b :: r => by
    have ih := zip_asc (ns := b :: r)
    simp only [List.map_cons, List.drop_succ_cons, List.drop_zero, zipD, List.all_cons, ltD, ascI] at ih ⊢
    rw [ih]
theorem run_ascend {ns : List Int} (l : ns.length ≤ sizeLine) : MP.run Γ (n + 1) "ascend" [.lst (ns.map .int)] h = .ok (.bl (ascI ns)) h := by
  refine run_of (g_ascend) rfl (by decide) ?_ (leave_bl w)
  have it : evI (MP.run Γ n) (I.zip (C.var 0) (C.slc (C.var 0) (C'.yes (C.int 1)) C'.no)) (startE 3 [.lst (ns.map .int)]) h = .ok (zipD (ns.map .int) ((ns.map .int).drop 1)) h := by
    simp only [evSs, evS, ev, tst, evs, evO, evAnd, evOr, MP.tAnd, MP.tOr, tstO, R.bind_ok, R.bind_exc, R.bindF_ok, R.bindF_exc, R.of_some, R.of_none, deref_int, deref_bl, deref_str, deref_non, deref_tup, deref_lst, deref_scr, deref_ty, deref_dct, binD_add, binD_sub, cmpD_lt, cmpD_le, cmpD_gt, cmpD_ge, cmpD_eqi, cmpD_nei, idxD_lst, idxD_tup, idxD_scr, put_name, List.getElem?_cons_zero, List.getElem?_cons_succ, List.set_cons_zero, List.set_cons_succ, List.map_cons, List.map_nil, Option.map_some, Option.bind_some, List.cons_append, List.nil_append, List.replicate, startE, List.length_cons, List.length_nil, Nat.sub_self, Nat.reduceSub, Nat.reduceAdd, truD, if_true, if_false, Bool.not_true, Bool.not_false, Bool.false_eq_true, run_noact, Nat.zero_le, evI, slcD, cut_from (k := 1), show ((1 : Int)) = ((1 : Nat) : Int) from rfl]
  have com : ev (MP.run Γ n) (C.com [("low", 1), ("high", 2)] (C.cmp .Lt (C.var 1) (C.var 2)) (G.tup2 1 2) (I.zip (C.var 0) (C.slc (C.var 0) (C'.yes (C.int 1)) C'.no)) C'.no) (startE 3 [.lst (ns.map .int)]) h = .ok (.lst ((zipD (ns.map .int) ((ns.map .int).drop 1)).map fun x => .bl (ltD x))) h := by
    refine ev_com it (comLoop_map (fun x hx => ?_) (Nat.le_trans zip_len (by simpa using l)))
    rw [← List.map_drop] at hx
    obtain ⟨a, b, rfl⟩ := zip_int x hx
    simp only [evSs, evS, ev, tst, evs, evO, evAnd, evOr, MP.tAnd, MP.tOr, tstO, R.bind_ok, R.bind_exc, R.bindF_ok, R.bindF_exc, R.of_some, R.of_none, deref_int, deref_bl, deref_str, deref_non, deref_tup, deref_lst, deref_scr, deref_ty, deref_dct, binD_add, binD_sub, cmpD_lt, cmpD_le, cmpD_gt, cmpD_ge, cmpD_eqi, cmpD_nei, idxD_lst, idxD_tup, idxD_scr, put_name, List.getElem?_cons_zero, List.getElem?_cons_succ, List.set_cons_zero, List.set_cons_succ, List.map_cons, List.map_nil, Option.map_some, Option.bind_some, List.cons_append, List.nil_append, List.replicate, startE, List.length_cons, List.length_nil, Nat.sub_self, Nat.reduceSub, Nat.reduceAdd, truD, if_true, if_false, Bool.not_true, Bool.not_false, Bool.false_eq_true, run_noact, Nat.zero_le, wipeE, put, ltD]
  simp only [evSs, evS, ev, tst, evs, evO, evAnd, evOr, MP.tAnd, MP.tOr, tstO, R.bind_ok, R.bind_exc, R.bindF_ok, R.bindF_exc, R.of_some, R.of_none, deref_int, deref_bl, deref_str, deref_non, deref_tup, deref_lst, deref_scr, deref_ty, deref_dct, binD_add, binD_sub, cmpD_lt, cmpD_le, cmpD_gt, cmpD_ge, cmpD_eqi, cmpD_nei, idxD_lst, idxD_tup, idxD_scr, put_name, List.getElem?_cons_zero, List.getElem?_cons_succ, List.set_cons_zero, List.set_cons_succ, List.map_cons, List.map_nil, Option.map_some, Option.bind_some, List.cons_append, List.nil_append, List.replicate, startE, List.length_cons, List.length_nil, Nat.sub_self, Nat.reduceSub, Nat.reduceAdd, truD, if_true, if_false, Bool.not_true, Bool.not_false, Bool.false_eq_true, run_noact, Nat.zero_le] at com
  simp only [evSs, evS, ev, tst, evs, evO, evAnd, evOr, MP.tAnd, MP.tOr, tstO, R.bind_ok, R.bind_exc, R.bindF_ok, R.bindF_exc, R.of_some, R.of_none, deref_int, deref_bl, deref_str, deref_non, deref_tup, deref_lst, deref_scr, deref_ty, deref_dct, binD_add, binD_sub, cmpD_lt, cmpD_le, cmpD_gt, cmpD_ge, cmpD_eqi, cmpD_nei, idxD_lst, idxD_tup, idxD_scr, put_name, List.getElem?_cons_zero, List.getElem?_cons_succ, List.set_cons_zero, List.set_cons_succ, List.map_cons, List.map_nil, Option.map_some, Option.bind_some, List.cons_append, List.nil_append, List.replicate, startE, List.length_cons, List.length_nil, Nat.sub_self, Nat.reduceSub, Nat.reduceAdd, truD, if_true, if_false, Bool.not_true, Bool.not_false, Bool.false_eq_true, run_noact, Nat.zero_le, c_ascend, com, all_map, zip_asc]
theorem run_check {lo hi : Int} {d : D} (q : dat d = true) (e : isB lo hi d = true) : MP.run Γ (n + 2) "check_between" [.int lo, .int hi, d] h = .ok .non h := by
  refine run_nx (g_check_between) rfl (by decide) (ρ := [some (.int lo), some (.int hi), some d]) ?_ (leave_non w)
  have b := run_between w n (lo := lo) (hi := hi) q
  rw [e] at b
  simp only [evSs, evS, ev, tst, evs, evO, evAnd, evOr, MP.tAnd, MP.tOr, tstO, R.bind_ok, R.bind_exc, R.bindF_ok, R.bindF_exc, R.of_some, R.of_none, deref_int, deref_bl, deref_str, deref_non, deref_tup, deref_lst, deref_scr, deref_ty, deref_dct, binD_add, binD_sub, cmpD_lt, cmpD_le, cmpD_gt, cmpD_ge, cmpD_eqi, cmpD_nei, idxD_lst, idxD_tup, idxD_scr, put_name, List.getElem?_cons_zero, List.getElem?_cons_succ, List.set_cons_zero, List.set_cons_succ, List.map_cons, List.map_nil, Option.map_some, Option.bind_some, List.cons_append, List.nil_append, List.replicate, startE, List.length_cons, List.length_nil, Nat.sub_self, Nat.reduceSub, Nat.reduceAdd, truD, if_true, if_false, Bool.not_true, Bool.not_false, Bool.false_eq_true, run_noact, Nat.zero_le, c_check_between, b, dat_deref q]
theorem run_check_not {lo hi : Int} {d : D} (q : dat d = true) (e : isB lo hi d = false) : MP.run Γ (n + 2) "check_between" [.int lo, .int hi, d] h = .exc ⟨"InvalidNumber", [("value", d)]⟩ h := by
  have b := run_between w n (lo := lo) (hi := hi) q
  rw [e] at b
  have := run_exc (as := [.int lo, .int hi, d]) (n := n + 1) (h := h) (h' := h) (x := ⟨"InvalidNumber", [("value", d)]⟩) (ρ := [some (.int lo), some (.int hi), some d]) (g_check_between) rfl (by decide) (by simp only [evSs, evS, ev, tst, evs, evO, evAnd, evOr, MP.tAnd, MP.tOr, tstO, R.bind_ok, R.bind_exc, R.bindF_ok, R.bindF_exc, R.of_some, R.of_none, deref_int, deref_bl, deref_str, deref_non, deref_tup, deref_lst, deref_scr, deref_ty, deref_dct, binD_add, binD_sub, cmpD_lt, cmpD_le, cmpD_gt, cmpD_ge, cmpD_eqi, cmpD_nei, idxD_lst, idxD_tup, idxD_scr, put_name, List.getElem?_cons_zero, List.getElem?_cons_succ, List.set_cons_zero, List.set_cons_succ, List.map_cons, List.map_nil, Option.map_some, Option.bind_some, List.cons_append, List.nil_append, List.replicate, startE, List.length_cons, List.length_nil, Nat.sub_self, Nat.reduceSub, Nat.reduceAdd, truD, if_true, if_false, Bool.not_true, Bool.not_false, Bool.false_eq_true, run_noact, Nat.zero_le, c_check_between, b, dat_deref q]) (by
    refine ⟨by simp [dat_refs q], ?_, Nat.le_refl _⟩
    rw [List.take_length]; exact w)
  rwa [List.take_length] at this
theorem run_size {d : D} (q : dat d = true) (e : isB 1 7 d = true) : MP.run Γ (n + 3) "check_size" [d] h = .ok .non h := by
  refine run_nx (g_check_size) rfl (by decide) (ρ := [some d]) ?_ (leave_non w)
  simp only [evSs, evS, ev, tst, evs, evO, evAnd, evOr, MP.tAnd, MP.tOr, tstO, R.bind_ok, R.bind_exc, R.bindF_ok, R.bindF_exc, R.of_some, R.of_none, deref_int, deref_bl, deref_str, deref_non, deref_tup, deref_lst, deref_scr, deref_ty, deref_dct, binD_add, binD_sub, cmpD_lt, cmpD_le, cmpD_gt, cmpD_ge, cmpD_eqi, cmpD_nei, idxD_lst, idxD_tup, idxD_scr, put_name, List.getElem?_cons_zero, List.getElem?_cons_succ, List.set_cons_zero, List.set_cons_succ, List.map_cons, List.map_nil, Option.map_some, Option.bind_some, List.cons_append, List.nil_append, List.replicate, startE, List.length_cons, List.length_nil, Nat.sub_self, Nat.reduceSub, Nat.reduceAdd, truD, if_true, if_false, Bool.not_true, Bool.not_false, Bool.false_eq_true, run_noact, Nat.zero_le, c_check_size, run_check w n q e]
theorem run_size_not {d : D} (q : dat d = true) (e : isB 1 7 d = false) : MP.run Γ (n + 3) "check_size" [d] h = .exc ⟨"InvalidNumber", [("value", d)]⟩ h := by
  have := run_exc (as := [d]) (n := n + 2) (h := h) (h' := h) (x := ⟨"InvalidNumber", [("value", d)]⟩) (ρ := [some d]) (g_check_size) rfl (by decide) (by simp only [evSs, evS, ev, tst, evs, evO, evAnd, evOr, MP.tAnd, MP.tOr, tstO, R.bind_ok, R.bind_exc, R.bindF_ok, R.bindF_exc, R.of_some, R.of_none, deref_int, deref_bl, deref_str, deref_non, deref_tup, deref_lst, deref_scr, deref_ty, deref_dct, binD_add, binD_sub, cmpD_lt, cmpD_le, cmpD_gt, cmpD_ge, cmpD_eqi, cmpD_nei, idxD_lst, idxD_tup, idxD_scr, put_name, List.getElem?_cons_zero, List.getElem?_cons_succ, List.set_cons_zero, List.set_cons_succ, List.map_cons, List.map_nil, Option.map_some, Option.bind_some, List.cons_append, List.nil_append, List.replicate, startE, List.length_cons, List.length_nil, Nat.sub_self, Nat.reduceSub, Nat.reduceAdd, truD, if_true, if_false, Bool.not_true, Bool.not_false, Bool.false_eq_true, run_noact, Nat.zero_le, c_check_size, run_check_not w n q e]) (by
    refine ⟨by simp [dat_refs q], ?_, Nat.le_refl _⟩
    rw [List.take_length]; exact w)
  rwa [List.take_length] at this
def isRow (size : Nat) : D → Bool
  | .tup xs => decide (xs.length = size) && xs.all (isB 0 1)
  | _ => false
theorem run_is_row {size : Nat} {d : D} (hs : 1 ≤ size ∧ size ≤ 7) (q : dat d = true) (l : ∀ xs, d = .tup xs → xs.length ≤ sizeLine) : MP.run Γ (n + 4) "is_row" [.int size, d] h = .ok (.bl (isRow size d)) h := by
  obtain ⟨t, ht⟩ := dat_ty q
  have b := bl_isi (c := "tuple") ht
  have cs := run_size w n (d := .int size) rfl (by simp [isB]; omega)
  refine run_of (g_is_row) rfl (by decide) ?_ (leave_bl w)
  cases d with
  | tup v =>
    cases ht
    rw [dat_tup, dats_iff] at q
    have com : ev (MP.run Γ (n + 3)) (C.com [("bit", 2)] (C.call "is_between" (Cs.cons (C.int 0) (Cs.cons (C.int 1) (Cs.cons (C.var 2) Cs.nil)))) (G.name 2) (I.of (C.var 1)) C'.no) (startE 3 [.int size, .tup v]) h = .ok (.lst (v.map fun x => .bl (isB 0 1 x))) h := by
      refine ev_com (evI_of (xs := v) (s := .tup v) (.inr rfl) rfl) (comLoop_map (fun x hx => ?_) (l v rfl))
      simp only [evSs, evS, ev, tst, evs, evO, evAnd, evOr, MP.tAnd, MP.tOr, tstO, R.bind_ok, R.bind_exc, R.bindF_ok, R.bindF_exc, R.of_some, R.of_none, deref_int, deref_bl, deref_str, deref_non, deref_tup, deref_lst, deref_scr, deref_ty, deref_dct, binD_add, binD_sub, cmpD_lt, cmpD_le, cmpD_gt, cmpD_ge, cmpD_eqi, cmpD_nei, idxD_lst, idxD_tup, idxD_scr, put_name, List.getElem?_cons_zero, List.getElem?_cons_succ, List.set_cons_zero, List.set_cons_succ, List.map_cons, List.map_nil, Option.map_some, Option.bind_some, List.cons_append, List.nil_append, List.replicate, startE, List.length_cons, List.length_nil, Nat.sub_self, Nat.reduceSub, Nat.reduceAdd, truD, if_true, if_false, Bool.not_true, Bool.not_false, Bool.false_eq_true, run_noact, Nat.zero_le, wipeE, run_between w (n + 2) (q x hx)]
    simp only [evSs, evS, ev, tst, evs, evO, evAnd, evOr, MP.tAnd, MP.tOr, tstO, R.bind_ok, R.bind_exc, R.bindF_ok, R.bindF_exc, R.of_some, R.of_none, deref_int, deref_bl, deref_str, deref_non, deref_tup, deref_lst, deref_scr, deref_ty, deref_dct, binD_add, binD_sub, cmpD_lt, cmpD_le, cmpD_gt, cmpD_ge, cmpD_eqi, cmpD_nei, idxD_lst, idxD_tup, idxD_scr, put_name, List.getElem?_cons_zero, List.getElem?_cons_succ, List.set_cons_zero, List.set_cons_succ, List.map_cons, List.map_nil, Option.map_some, Option.bind_some, List.cons_append, List.nil_append, List.replicate, startE, List.length_cons, List.length_nil, Nat.sub_self, Nat.reduceSub, Nat.reduceAdd, truD, if_true, if_false, Bool.not_true, Bool.not_false, Bool.false_eq_true, run_noact, Nat.zero_le] at com
    by_cases c : v.length = size
    · subst c
      simp only [evSs, evS, ev, tst, evs, evO, evAnd, evOr, MP.tAnd, MP.tOr, tstO, R.bind_ok, R.bind_exc, R.bindF_ok, R.bindF_exc, R.of_some, R.of_none, deref_int, deref_bl, deref_str, deref_non, deref_tup, deref_lst, deref_scr, deref_ty, deref_dct, binD_add, binD_sub, cmpD_lt, cmpD_le, cmpD_gt, cmpD_ge, cmpD_eqi, cmpD_nei, idxD_lst, idxD_tup, idxD_scr, put_name, List.getElem?_cons_zero, List.getElem?_cons_succ, List.set_cons_zero, List.set_cons_succ, List.map_cons, List.map_nil, Option.map_some, Option.bind_some, List.cons_append, List.nil_append, List.replicate, startE, List.length_cons, List.length_nil, Nat.sub_self, Nat.reduceSub, Nat.reduceAdd, truD, if_true, if_false, Bool.not_true, Bool.not_false, Bool.false_eq_true, run_noact, Nat.zero_le, c_is_row, cs, b, isIsi, bl_len_tup, com, all_map, isRow, decide_true, Bool.true_and]
    · have c' : ¬ (v.length : Int) = (size : Int) := by omega
      simp only [evSs, evS, ev, tst, evs, evO, evAnd, evOr, MP.tAnd, MP.tOr, tstO, R.bind_ok, R.bind_exc, R.bindF_ok, R.bindF_exc, R.of_some, R.of_none, deref_int, deref_bl, deref_str, deref_non, deref_tup, deref_lst, deref_scr, deref_ty, deref_dct, binD_add, binD_sub, cmpD_lt, cmpD_le, cmpD_gt, cmpD_ge, cmpD_eqi, cmpD_nei, idxD_lst, idxD_tup, idxD_scr, put_name, List.getElem?_cons_zero, List.getElem?_cons_succ, List.set_cons_zero, List.set_cons_succ, List.map_cons, List.map_nil, Option.map_some, Option.bind_some, List.cons_append, List.nil_append, List.replicate, startE, List.length_cons, List.length_nil, Nat.sub_self, Nat.reduceSub, Nat.reduceAdd, truD, if_true, if_false, Bool.not_true, Bool.not_false, Bool.false_eq_true, run_noact, Nat.zero_le, c_is_row, cs, b, isIsi, bl_len_tup, isRow, c, c', decide_false, Bool.false_and]
  | int v => cases ht; simp only [evSs, evS, ev, tst, evs, evO, evAnd, evOr, MP.tAnd, MP.tOr, tstO, R.bind_ok, R.bind_exc, R.bindF_ok, R.bindF_exc, R.of_some, R.of_none, deref_int, deref_bl, deref_str, deref_non, deref_tup, deref_lst, deref_scr, deref_ty, deref_dct, binD_add, binD_sub, cmpD_lt, cmpD_le, cmpD_gt, cmpD_ge, cmpD_eqi, cmpD_nei, idxD_lst, idxD_tup, idxD_scr, put_name, List.getElem?_cons_zero, List.getElem?_cons_succ, List.set_cons_zero, List.set_cons_succ, List.map_cons, List.map_nil, Option.map_some, Option.bind_some, List.cons_append, List.nil_append, List.replicate, startE, List.length_cons, List.length_nil, Nat.sub_self, Nat.reduceSub, Nat.reduceAdd, truD, if_true, if_false, Bool.not_true, Bool.not_false, Bool.false_eq_true, run_noact, Nat.zero_le, c_is_row, cs, b, isIsi]; rfl
  | bl v => cases ht; simp only [evSs, evS, ev, tst, evs, evO, evAnd, evOr, MP.tAnd, MP.tOr, tstO, R.bind_ok, R.bind_exc, R.bindF_ok, R.bindF_exc, R.of_some, R.of_none, deref_int, deref_bl, deref_str, deref_non, deref_tup, deref_lst, deref_scr, deref_ty, deref_dct, binD_add, binD_sub, cmpD_lt, cmpD_le, cmpD_gt, cmpD_ge, cmpD_eqi, cmpD_nei, idxD_lst, idxD_tup, idxD_scr, put_name, List.getElem?_cons_zero, List.getElem?_cons_succ, List.set_cons_zero, List.set_cons_succ, List.map_cons, List.map_nil, Option.map_some, Option.bind_some, List.cons_append, List.nil_append, List.replicate, startE, List.length_cons, List.length_nil, Nat.sub_self, Nat.reduceSub, Nat.reduceAdd, truD, if_true, if_false, Bool.not_true, Bool.not_false, Bool.false_eq_true, run_noact, Nat.zero_le, c_is_row, cs, b, isIsi]; rfl
  | non => cases ht; simp only [evSs, evS, ev, tst, evs, evO, evAnd, evOr, MP.tAnd, MP.tOr, tstO, R.bind_ok, R.bind_exc, R.bindF_ok, R.bindF_exc, R.of_some, R.of_none, deref_int, deref_bl, deref_str, deref_non, deref_tup, deref_lst, deref_scr, deref_ty, deref_dct, binD_add, binD_sub, cmpD_lt, cmpD_le, cmpD_gt, cmpD_ge, cmpD_eqi, cmpD_nei, idxD_lst, idxD_tup, idxD_scr, put_name, List.getElem?_cons_zero, List.getElem?_cons_succ, List.set_cons_zero, List.set_cons_succ, List.map_cons, List.map_nil, Option.map_some, Option.bind_some, List.cons_append, List.nil_append, List.replicate, startE, List.length_cons, List.length_nil, Nat.sub_self, Nat.reduceSub, Nat.reduceAdd, truD, if_true, if_false, Bool.not_true, Bool.not_false, Bool.false_eq_true, run_noact, Nat.zero_le, c_is_row, cs, b, isIsi]; rfl
  | str v => cases ht; simp only [evSs, evS, ev, tst, evs, evO, evAnd, evOr, MP.tAnd, MP.tOr, tstO, R.bind_ok, R.bind_exc, R.bindF_ok, R.bindF_exc, R.of_some, R.of_none, deref_int, deref_bl, deref_str, deref_non, deref_tup, deref_lst, deref_scr, deref_ty, deref_dct, binD_add, binD_sub, cmpD_lt, cmpD_le, cmpD_gt, cmpD_ge, cmpD_eqi, cmpD_nei, idxD_lst, idxD_tup, idxD_scr, put_name, List.getElem?_cons_zero, List.getElem?_cons_succ, List.set_cons_zero, List.set_cons_succ, List.map_cons, List.map_nil, Option.map_some, Option.bind_some, List.cons_append, List.nil_append, List.replicate, startE, List.length_cons, List.length_nil, Nat.sub_self, Nat.reduceSub, Nat.reduceAdd, truD, if_true, if_false, Bool.not_true, Bool.not_false, Bool.false_eq_true, run_noact, Nat.zero_le, c_is_row, cs, b, isIsi]; rfl
  | lst v => cases ht; simp only [evSs, evS, ev, tst, evs, evO, evAnd, evOr, MP.tAnd, MP.tOr, tstO, R.bind_ok, R.bind_exc, R.bindF_ok, R.bindF_exc, R.of_some, R.of_none, deref_int, deref_bl, deref_str, deref_non, deref_tup, deref_lst, deref_scr, deref_ty, deref_dct, binD_add, binD_sub, cmpD_lt, cmpD_le, cmpD_gt, cmpD_ge, cmpD_eqi, cmpD_nei, idxD_lst, idxD_tup, idxD_scr, put_name, List.getElem?_cons_zero, List.getElem?_cons_succ, List.set_cons_zero, List.set_cons_succ, List.map_cons, List.map_nil, Option.map_some, Option.bind_some, List.cons_append, List.nil_append, List.replicate, startE, List.length_cons, List.length_nil, Nat.sub_self, Nat.reduceSub, Nat.reduceAdd, truD, if_true, if_false, Bool.not_true, Bool.not_false, Bool.false_eq_true, run_noact, Nat.zero_le, c_is_row, cs, b, isIsi]; rfl
  | dct v => cases ht; simp only [evSs, evS, ev, tst, evs, evO, evAnd, evOr, MP.tAnd, MP.tOr, tstO, R.bind_ok, R.bind_exc, R.bindF_ok, R.bindF_exc, R.of_some, R.of_none, deref_int, deref_bl, deref_str, deref_non, deref_tup, deref_lst, deref_scr, deref_ty, deref_dct, binD_add, binD_sub, cmpD_lt, cmpD_le, cmpD_gt, cmpD_ge, cmpD_eqi, cmpD_nei, idxD_lst, idxD_tup, idxD_scr, put_name, List.getElem?_cons_zero, List.getElem?_cons_succ, List.set_cons_zero, List.set_cons_succ, List.map_cons, List.map_nil, Option.map_some, Option.bind_some, List.cons_append, List.nil_append, List.replicate, startE, List.length_cons, List.length_nil, Nat.sub_self, Nat.reduceSub, Nat.reduceAdd, truD, if_true, if_false, Bool.not_true, Bool.not_false, Bool.false_eq_true, run_noact, Nat.zero_le, c_is_row, cs, b, isIsi]; rfl
  | _ => cases ht
theorem run_is_row_not {d x : D} (q : dat d = true) (e : isB 1 7 d = false) : MP.run Γ (n + 4) "is_row" [d, x] h = .exc ⟨"InvalidNumber", [("value", d)]⟩ h := by
  have cs := run_size_not w n q e
  have := run_exc (as := [d, x]) (n := n + 3) (h := h) (h' := h) (x := ⟨"InvalidNumber", [("value", d)]⟩) (ρ := [some d, some x, none]) (g_is_row) rfl (by decide) (by simp only [evSs, evS, ev, tst, evs, evO, evAnd, evOr, MP.tAnd, MP.tOr, tstO, R.bind_ok, R.bind_exc, R.bindF_ok, R.bindF_exc, R.of_some, R.of_none, deref_int, deref_bl, deref_str, deref_non, deref_tup, deref_lst, deref_scr, deref_ty, deref_dct, binD_add, binD_sub, cmpD_lt, cmpD_le, cmpD_gt, cmpD_ge, cmpD_eqi, cmpD_nei, idxD_lst, idxD_tup, idxD_scr, put_name, List.getElem?_cons_zero, List.getElem?_cons_succ, List.set_cons_zero, List.set_cons_succ, List.map_cons, List.map_nil, Option.map_some, Option.bind_some, List.cons_append, List.nil_append, List.replicate, startE, List.length_cons, List.length_nil, Nat.sub_self, Nat.reduceSub, Nat.reduceAdd, truD, if_true, if_false, Bool.not_true, Bool.not_false, Bool.false_eq_true, run_noact, Nat.zero_le, c_is_row, cs]) (by
    refine ⟨by simp [dat_refs q], ?_, Nat.le_refl _⟩
    rw [List.take_length]; exact w)
  rwa [List.take_length] at this
def keyI : D → Int
  | .tup (.int k :: _) => k
  | _ => 0
omit w in
theorem isL_int {size : Int} {d : D} (e : isL size d = true) : ∃ k b, d = .tup [.int k, .int b] ∧ 0 ≤ k := by
  have two : isPr d = true := by
    cases c : isPr d with
    | true => rfl
    | false => rw [isL_not c] at e; cases e
  obtain ⟨a, b, rfl⟩ := isPr_two two
  simp only [isL, Bool.and_eq_true] at e
  cases a with
  | int k => cases b with
    | int b =>
      obtain ⟨e1, e2⟩ := e
      simp only [isB, Bool.and_eq_true, decide_eq_true_eq] at e1
      exact ⟨k, b, rfl, e1.1⟩
    | _ => exact absurd e.2 (by simp [isB])
  | _ => exact absurd e.1 (by simp [isB])
def isPart (size : Int) : D → Bool
  | .tup xs => xs.all (isL size) && ascI (xs.map keyI)
  | _ => false
theorem run_is_partial {size : Nat} {d : D} (hs : 1 ≤ size ∧ size ≤ 7) (q : dat d = true) (l : ∀ xs, d = .tup xs → xs.length ≤ sizeLine) : MP.run Γ (n + 4) "is_partial" [.int size, d] h = .ok (.bl (isPart size d)) h := by
  have cs := run_size w n (d := .int size) rfl (by simp [isB]; omega)
  have al := run_literals w n (size := size) q l
  refine run_of (g_is_partial) rfl (by decide) ?_ (leave_bl w)
  cases e : areL size d with
  | false =>
    rw [e] at al
    have : isPart size d = false := by
      cases d with
      | tup xs =>
        simp only [areL] at e
        simp only [isPart, e, Bool.false_and]
      | _ => rfl
    simp only [evSs, evS, ev, tst, evs, evO, evAnd, evOr, MP.tAnd, MP.tOr, tstO, R.bind_ok, R.bind_exc, R.bindF_ok, R.bindF_exc, R.of_some, R.of_none, deref_int, deref_bl, deref_str, deref_non, deref_tup, deref_lst, deref_scr, deref_ty, deref_dct, binD_add, binD_sub, cmpD_lt, cmpD_le, cmpD_gt, cmpD_ge, cmpD_eqi, cmpD_nei, idxD_lst, idxD_tup, idxD_scr, put_name, List.getElem?_cons_zero, List.getElem?_cons_succ, List.set_cons_zero, List.set_cons_succ, List.map_cons, List.map_nil, Option.map_some, Option.bind_some, List.cons_append, List.nil_append, List.replicate, startE, List.length_cons, List.length_nil, Nat.sub_self, Nat.reduceSub, Nat.reduceAdd, truD, if_true, if_false, Bool.not_true, Bool.not_false, Bool.false_eq_true, run_noact, Nat.zero_le, c_is_partial, cs, al, this]
  | true =>
    rw [e] at al
    cases d with
    | tup v =>
      simp only [areL] at e
      have com : ev (MP.run Γ (n + 3)) (C.com [("literal", 2)] (C.idx (C.var 2) (C.int 0)) (G.name 2) (I.of (C.var 1)) C'.no) (startE 3 [.int size, .tup v]) h = .ok (.lst (v.map fun x => .int (keyI x))) h := by
        refine ev_com (evI_of (xs := v) (s := .tup v) (.inr rfl) rfl) (comLoop_map (fun x hx => ?_) (l v rfl))
        obtain ⟨k, b, rfl, _⟩ := isL_int (List.all_eq_true.mp e x hx)
        simp only [evSs, evS, ev, tst, evs, evO, evAnd, evOr, MP.tAnd, MP.tOr, tstO, R.bind_ok, R.bind_exc, R.bindF_ok, R.bindF_exc, R.of_some, R.of_none, deref_int, deref_bl, deref_str, deref_non, deref_tup, deref_lst, deref_scr, deref_ty, deref_dct, binD_add, binD_sub, cmpD_lt, cmpD_le, cmpD_gt, cmpD_ge, cmpD_eqi, cmpD_nei, idxD_lst, idxD_tup, idxD_scr, put_name, List.getElem?_cons_zero, List.getElem?_cons_succ, List.set_cons_zero, List.set_cons_succ, List.map_cons, List.map_nil, Option.map_some, Option.bind_some, List.cons_append, List.nil_append, List.replicate, startE, List.length_cons, List.length_nil, Nat.sub_self, Nat.reduceSub, Nat.reduceAdd, truD, if_true, if_false, Bool.not_true, Bool.not_false, Bool.false_eq_true, run_noact, Nat.zero_le, wipeE, at0', keyI]
      simp only [evSs, evS, ev, tst, evs, evO, evAnd, evOr, MP.tAnd, MP.tOr, tstO, R.bind_ok, R.bind_exc, R.bindF_ok, R.bindF_exc, R.of_some, R.of_none, deref_int, deref_bl, deref_str, deref_non, deref_tup, deref_lst, deref_scr, deref_ty, deref_dct, binD_add, binD_sub, cmpD_lt, cmpD_le, cmpD_gt, cmpD_ge, cmpD_eqi, cmpD_nei, idxD_lst, idxD_tup, idxD_scr, put_name, List.getElem?_cons_zero, List.getElem?_cons_succ, List.set_cons_zero, List.set_cons_succ, List.map_cons, List.map_nil, Option.map_some, Option.bind_some, List.cons_append, List.nil_append, List.replicate, startE, List.length_cons, List.length_nil, Nat.sub_self, Nat.reduceSub, Nat.reduceAdd, truD, if_true, if_false, Bool.not_true, Bool.not_false, Bool.false_eq_true, run_noact, Nat.zero_le] at com
      have as := run_ascend w (n + 2) (ns := v.map keyI) (by simpa using l v rfl)
      rw [List.map_map] at as
      have e2 : (v.map fun x => D.int (keyI x)) = v.map (D.int ∘ keyI) := rfl
      rw [e2] at com
      simp only [evSs, evS, ev, tst, evs, evO, evAnd, evOr, MP.tAnd, MP.tOr, tstO, R.bind_ok, R.bind_exc, R.bindF_ok, R.bindF_exc, R.of_some, R.of_none, deref_int, deref_bl, deref_str, deref_non, deref_tup, deref_lst, deref_scr, deref_ty, deref_dct, binD_add, binD_sub, cmpD_lt, cmpD_le, cmpD_gt, cmpD_ge, cmpD_eqi, cmpD_nei, idxD_lst, idxD_tup, idxD_scr, put_name, List.getElem?_cons_zero, List.getElem?_cons_succ, List.set_cons_zero, List.set_cons_succ, List.map_cons, List.map_nil, Option.map_some, Option.bind_some, List.cons_append, List.nil_append, List.replicate, startE, List.length_cons, List.length_nil, Nat.sub_self, Nat.reduceSub, Nat.reduceAdd, truD, if_true, if_false, Bool.not_true, Bool.not_false, Bool.false_eq_true, run_noact, Nat.zero_le, c_is_partial, cs, al, com, as, isPart, e, Bool.true_and]
    | _ => cases e
theorem run_is_partial_not {d x : D} (q : dat d = true) (e : isB 1 7 d = false) : MP.run Γ (n + 4) "is_partial" [d, x] h = .exc ⟨"InvalidNumber", [("value", d)]⟩ h := by
  have cs := run_size_not w n q e
  have := run_exc (as := [d, x]) (n := n + 3) (h := h) (h' := h) (x := ⟨"InvalidNumber", [("value", d)]⟩) (ρ := [some d, some x, none]) (g_is_partial) rfl (by decide) (by simp only [evSs, evS, ev, tst, evs, evO, evAnd, evOr, MP.tAnd, MP.tOr, tstO, R.bind_ok, R.bind_exc, R.bindF_ok, R.bindF_exc, R.of_some, R.of_none, deref_int, deref_bl, deref_str, deref_non, deref_tup, deref_lst, deref_scr, deref_ty, deref_dct, binD_add, binD_sub, cmpD_lt, cmpD_le, cmpD_gt, cmpD_ge, cmpD_eqi, cmpD_nei, idxD_lst, idxD_tup, idxD_scr, put_name, List.getElem?_cons_zero, List.getElem?_cons_succ, List.set_cons_zero, List.set_cons_succ, List.map_cons, List.map_nil, Option.map_some, Option.bind_some, List.cons_append, List.nil_append, List.replicate, startE, List.length_cons, List.length_nil, Nat.sub_self, Nat.reduceSub, Nat.reduceAdd, truD, if_true, if_false, Bool.not_true, Bool.not_false, Bool.false_eq_true, run_noact, Nat.zero_le, c_is_partial, cs]) (by
    refine ⟨by simp [dat_refs q], ?_, Nat.le_refl _⟩
    rw [List.take_length]; exact w)
  rwa [List.take_length] at this
/-! ### the law's own answers -/
theorem run_whole {hi : Int} {d : D} (q : dat d = true) : MP.run Γ (n + 1) "_law_is_whole" [d, .int hi] h = .ok (.bl (isB 0 hi d)) h := by
  obtain ⟨t, ht⟩ := dat_ty q
  have b := bl_isi (c := "bool") ht
  have i := bl_isi (c := "int") ht
  refine run_of (g__law_is_whole) rfl (by decide) ?_ (leave_bl w)
  cases d with
  | int v =>
    cases ht
    simp only [evSs, evS, ev, tst, evs, evO, evAnd, evOr, MP.tAnd, MP.tOr, tstO, R.bind_ok, R.bind_exc, R.bindF_ok, R.bindF_exc, R.of_some, R.of_none, deref_int, deref_bl, deref_str, deref_non, deref_tup, deref_lst, deref_scr, deref_ty, deref_dct, binD_add, binD_sub, cmpD_lt, cmpD_le, cmpD_gt, cmpD_ge, cmpD_eqi, cmpD_nei, idxD_lst, idxD_tup, idxD_scr, put_name, List.getElem?_cons_zero, List.getElem?_cons_succ, List.set_cons_zero, List.set_cons_succ, List.map_cons, List.map_nil, Option.map_some, Option.bind_some, List.cons_append, List.nil_append, List.replicate, startE, List.length_cons, List.length_nil, Nat.sub_self, Nat.reduceSub, Nat.reduceAdd, truD, if_true, if_false, Bool.not_true, Bool.not_false, Bool.false_eq_true, run_noact, Nat.zero_le, c__law_is_whole, b, i, isIsi]
    by_cases c : 0 ≤ v <;> simp [c, isB]
  | bl v => cases ht; simp only [evSs, evS, ev, tst, evs, evO, evAnd, evOr, MP.tAnd, MP.tOr, tstO, R.bind_ok, R.bind_exc, R.bindF_ok, R.bindF_exc, R.of_some, R.of_none, deref_int, deref_bl, deref_str, deref_non, deref_tup, deref_lst, deref_scr, deref_ty, deref_dct, binD_add, binD_sub, cmpD_lt, cmpD_le, cmpD_gt, cmpD_ge, cmpD_eqi, cmpD_nei, idxD_lst, idxD_tup, idxD_scr, put_name, List.getElem?_cons_zero, List.getElem?_cons_succ, List.set_cons_zero, List.set_cons_succ, List.map_cons, List.map_nil, Option.map_some, Option.bind_some, List.cons_append, List.nil_append, List.replicate, startE, List.length_cons, List.length_nil, Nat.sub_self, Nat.reduceSub, Nat.reduceAdd, truD, if_true, if_false, Bool.not_true, Bool.not_false, Bool.false_eq_true, run_noact, Nat.zero_le, c__law_is_whole, b, i, isIsi]; rfl
  | non => cases ht; simp only [evSs, evS, ev, tst, evs, evO, evAnd, evOr, MP.tAnd, MP.tOr, tstO, R.bind_ok, R.bind_exc, R.bindF_ok, R.bindF_exc, R.of_some, R.of_none, deref_int, deref_bl, deref_str, deref_non, deref_tup, deref_lst, deref_scr, deref_ty, deref_dct, binD_add, binD_sub, cmpD_lt, cmpD_le, cmpD_gt, cmpD_ge, cmpD_eqi, cmpD_nei, idxD_lst, idxD_tup, idxD_scr, put_name, List.getElem?_cons_zero, List.getElem?_cons_succ, List.set_cons_zero, List.set_cons_succ, List.map_cons, List.map_nil, Option.map_some, Option.bind_some, List.cons_append, List.nil_append, List.replicate, startE, List.length_cons, List.length_nil, Nat.sub_self, Nat.reduceSub, Nat.reduceAdd, truD, if_true, if_false, Bool.not_true, Bool.not_false, Bool.false_eq_true, run_noact, Nat.zero_le, c__law_is_whole, b, i, isIsi]; rfl
  | str v => cases ht; simp only [evSs, evS, ev, tst, evs, evO, evAnd, evOr, MP.tAnd, MP.tOr, tstO, R.bind_ok, R.bind_exc, R.bindF_ok, R.bindF_exc, R.of_some, R.of_none, deref_int, deref_bl, deref_str, deref_non, deref_tup, deref_lst, deref_scr, deref_ty, deref_dct, binD_add, binD_sub, cmpD_lt, cmpD_le, cmpD_gt, cmpD_ge, cmpD_eqi, cmpD_nei, idxD_lst, idxD_tup, idxD_scr, put_name, List.getElem?_cons_zero, List.getElem?_cons_succ, List.set_cons_zero, List.set_cons_succ, List.map_cons, List.map_nil, Option.map_some, Option.bind_some, List.cons_append, List.nil_append, List.replicate, startE, List.length_cons, List.length_nil, Nat.sub_self, Nat.reduceSub, Nat.reduceAdd, truD, if_true, if_false, Bool.not_true, Bool.not_false, Bool.false_eq_true, run_noact, Nat.zero_le, c__law_is_whole, b, i, isIsi]; rfl
  | tup v => cases ht; simp only [evSs, evS, ev, tst, evs, evO, evAnd, evOr, MP.tAnd, MP.tOr, tstO, R.bind_ok, R.bind_exc, R.bindF_ok, R.bindF_exc, R.of_some, R.of_none, deref_int, deref_bl, deref_str, deref_non, deref_tup, deref_lst, deref_scr, deref_ty, deref_dct, binD_add, binD_sub, cmpD_lt, cmpD_le, cmpD_gt, cmpD_ge, cmpD_eqi, cmpD_nei, idxD_lst, idxD_tup, idxD_scr, put_name, List.getElem?_cons_zero, List.getElem?_cons_succ, List.set_cons_zero, List.set_cons_succ, List.map_cons, List.map_nil, Option.map_some, Option.bind_some, List.cons_append, List.nil_append, List.replicate, startE, List.length_cons, List.length_nil, Nat.sub_self, Nat.reduceSub, Nat.reduceAdd, truD, if_true, if_false, Bool.not_true, Bool.not_false, Bool.false_eq_true, run_noact, Nat.zero_le, c__law_is_whole, b, i, isIsi]; rfl
  | lst v => cases ht; simp only [evSs, evS, ev, tst, evs, evO, evAnd, evOr, MP.tAnd, MP.tOr, tstO, R.bind_ok, R.bind_exc, R.bindF_ok, R.bindF_exc, R.of_some, R.of_none, deref_int, deref_bl, deref_str, deref_non, deref_tup, deref_lst, deref_scr, deref_ty, deref_dct, binD_add, binD_sub, cmpD_lt, cmpD_le, cmpD_gt, cmpD_ge, cmpD_eqi, cmpD_nei, idxD_lst, idxD_tup, idxD_scr, put_name, List.getElem?_cons_zero, List.getElem?_cons_succ, List.set_cons_zero, List.set_cons_succ, List.map_cons, List.map_nil, Option.map_some, Option.bind_some, List.cons_append, List.nil_append, List.replicate, startE, List.length_cons, List.length_nil, Nat.sub_self, Nat.reduceSub, Nat.reduceAdd, truD, if_true, if_false, Bool.not_true, Bool.not_false, Bool.false_eq_true, run_noact, Nat.zero_le, c__law_is_whole, b, i, isIsi]; rfl
  | dct v => cases ht; simp only [evSs, evS, ev, tst, evs, evO, evAnd, evOr, MP.tAnd, MP.tOr, tstO, R.bind_ok, R.bind_exc, R.bindF_ok, R.bindF_exc, R.of_some, R.of_none, deref_int, deref_bl, deref_str, deref_non, deref_tup, deref_lst, deref_scr, deref_ty, deref_dct, binD_add, binD_sub, cmpD_lt, cmpD_le, cmpD_gt, cmpD_ge, cmpD_eqi, cmpD_nei, idxD_lst, idxD_tup, idxD_scr, put_name, List.getElem?_cons_zero, List.getElem?_cons_succ, List.set_cons_zero, List.set_cons_succ, List.map_cons, List.map_nil, Option.map_some, Option.bind_some, List.cons_append, List.nil_append, List.replicate, startE, List.length_cons, List.length_nil, Nat.sub_self, Nat.reduceSub, Nat.reduceAdd, truD, if_true, if_false, Bool.not_true, Bool.not_false, Bool.false_eq_true, run_noact, Nat.zero_le, c__law_is_whole, b, i, isIsi]; rfl
  | _ => cases ht
omit w in
theorem ones {p : D → Bool} : ∀ {xs : List D}, xs.filterMap (fun x => if p x then none else some (D.int 1)) = ((xs.filterMap fun x => if p x then none else some (1 : Int)).map .int) ∧ (xs.filterMap fun x => if p x then none else some (1 : Int)).isEmpty = xs.all p
  | [] => ⟨rfl, rfl⟩
  | x :: xs => by
    obtain ⟨e1, e2⟩ := ones (p := p) (xs := xs)
    by_cases c : p x = true
    · simp only [List.filterMap_cons, c, if_true, List.all_cons, Bool.true_and]
      exact ⟨e1, e2⟩
    · simp [List.filterMap_cons, c, e1]
theorem run_lrow {size : Nat} {d : D} (q : dat d = true) (l : ∀ xs, d = .tup xs → xs.length ≤ sizeLine) : MP.run Γ (n + 2) "_law_is_row" [.int size, d] h = .ok (.bl (isRow size d)) h := by
  obtain ⟨t, ht⟩ := dat_ty q
  have b := bl_isi (c := "tuple") ht
  refine run_of (g__law_is_row) rfl (by decide) ?_ (leave_bl w)
  cases d with
  | tup v =>
    cases ht
    rw [dat_tup, dats_iff] at q
    have com : ev (MP.run Γ (n + 1)) (C.com [("bit", 2)] (C.int 1) (G.name 2) (I.of (C.var 1)) (C'.yes (C.not (C.call "_law_is_whole" (Cs.cons (C.var 2) (Cs.cons (C.int 1) Cs.nil)))))) (startE 3 [.int size, .tup v]) h = .ok (.lst (v.filterMap fun x => if isB 0 1 x then none else some (D.int 1))) h := by
      refine ev_com (evI_of (xs := v) (s := .tup v) (.inr rfl) rfl) ?_
      have := comLoop_opt (turn := fun x h => match put (.name 2) x (wipeE (startE 3 [.int size, .tup v]) [2]) with
        | some ρ' => (tstO (MP.run Γ (n + 1)).noact (C'.yes (C.not (C.call "_law_is_whole" (Cs.cons (C.var 2) (Cs.cons (C.int 1) Cs.nil))))) ρ' h).bind fun c h => if c then (ev (MP.run Γ (n + 1)).noact (C.int 1) ρ' h).bind fun y h => .ok (some y) h else .ok none h
        | none => .bad) (f := fun x => if isB 0 1 x then none else some (D.int 1)) (h := h) (xs := v) (acc := []) (fun x hx => ?_) (by simpa using l v rfl)
      · exact this
      · simp only [evSs, evS, ev, tst, evs, evO, evAnd, evOr, MP.tAnd, MP.tOr, tstO, R.bind_ok, R.bind_exc, R.bindF_ok, R.bindF_exc, R.of_some, R.of_none, deref_int, deref_bl, deref_str, deref_non, deref_tup, deref_lst, deref_scr, deref_ty, deref_dct, binD_add, binD_sub, cmpD_lt, cmpD_le, cmpD_gt, cmpD_ge, cmpD_eqi, cmpD_nei, idxD_lst, idxD_tup, idxD_scr, put_name, List.getElem?_cons_zero, List.getElem?_cons_succ, List.set_cons_zero, List.set_cons_succ, List.map_cons, List.map_nil, Option.map_some, Option.bind_some, List.cons_append, List.nil_append, List.replicate, startE, List.length_cons, List.length_nil, Nat.sub_self, Nat.reduceSub, Nat.reduceAdd, truD, if_true, if_false, Bool.not_true, Bool.not_false, Bool.false_eq_true, run_noact, Nat.zero_le, wipeE, run_whole w n (q x hx)]
        cases isB 0 1 x <;> rfl
    simp only [evSs, evS, ev, tst, evs, evO, evAnd, evOr, MP.tAnd, MP.tOr, tstO, R.bind_ok, R.bind_exc, R.bindF_ok, R.bindF_exc, R.of_some, R.of_none, deref_int, deref_bl, deref_str, deref_non, deref_tup, deref_lst, deref_scr, deref_ty, deref_dct, binD_add, binD_sub, cmpD_lt, cmpD_le, cmpD_gt, cmpD_ge, cmpD_eqi, cmpD_nei, idxD_lst, idxD_tup, idxD_scr, put_name, List.getElem?_cons_zero, List.getElem?_cons_succ, List.set_cons_zero, List.set_cons_succ, List.map_cons, List.map_nil, Option.map_some, Option.bind_some, List.cons_append, List.nil_append, List.replicate, startE, List.length_cons, List.length_nil, Nat.sub_self, Nat.reduceSub, Nat.reduceAdd, truD, if_true, if_false, Bool.not_true, Bool.not_false, Bool.false_eq_true, run_noact, Nat.zero_le] at com
    obtain ⟨o1, o2⟩ := ones (p := isB 0 1) (xs := v)
    rw [o1] at com
    by_cases c : v.length = size
    · subst c
      simp only [evSs, evS, ev, tst, evs, evO, evAnd, evOr, MP.tAnd, MP.tOr, tstO, R.bind_ok, R.bind_exc, R.bindF_ok, R.bindF_exc, R.of_some, R.of_none, deref_int, deref_bl, deref_str, deref_non, deref_tup, deref_lst, deref_scr, deref_ty, deref_dct, binD_add, binD_sub, cmpD_lt, cmpD_le, cmpD_gt, cmpD_ge, cmpD_eqi, cmpD_nei, idxD_lst, idxD_tup, idxD_scr, put_name, List.getElem?_cons_zero, List.getElem?_cons_succ, List.set_cons_zero, List.set_cons_succ, List.map_cons, List.map_nil, Option.map_some, Option.bind_some, List.cons_append, List.nil_append, List.replicate, startE, List.length_cons, List.length_nil, Nat.sub_self, Nat.reduceSub, Nat.reduceAdd, truD, if_true, if_false, Bool.not_true, Bool.not_false, Bool.false_eq_true, run_noact, Nat.zero_le, c__law_is_row, b, isIsi, bl_len_tup, com, cmp_nil, o2, isRow, decide_true, Bool.true_and, Nat.zero_le]
    · have c' : ¬ (v.length : Int) = (size : Int) := by omega
      simp only [evSs, evS, ev, tst, evs, evO, evAnd, evOr, MP.tAnd, MP.tOr, tstO, R.bind_ok, R.bind_exc, R.bindF_ok, R.bindF_exc, R.of_some, R.of_none, deref_int, deref_bl, deref_str, deref_non, deref_tup, deref_lst, deref_scr, deref_ty, deref_dct, binD_add, binD_sub, cmpD_lt, cmpD_le, cmpD_gt, cmpD_ge, cmpD_eqi, cmpD_nei, idxD_lst, idxD_tup, idxD_scr, put_name, List.getElem?_cons_zero, List.getElem?_cons_succ, List.set_cons_zero, List.set_cons_succ, List.map_cons, List.map_nil, Option.map_some, Option.bind_some, List.cons_append, List.nil_append, List.replicate, startE, List.length_cons, List.length_nil, Nat.sub_self, Nat.reduceSub, Nat.reduceAdd, truD, if_true, if_false, Bool.not_true, Bool.not_false, Bool.false_eq_true, run_noact, Nat.zero_le, c__law_is_row, b, isIsi, bl_len_tup, isRow, c, c', decide_false, Bool.false_and]
  | int v => cases ht; simp only [evSs, evS, ev, tst, evs, evO, evAnd, evOr, MP.tAnd, MP.tOr, tstO, R.bind_ok, R.bind_exc, R.bindF_ok, R.bindF_exc, R.of_some, R.of_none, deref_int, deref_bl, deref_str, deref_non, deref_tup, deref_lst, deref_scr, deref_ty, deref_dct, binD_add, binD_sub, cmpD_lt, cmpD_le, cmpD_gt, cmpD_ge, cmpD_eqi, cmpD_nei, idxD_lst, idxD_tup, idxD_scr, put_name, List.getElem?_cons_zero, List.getElem?_cons_succ, List.set_cons_zero, List.set_cons_succ, List.map_cons, List.map_nil, Option.map_some, Option.bind_some, List.cons_append, List.nil_append, List.replicate, startE, List.length_cons, List.length_nil, Nat.sub_self, Nat.reduceSub, Nat.reduceAdd, truD, if_true, if_false, Bool.not_true, Bool.not_false, Bool.false_eq_true, run_noact, Nat.zero_le, c__law_is_row, b, isIsi]; rfl
  | bl v => cases ht; simp only [evSs, evS, ev, tst, evs, evO, evAnd, evOr, MP.tAnd, MP.tOr, tstO, R.bind_ok, R.bind_exc, R.bindF_ok, R.bindF_exc, R.of_some, R.of_none, deref_int, deref_bl, deref_str, deref_non, deref_tup, deref_lst, deref_scr, deref_ty, deref_dct, binD_add, binD_sub, cmpD_lt, cmpD_le, cmpD_gt, cmpD_ge, cmpD_eqi, cmpD_nei, idxD_lst, idxD_tup, idxD_scr, put_name, List.getElem?_cons_zero, List.getElem?_cons_succ, List.set_cons_zero, List.set_cons_succ, List.map_cons, List.map_nil, Option.map_some, Option.bind_some, List.cons_append, List.nil_append, List.replicate, startE, List.length_cons, List.length_nil, Nat.sub_self, Nat.reduceSub, Nat.reduceAdd, truD, if_true, if_false, Bool.not_true, Bool.not_false, Bool.false_eq_true, run_noact, Nat.zero_le, c__law_is_row, b, isIsi]; rfl
  | non => cases ht; simp only [evSs, evS, ev, tst, evs, evO, evAnd, evOr, MP.tAnd, MP.tOr, tstO, R.bind_ok, R.bind_exc, R.bindF_ok, R.bindF_exc, R.of_some, R.of_none, deref_int, deref_bl, deref_str, deref_non, deref_tup, deref_lst, deref_scr, deref_ty, deref_dct, binD_add, binD_sub, cmpD_lt, cmpD_le, cmpD_gt, cmpD_ge, cmpD_eqi, cmpD_nei, idxD_lst, idxD_tup, idxD_scr, put_name, List.getElem?_cons_zero, List.getElem?_cons_succ, List.set_cons_zero, List.set_cons_succ, List.map_cons, List.map_nil, Option.map_some, Option.bind_some, List.cons_append, List.nil_append, List.replicate, startE, List.length_cons, List.length_nil, Nat.sub_self, Nat.reduceSub, Nat.reduceAdd, truD, if_true, if_false, Bool.not_true, Bool.not_false, Bool.false_eq_true, run_noact, Nat.zero_le, c__law_is_row, b, isIsi]; rfl
  | str v => cases ht; simp only [evSs, evS, ev, tst, evs, evO, evAnd, evOr, MP.tAnd, MP.tOr, tstO, R.bind_ok, R.bind_exc, R.bindF_ok, R.bindF_exc, R.of_some, R.of_none, deref_int, deref_bl, deref_str, deref_non, deref_tup, deref_lst, deref_scr, deref_ty, deref_dct, binD_add, binD_sub, cmpD_lt, cmpD_le, cmpD_gt, cmpD_ge, cmpD_eqi, cmpD_nei, idxD_lst, idxD_tup, idxD_scr, put_name, List.getElem?_cons_zero, List.getElem?_cons_succ, List.set_cons_zero, List.set_cons_succ, List.map_cons, List.map_nil, Option.map_some, Option.bind_some, List.cons_append, List.nil_append, List.replicate, startE, List.length_cons, List.length_nil, Nat.sub_self, Nat.reduceSub, Nat.reduceAdd, truD, if_true, if_false, Bool.not_true, Bool.not_false, Bool.false_eq_true, run_noact, Nat.zero_le, c__law_is_row, b, isIsi]; rfl
  | lst v => cases ht; simp only [evSs, evS, ev, tst, evs, evO, evAnd, evOr, MP.tAnd, MP.tOr, tstO, R.bind_ok, R.bind_exc, R.bindF_ok, R.bindF_exc, R.of_some, R.of_none, deref_int, deref_bl, deref_str, deref_non, deref_tup, deref_lst, deref_scr, deref_ty, deref_dct, binD_add, binD_sub, cmpD_lt, cmpD_le, cmpD_gt, cmpD_ge, cmpD_eqi, cmpD_nei, idxD_lst, idxD_tup, idxD_scr, put_name, List.getElem?_cons_zero, List.getElem?_cons_succ, List.set_cons_zero, List.set_cons_succ, List.map_cons, List.map_nil, Option.map_some, Option.bind_some, List.cons_append, List.nil_append, List.replicate, startE, List.length_cons, List.length_nil, Nat.sub_self, Nat.reduceSub, Nat.reduceAdd, truD, if_true, if_false, Bool.not_true, Bool.not_false, Bool.false_eq_true, run_noact, Nat.zero_le, c__law_is_row, b, isIsi]; rfl
  | dct v => cases ht; simp only [evSs, evS, ev, tst, evs, evO, evAnd, evOr, MP.tAnd, MP.tOr, tstO, R.bind_ok, R.bind_exc, R.bindF_ok, R.bindF_exc, R.of_some, R.of_none, deref_int, deref_bl, deref_str, deref_non, deref_tup, deref_lst, deref_scr, deref_ty, deref_dct, binD_add, binD_sub, cmpD_lt, cmpD_le, cmpD_gt, cmpD_ge, cmpD_eqi, cmpD_nei, idxD_lst, idxD_tup, idxD_scr, put_name, List.getElem?_cons_zero, List.getElem?_cons_succ, List.set_cons_zero, List.set_cons_succ, List.map_cons, List.map_nil, Option.map_some, Option.bind_some, List.cons_append, List.nil_append, List.replicate, startE, List.length_cons, List.length_nil, Nat.sub_self, Nat.reduceSub, Nat.reduceAdd, truD, if_true, if_false, Bool.not_true, Bool.not_false, Bool.false_eq_true, run_noact, Nat.zero_le, c__law_is_row, b, isIsi]; rfl
  | _ => cases ht
def lpart (size : Int) : Int → List D → Bool
  | _, [] => true
  | last, x :: r => isL size x && (decide (last < keyI x) && lpart size (keyI x) r)
omit w in
theorem lpart_eq {size : Int} : ∀ {xs : List D} {last : Int}, lpart size last xs = (xs.all (isL size) && ascI (last :: xs.map keyI))
  | [], _ => rfl
  | x :: r, last => by
    rw [lpart, lpart_eq]
    simp only [List.all_cons, List.map_cons, ascI]
    cases isL size x <;> cases decide (last < keyI x) <;> cases r.all (isL size) <;> simp
omit w in
theorem lpart_is {size : Int} {xs : List D} : lpart size (-1) xs = isPart size (.tup xs) := by
  rw [lpart_eq]
  simp only [isPart]
  cases e : xs.all (isL size) with
  | false => rfl
  | true =>
    cases xs with
    | nil => rfl
    | cons x r =>
      simp only [List.all_cons, Bool.and_eq_true] at e
      obtain ⟨k, b, rfl, hk⟩ := isL_int e.1
      simp only [List.map_cons, ascI, keyI]
      have : (-1 : Int) < k := by omega
      simp [this]
theorem run_lpart {size : Nat} {d : D} (q : dat d = true) : MP.run Γ (n + 2) "_law_is_partial" [.int size, d] h = .ok (.bl (isPart size d)) h := by
  obtain ⟨t, ht⟩ := dat_ty q
  have b := bl_isi (c := "tuple") ht
  refine run_of (g__law_is_partial) rfl (by decide) ?_ (leave_bl w)
  cases d with
  | tup v =>
    cases ht
    rw [dat_tup] at q
    have loop : ∀ (xs : List D) (last : Int) (o : Option D), dats xs = true → ∃ last' o', forLoop (fun x ρ h' => match put (.name 3) x ρ with
        | some ρ' => if h.length ≤ h'.length then evSs (MP.run Γ (n + 1)) (Ss.cons (S.ite (C.or (Cs.cons (C.not (C.blt "isinstance" (Cs.cons (C.var 3) (Cs.cons (C.typ "tuple" "tuple") Cs.nil)))) (Cs.cons (C.cmp .NotEq (C.blt "len" (Cs.cons (C.var 3) Cs.nil)) (C.int 2)) Cs.nil))) (Ss.cons (S.ret (C.bl false)) Ss.nil) Ss.nil) (Ss.cons (S.ite (C.or (Cs.cons (C.not (C.call "_law_is_whole" (Cs.cons (C.idx (C.var 3) (C.int 0)) (Cs.cons (C.bin .Sub (C.var 0) (C.int 1)) Cs.nil)))) (Cs.cons (C.not (C.call "_law_is_whole" (Cs.cons (C.idx (C.var 3) (C.int 1)) (Cs.cons (C.int 1) Cs.nil)))) (Cs.cons (C.cmp .LtE (C.idx (C.var 3) (C.int 0)) (C.var 2)) Cs.nil)))) (Ss.cons (S.ret (C.bl false)) Ss.nil) Ss.nil) (Ss.cons (S.set (G.name 2) (C.idx (C.var 3) (C.int 0))) Ss.nil))) h.length ρ' h' else .bad
        | none => .bad) xs [some (.int size), some (.tup v), some (.int last), o] h = if lpart size last xs then .ok (.nx [some (.int size), some (.tup v), some (.int last'), o']) h else .ok (.rt (.bl false)) h := by
      intro xs
      induction xs with
      | nil => intro last o _; exact ⟨last, o, rfl⟩
      | cons x r ih =>
        intro last o qs
        have qx := dats_iff.mp qs x List.mem_cons_self
        have qr : dats r = true := dats_iff.mpr fun y hy => dats_iff.mp qs y (List.mem_cons_of_mem _ hy)
        obtain ⟨t, ht⟩ := dat_ty qx
        have b := bl_isi (c := "tuple") ht
        cases c : isPr x with
        | false =>
          refine ⟨last, o, ?_⟩
          rw [lpart, isL_not c, Bool.false_and]
          simp only [forLoop, put_name, List.set_cons_succ, List.set_cons_zero, Nat.le_refl, if_true]
          cases x with
          | tup u =>
            cases ht
            have c' : ¬ (u.length : Int) = 2 := by simp only [isPr, decide_eq_false_iff_not] at c; omega
            simp only [evSs, evS, ev, tst, evs, evO, evAnd, evOr, MP.tAnd, MP.tOr, tstO, R.bind_ok, R.bind_exc, R.bindF_ok, R.bindF_exc, R.of_some, R.of_none, deref_int, deref_bl, deref_str, deref_non, deref_tup, deref_lst, deref_scr, deref_ty, deref_dct, binD_add, binD_sub, cmpD_lt, cmpD_le, cmpD_gt, cmpD_ge, cmpD_eqi, cmpD_nei, idxD_lst, idxD_tup, idxD_scr, put_name, List.getElem?_cons_zero, List.getElem?_cons_succ, List.set_cons_zero, List.set_cons_succ, List.map_cons, List.map_nil, Option.map_some, Option.bind_some, List.cons_append, List.nil_append, List.replicate, startE, List.length_cons, List.length_nil, Nat.sub_self, Nat.reduceSub, Nat.reduceAdd, truD, if_true, if_false, Bool.not_true, Bool.not_false, Bool.false_eq_true, run_noact, Nat.zero_le, b, isIsi, bl_len_tup, c', decide_false]
          | int u => cases ht; simp only [evSs, evS, ev, tst, evs, evO, evAnd, evOr, MP.tAnd, MP.tOr, tstO, R.bind_ok, R.bind_exc, R.bindF_ok, R.bindF_exc, R.of_some, R.of_none, deref_int, deref_bl, deref_str, deref_non, deref_tup, deref_lst, deref_scr, deref_ty, deref_dct, binD_add, binD_sub, cmpD_lt, cmpD_le, cmpD_gt, cmpD_ge, cmpD_eqi, cmpD_nei, idxD_lst, idxD_tup, idxD_scr, put_name, List.getElem?_cons_zero, List.getElem?_cons_succ, List.set_cons_zero, List.set_cons_succ, List.map_cons, List.map_nil, Option.map_some, Option.bind_some, List.cons_append, List.nil_append, List.replicate, startE, List.length_cons, List.length_nil, Nat.sub_self, Nat.reduceSub, Nat.reduceAdd, truD, if_true, if_false, Bool.not_true, Bool.not_false, Bool.false_eq_true, run_noact, Nat.zero_le, b, isIsi]
          | bl u => cases ht; simp only [evSs, evS, ev, tst, evs, evO, evAnd, evOr, MP.tAnd, MP.tOr, tstO, R.bind_ok, R.bind_exc, R.bindF_ok, R.bindF_exc, R.of_some, R.of_none, deref_int, deref_bl, deref_str, deref_non, deref_tup, deref_lst, deref_scr, deref_ty, deref_dct, binD_add, binD_sub, cmpD_lt, cmpD_le, cmpD_gt, cmpD_ge, cmpD_eqi, cmpD_nei, idxD_lst, idxD_tup, idxD_scr, put_name, List.getElem?_cons_zero, List.getElem?_cons_succ, List.set_cons_zero, List.set_cons_succ, List.map_cons, List.map_nil, Option.map_some, Option.bind_some, List.cons_append, List.nil_append, List.replicate, startE, List.length_cons, List.length_nil, Nat.sub_self, Nat.reduceSub, Nat.reduceAdd, truD, if_true, if_false, Bool.not_true, Bool.not_false, Bool.false_eq_true, run_noact, Nat.zero_le, b, isIsi]
          | non => cases ht; simp only [evSs, evS, ev, tst, evs, evO, evAnd, evOr, MP.tAnd, MP.tOr, tstO, R.bind_ok, R.bind_exc, R.bindF_ok, R.bindF_exc, R.of_some, R.of_none, deref_int, deref_bl, deref_str, deref_non, deref_tup, deref_lst, deref_scr, deref_ty, deref_dct, binD_add, binD_sub, cmpD_lt, cmpD_le, cmpD_gt, cmpD_ge, cmpD_eqi, cmpD_nei, idxD_lst, idxD_tup, idxD_scr, put_name, List.getElem?_cons_zero, List.getElem?_cons_succ, List.set_cons_zero, List.set_cons_succ, List.map_cons, List.map_nil, Option.map_some, Option.bind_some, List.cons_append, List.nil_append, List.replicate, startE, List.length_cons, List.length_nil, Nat.sub_self, Nat.reduceSub, Nat.reduceAdd, truD, if_true, if_false, Bool.not_true, Bool.not_false, Bool.false_eq_true, run_noact, Nat.zero_le, b, isIsi]
          | str u => cases ht; simp only [evSs, evS, ev, tst, evs, evO, evAnd, evOr, MP.tAnd, MP.tOr, tstO, R.bind_ok, R.bind_exc, R.bindF_ok, R.bindF_exc, R.of_some, R.of_none, deref_int, deref_bl, deref_str, deref_non, deref_tup, deref_lst, deref_scr, deref_ty, deref_dct, binD_add, binD_sub, cmpD_lt, cmpD_le, cmpD_gt, cmpD_ge, cmpD_eqi, cmpD_nei, idxD_lst, idxD_tup, idxD_scr, put_name, List.getElem?_cons_zero, List.getElem?_cons_succ, List.set_cons_zero, List.set_cons_succ, List.map_cons, List.map_nil, Option.map_some, Option.bind_some, List.cons_append, List.nil_append, List.replicate, startE, List.length_cons, List.length_nil, Nat.sub_self, Nat.reduceSub, Nat.reduceAdd, truD, if_true, if_false, Bool.not_true, Bool.not_false, Bool.false_eq_true, run_noact, Nat.zero_le, b, isIsi]
          | lst u => cases ht; simp only [evSs, evS, ev, tst, evs, evO, evAnd, evOr, MP.tAnd, MP.tOr, tstO, R.bind_ok, R.bind_exc, R.bindF_ok, R.bindF_exc, R.of_some, R.of_none, deref_int, deref_bl, deref_str, deref_non, deref_tup, deref_lst, deref_scr, deref_ty, deref_dct, binD_add, binD_sub, cmpD_lt, cmpD_le, cmpD_gt, cmpD_ge, cmpD_eqi, cmpD_nei, idxD_lst, idxD_tup, idxD_scr, put_name, List.getElem?_cons_zero, List.getElem?_cons_succ, List.set_cons_zero, List.set_cons_succ, List.map_cons, List.map_nil, Option.map_some, Option.bind_some, List.cons_append, List.nil_append, List.replicate, startE, List.length_cons, List.length_nil, Nat.sub_self, Nat.reduceSub, Nat.reduceAdd, truD, if_true, if_false, Bool.not_true, Bool.not_false, Bool.false_eq_true, run_noact, Nat.zero_le, b, isIsi]
          | dct u => cases ht; simp only [evSs, evS, ev, tst, evs, evO, evAnd, evOr, MP.tAnd, MP.tOr, tstO, R.bind_ok, R.bind_exc, R.bindF_ok, R.bindF_exc, R.of_some, R.of_none, deref_int, deref_bl, deref_str, deref_non, deref_tup, deref_lst, deref_scr, deref_ty, deref_dct, binD_add, binD_sub, cmpD_lt, cmpD_le, cmpD_gt, cmpD_ge, cmpD_eqi, cmpD_nei, idxD_lst, idxD_tup, idxD_scr, put_name, List.getElem?_cons_zero, List.getElem?_cons_succ, List.set_cons_zero, List.set_cons_succ, List.map_cons, List.map_nil, Option.map_some, Option.bind_some, List.cons_append, List.nil_append, List.replicate, startE, List.length_cons, List.length_nil, Nat.sub_self, Nat.reduceSub, Nat.reduceAdd, truD, if_true, if_false, Bool.not_true, Bool.not_false, Bool.false_eq_true, run_noact, Nat.zero_le, b, isIsi]
          | _ => cases ht
        | true =>
          obtain ⟨a1, a2, rfl⟩ := isPr_two c
          cases ht
          rw [dat_tup, dats_iff] at qx
          have w1 := run_whole w n (hi := size - 1) (qx a1 (by simp))
          have w2 := run_whole w n (hi := 1) (qx a2 (by simp))
          cases e1 : isB 0 (size - 1) a1 with
          | false =>
            rw [e1] at w1
            refine ⟨last, o, ?_⟩
            simp only [forLoop, put_name, List.set_cons_succ, List.set_cons_zero, Nat.le_refl, if_true]
            rw [show lpart size last (.tup [a1, a2] :: r) = false by simp [lpart, isL, e1]]
            simp only [evSs, evS, ev, tst, evs, evO, evAnd, evOr, MP.tAnd, MP.tOr, tstO, R.bind_ok, R.bind_exc, R.bindF_ok, R.bindF_exc, R.of_some, R.of_none, deref_int, deref_bl, deref_str, deref_non, deref_tup, deref_lst, deref_scr, deref_ty, deref_dct, binD_add, binD_sub, cmpD_lt, cmpD_le, cmpD_gt, cmpD_ge, cmpD_eqi, cmpD_nei, idxD_lst, idxD_tup, idxD_scr, put_name, List.getElem?_cons_zero, List.getElem?_cons_succ, List.set_cons_zero, List.set_cons_succ, List.map_cons, List.map_nil, Option.map_some, Option.bind_some, List.cons_append, List.nil_append, List.replicate, startE, List.length_cons, List.length_nil, Nat.sub_self, Nat.reduceSub, Nat.reduceAdd, truD, if_true, if_false, Bool.not_true, Bool.not_false, Bool.false_eq_true, run_noact, Nat.zero_le, b, isIsi, bl_len_tup, at0', at1', w1, decide_true, Int.cast_ofNat_Int]
          | true =>
            rw [e1] at w1
            cases e2 : isB 0 1 a2 with
            | false =>
              rw [e2] at w2
              refine ⟨last, o, ?_⟩
              simp only [forLoop, put_name, List.set_cons_succ, List.set_cons_zero, Nat.le_refl, if_true]
              rw [show lpart size last (.tup [a1, a2] :: r) = false by simp [lpart, isL, e1, e2]]
              simp only [evSs, evS, ev, tst, evs, evO, evAnd, evOr, MP.tAnd, MP.tOr, tstO, R.bind_ok, R.bind_exc, R.bindF_ok, R.bindF_exc, R.of_some, R.of_none, deref_int, deref_bl, deref_str, deref_non, deref_tup, deref_lst, deref_scr, deref_ty, deref_dct, binD_add, binD_sub, cmpD_lt, cmpD_le, cmpD_gt, cmpD_ge, cmpD_eqi, cmpD_nei, idxD_lst, idxD_tup, idxD_scr, put_name, List.getElem?_cons_zero, List.getElem?_cons_succ, List.set_cons_zero, List.set_cons_succ, List.map_cons, List.map_nil, Option.map_some, Option.bind_some, List.cons_append, List.nil_append, List.replicate, startE, List.length_cons, List.length_nil, Nat.sub_self, Nat.reduceSub, Nat.reduceAdd, truD, if_true, if_false, Bool.not_true, Bool.not_false, Bool.false_eq_true, run_noact, Nat.zero_le, b, isIsi, bl_len_tup, at0', at1', w1, w2, decide_true, Int.cast_ofNat_Int]
            | true =>
              rw [e2] at w2
              cases a1 with
              | int k =>
                by_cases lk : last < k
                · obtain ⟨l', o', e⟩ := ih k (some (.tup [.int k, a2])) qr
                  refine ⟨l', o', ?_⟩
                  simp only [forLoop, put_name, List.set_cons_succ, List.set_cons_zero, Nat.le_refl, if_true]
                  rw [show lpart size last (.tup [.int k, a2] :: r) = lpart size k r by simp [lpart, isL, e1, e2, keyI, lk]]
                  have nk : ¬ k ≤ last := by omega
                  simp only [evSs, evS, ev, tst, evs, evO, evAnd, evOr, MP.tAnd, MP.tOr, tstO, R.bind_ok, R.bind_exc, R.bindF_ok, R.bindF_exc, R.of_some, R.of_none, deref_int, deref_bl, deref_str, deref_non, deref_tup, deref_lst, deref_scr, deref_ty, deref_dct, binD_add, binD_sub, cmpD_lt, cmpD_le, cmpD_gt, cmpD_ge, cmpD_eqi, cmpD_nei, idxD_lst, idxD_tup, idxD_scr, put_name, List.getElem?_cons_zero, List.getElem?_cons_succ, List.set_cons_zero, List.set_cons_succ, List.map_cons, List.map_nil, Option.map_some, Option.bind_some, List.cons_append, List.nil_append, List.replicate, startE, List.length_cons, List.length_nil, Nat.sub_self, Nat.reduceSub, Nat.reduceAdd, truD, if_true, if_false, Bool.not_true, Bool.not_false, Bool.false_eq_true, run_noact, Nat.zero_le, b, isIsi, bl_len_tup, at0', at1', w1, w2, decide_true, Int.cast_ofNat_Int, nk, decide_false]
                  exact e
                · refine ⟨last, o, ?_⟩
                  simp only [forLoop, put_name, List.set_cons_succ, List.set_cons_zero, Nat.le_refl, if_true]
                  rw [show lpart size last (.tup [.int k, a2] :: r) = false by simp [lpart, isL, e1, e2, keyI, lk]]
                  have nk : k ≤ last := by omega
                  simp only [evSs, evS, ev, tst, evs, evO, evAnd, evOr, MP.tAnd, MP.tOr, tstO, R.bind_ok, R.bind_exc, R.bindF_ok, R.bindF_exc, R.of_some, R.of_none, deref_int, deref_bl, deref_str, deref_non, deref_tup, deref_lst, deref_scr, deref_ty, deref_dct, binD_add, binD_sub, cmpD_lt, cmpD_le, cmpD_gt, cmpD_ge, cmpD_eqi, cmpD_nei, idxD_lst, idxD_tup, idxD_scr, put_name, List.getElem?_cons_zero, List.getElem?_cons_succ, List.set_cons_zero, List.set_cons_succ, List.map_cons, List.map_nil, Option.map_some, Option.bind_some, List.cons_append, List.nil_append, List.replicate, startE, List.length_cons, List.length_nil, Nat.sub_self, Nat.reduceSub, Nat.reduceAdd, truD, if_true, if_false, Bool.not_true, Bool.not_false, Bool.false_eq_true, run_noact, Nat.zero_le, b, isIsi, bl_len_tup, at0', at1', w1, w2, decide_true, Int.cast_ofNat_Int, nk]
              | _ => simp [isB] at e1
    obtain ⟨l', o', e⟩ := loop v (-1) none q
    rw [lpart_is] at e
    simp only [c__law_is_partial]
    refine (evSs_nx (ρ' := [some (.int size), some (.tup v), none, none]) (h' := h) ?_).trans ((evSs_nx (ρ' := [some (.int size), some (.tup v), some (.int (-1)), none]) (h' := h) ?_).trans ?_)
    · simp only [evSs, evS, ev, tst, evs, evO, evAnd, evOr, MP.tAnd, MP.tOr, tstO, R.bind_ok, R.bind_exc, R.bindF_ok, R.bindF_exc, R.of_some, R.of_none, deref_int, deref_bl, deref_str, deref_non, deref_tup, deref_lst, deref_scr, deref_ty, deref_dct, binD_add, binD_sub, cmpD_lt, cmpD_le, cmpD_gt, cmpD_ge, cmpD_eqi, cmpD_nei, idxD_lst, idxD_tup, idxD_scr, put_name, List.getElem?_cons_zero, List.getElem?_cons_succ, List.set_cons_zero, List.set_cons_succ, List.map_cons, List.map_nil, Option.map_some, Option.bind_some, List.cons_append, List.nil_append, List.replicate, startE, List.length_cons, List.length_nil, Nat.sub_self, Nat.reduceSub, Nat.reduceAdd, truD, if_true, if_false, Bool.not_true, Bool.not_false, Bool.false_eq_true, run_noact, Nat.zero_le, b, isIsi]
    · simp only [evSs, evS, ev, tst, evs, evO, evAnd, evOr, MP.tAnd, MP.tOr, tstO, R.bind_ok, R.bind_exc, R.bindF_ok, R.bindF_exc, R.of_some, R.of_none, deref_int, deref_bl, deref_str, deref_non, deref_tup, deref_lst, deref_scr, deref_ty, deref_dct, binD_add, binD_sub, cmpD_lt, cmpD_le, cmpD_gt, cmpD_ge, cmpD_eqi, cmpD_nei, idxD_lst, idxD_tup, idxD_scr, put_name, List.getElem?_cons_zero, List.getElem?_cons_succ, List.set_cons_zero, List.set_cons_succ, List.map_cons, List.map_nil, Option.map_some, Option.bind_some, List.cons_append, List.nil_append, List.replicate, startE, List.length_cons, List.length_nil, Nat.sub_self, Nat.reduceSub, Nat.reduceAdd, truD, if_true, if_false, Bool.not_true, Bool.not_false, Bool.false_eq_true, run_noact, Nat.zero_le, negD]
    cases c : isPart size (.tup v) with
    | true =>
      rw [c] at e
      refine (evSs_nx (evS_for (evI_of (xs := v) (s := .tup v) (.inr rfl) rfl) e)).trans ?_
      simp only [evSs, evS, ev, tst, evs, evO, evAnd, evOr, MP.tAnd, MP.tOr, tstO, R.bind_ok, R.bind_exc, R.bindF_ok, R.bindF_exc, R.of_some, R.of_none, deref_int, deref_bl, deref_str, deref_non, deref_tup, deref_lst, deref_scr, deref_ty, deref_dct, binD_add, binD_sub, cmpD_lt, cmpD_le, cmpD_gt, cmpD_ge, cmpD_eqi, cmpD_nei, idxD_lst, idxD_tup, idxD_scr, put_name, List.getElem?_cons_zero, List.getElem?_cons_succ, List.set_cons_zero, List.set_cons_succ, List.map_cons, List.map_nil, Option.map_some, Option.bind_some, List.cons_append, List.nil_append, List.replicate, startE, List.length_cons, List.length_nil, Nat.sub_self, Nat.reduceSub, Nat.reduceAdd, truD, if_true, if_false, Bool.not_true, Bool.not_false, Bool.false_eq_true, run_noact, Nat.zero_le]
    | false =>
      rw [c] at e
      exact evSs_end (evS_for (evI_of (xs := v) (s := .tup v) (.inr rfl) rfl) e) (fun _ z => by cases z)
  | int v => cases ht; simp only [evSs, evS, ev, tst, evs, evO, evAnd, evOr, MP.tAnd, MP.tOr, tstO, R.bind_ok, R.bind_exc, R.bindF_ok, R.bindF_exc, R.of_some, R.of_none, deref_int, deref_bl, deref_str, deref_non, deref_tup, deref_lst, deref_scr, deref_ty, deref_dct, binD_add, binD_sub, cmpD_lt, cmpD_le, cmpD_gt, cmpD_ge, cmpD_eqi, cmpD_nei, idxD_lst, idxD_tup, idxD_scr, put_name, List.getElem?_cons_zero, List.getElem?_cons_succ, List.set_cons_zero, List.set_cons_succ, List.map_cons, List.map_nil, Option.map_some, Option.bind_some, List.cons_append, List.nil_append, List.replicate, startE, List.length_cons, List.length_nil, Nat.sub_self, Nat.reduceSub, Nat.reduceAdd, truD, if_true, if_false, Bool.not_true, Bool.not_false, Bool.false_eq_true, run_noact, Nat.zero_le, c__law_is_partial, b, isIsi]; rfl
  | bl v => cases ht; simp only [evSs, evS, ev, tst, evs, evO, evAnd, evOr, MP.tAnd, MP.tOr, tstO, R.bind_ok, R.bind_exc, R.bindF_ok, R.bindF_exc, R.of_some, R.of_none, deref_int, deref_bl, deref_str, deref_non, deref_tup, deref_lst, deref_scr, deref_ty, deref_dct, binD_add, binD_sub, cmpD_lt, cmpD_le, cmpD_gt, cmpD_ge, cmpD_eqi, cmpD_nei, idxD_lst, idxD_tup, idxD_scr, put_name, List.getElem?_cons_zero, List.getElem?_cons_succ, List.set_cons_zero, List.set_cons_succ, List.map_cons, List.map_nil, Option.map_some, Option.bind_some, List.cons_append, List.nil_append, List.replicate, startE, List.length_cons, List.length_nil, Nat.sub_self, Nat.reduceSub, Nat.reduceAdd, truD, if_true, if_false, Bool.not_true, Bool.not_false, Bool.false_eq_true, run_noact, Nat.zero_le, c__law_is_partial, b, isIsi]; rfl
  | non => cases ht; simp only [evSs, evS, ev, tst, evs, evO, evAnd, evOr, MP.tAnd, MP.tOr, tstO, R.bind_ok, R.bind_exc, R.bindF_ok, R.bindF_exc, R.of_some, R.of_none, deref_int, deref_bl, deref_str, deref_non, deref_tup, deref_lst, deref_scr, deref_ty, deref_dct, binD_add, binD_sub, cmpD_lt, cmpD_le, cmpD_gt, cmpD_ge, cmpD_eqi, cmpD_nei, idxD_lst, idxD_tup, idxD_scr, put_name, List.getElem?_cons_zero, List.getElem?_cons_succ, List.set_cons_zero, List.set_cons_succ, List.map_cons, List.map_nil, Option.map_some, Option.bind_some, List.cons_append, List.nil_append, List.replicate, startE, List.length_cons, List.length_nil, Nat.sub_self, Nat.reduceSub, Nat.reduceAdd, truD, if_true, if_false, Bool.not_true, Bool.not_false, Bool.false_eq_true, run_noact, Nat.zero_le, c__law_is_partial, b, isIsi]; rfl
  | str v => cases ht; simp only [evSs, evS, ev, tst, evs, evO, evAnd, evOr, MP.tAnd, MP.tOr, tstO, R.bind_ok, R.bind_exc, R.bindF_ok, R.bindF_exc, R.of_some, R.of_none, deref_int, deref_bl, deref_str, deref_non, deref_tup, deref_lst, deref_scr, deref_ty, deref_dct, binD_add, binD_sub, cmpD_lt, cmpD_le, cmpD_gt, cmpD_ge, cmpD_eqi, cmpD_nei, idxD_lst, idxD_tup, idxD_scr, put_name, List.getElem?_cons_zero, List.getElem?_cons_succ, List.set_cons_zero, List.set_cons_succ, List.map_cons, List.map_nil, Option.map_some, Option.bind_some, List.cons_append, List.nil_append, List.replicate, startE, List.length_cons, List.length_nil, Nat.sub_self, Nat.reduceSub, Nat.reduceAdd, truD, if_true, if_false, Bool.not_true, Bool.not_false, Bool.false_eq_true, run_noact, Nat.zero_le, c__law_is_partial, b, isIsi]; rfl
  | lst v => cases ht; simp only [evSs, evS, ev, tst, evs, evO, evAnd, evOr, MP.tAnd, MP.tOr, tstO, R.bind_ok, R.bind_exc, R.bindF_ok, R.bindF_exc, R.of_some, R.of_none, deref_int, deref_bl, deref_str, deref_non, deref_tup, deref_lst, deref_scr, deref_ty, deref_dct, binD_add, binD_sub, cmpD_lt, cmpD_le, cmpD_gt, cmpD_ge, cmpD_eqi, cmpD_nei, idxD_lst, idxD_tup, idxD_scr, put_name, List.getElem?_cons_zero, List.getElem?_cons_succ, List.set_cons_zero, List.set_cons_succ, List.map_cons, List.map_nil, Option.map_some, Option.bind_some, List.cons_append, List.nil_append, List.replicate, startE, List.length_cons, List.length_nil, Nat.sub_self, Nat.reduceSub, Nat.reduceAdd, truD, if_true, if_false, Bool.not_true, Bool.not_false, Bool.false_eq_true, run_noact, Nat.zero_le, c__law_is_partial, b, isIsi]; rfl
  | dct v => cases ht; simp only [evSs, evS, ev, tst, evs, evO, evAnd, evOr, MP.tAnd, MP.tOr, tstO, R.bind_ok, R.bind_exc, R.bindF_ok, R.bindF_exc, R.of_some, R.of_none, deref_int, deref_bl, deref_str, deref_non, deref_tup, deref_lst, deref_scr, deref_ty, deref_dct, binD_add, binD_sub, cmpD_lt, cmpD_le, cmpD_gt, cmpD_ge, cmpD_eqi, cmpD_nei, idxD_lst, idxD_tup, idxD_scr, put_name, List.getElem?_cons_zero, List.getElem?_cons_succ, List.set_cons_zero, List.set_cons_succ, List.map_cons, List.map_nil, Option.map_some, Option.bind_some, List.cons_append, List.nil_append, List.replicate, startE, List.length_cons, List.length_nil, Nat.sub_self, Nat.reduceSub, Nat.reduceAdd, truD, if_true, if_false, Bool.not_true, Bool.not_false, Bool.false_eq_true, run_noact, Nat.zero_le, c__law_is_partial, b, isIsi]; rfl
  | _ => cases ht
omit w in
theorem rp2 (a b : Bool) : ∃ s, bltD "repr" [.lst [.bl a, .bl b]] = some (.str s) := by
  refine ⟨_, bl_repr (p := .list [.bool a, .bool b]) rfl rfl (by decide +revert) ?_ (by decide +revert)⟩
  rw [sizeLine_eq]
  revert a b
  decide +kernel
theorem run_judged {size : Nat} {v : D} (hs : 1 ≤ size ∧ size ≤ 7) (g : GoodV v) : MP.run Γ (n + 5) "_law_judged_right" [.int size, v] h = .ok (.bl true) h := by
  obtain ⟨s, hr⟩ := g.rp
  obtain ⟨s2, hr2⟩ := rp2 (isRow size v) (isPart size v)
  have r1 := run_is_row w n hs g.dt g.ln
  have r2 := run_is_partial w n hs g.dt g.ln
  have r3 := run_lrow w (n + 2) (size := size) g.dt g.ln
  have r4 := run_lpart w (n + 2) (size := size) g.dt
  have dv := dat_deref (h := h) g.dt
  refine run_of (g__law_judged_right) rfl (by decide) ?_ (leave_bl w)
  simp only [evSs, evS, ev, tst, evs, evO, evAnd, evOr, MP.tAnd, MP.tOr, tstO, R.bind_ok, R.bind_exc, R.bindF_ok, R.bindF_exc, R.of_some, R.of_none, deref_int, deref_bl, deref_str, deref_non, deref_tup, deref_lst, deref_scr, deref_ty, deref_dct, binD_add, binD_sub, cmpD_lt, cmpD_le, cmpD_gt, cmpD_ge, cmpD_eqi, cmpD_nei, idxD_lst, idxD_tup, idxD_scr, put_name, List.getElem?_cons_zero, List.getElem?_cons_succ, List.set_cons_zero, List.set_cons_succ, List.map_cons, List.map_nil, Option.map_some, Option.bind_some, List.cons_append, List.nil_append, List.replicate, startE, List.length_cons, List.length_nil, Nat.sub_self, Nat.reduceSub, Nat.reduceAdd, truD, if_true, if_false, Bool.not_true, Bool.not_false, Bool.false_eq_true, run_noact, Nat.zero_le, c__law_judged_right, dv, hr, hr2, r1, r2, r3, r4, sizeLine_eq, Nat.reduceLeDiff, cmp_str, decide_true]
/-- the handler of _law_refused -/
theorem refused {e : C} {d : D} {ρ : MP.Env} (q : dat d = true) (he : ev (MP.run Γ (n + 1)).low e ρ h = .exc ⟨"InvalidNumber", [("value", d)]⟩ h) : ev (MP.run Γ (n + 1)) (C.lamc "_law_refused" e) ρ h = .ok (.lst [d]) h := by
  refine ev_lamc g__law_refused ⟨rfl, by decide⟩ fun a c qq us => ?_
  have lv : leave h.length (.lst [d]) h = .ok (.lst [d]) h := leave_dat (by rw [dat_lst, dats_iff]; simpa using q) w
  have hi : (MP.run Γ n).isx "InvalidNumber" "InvalidNumber" = some true := by rw [isx_run]; rfl
  have hf : (MP.run Γ n).fld "InvalidNumber" "value" = true := by rw [fld_run]; rfl
  simp only [evSs, evS, ev, tst, evs, evO, evAnd, evOr, MP.tAnd, MP.tOr, tstO, R.bind_ok, R.bind_exc, R.bindF_ok, R.bindF_exc, R.of_some, R.of_none, deref_int, deref_bl, deref_str, deref_non, deref_tup, deref_lst, deref_scr, deref_ty, deref_dct, binD_add, binD_sub, cmpD_lt, cmpD_le, cmpD_gt, cmpD_ge, cmpD_eqi, cmpD_nei, idxD_lst, idxD_tup, idxD_scr, put_name, List.getElem?_cons_zero, List.getElem?_cons_succ, List.set_cons_zero, List.set_cons_succ, List.map_cons, List.map_nil, Option.map_some, Option.bind_some, List.cons_append, List.nil_append, List.replicate, startE, List.length_cons, List.length_nil, Nat.sub_self, Nat.reduceSub, Nat.reduceAdd, truD, if_true, if_false, Bool.not_true, Bool.not_false, Bool.false_eq_true, run_noact, Nat.zero_le, c__law_refused, actOf_same, relock_self, he, evHs, hi, fldD, hf, List.zip_cons_cons, List.lookup_cons, beq_self_eq_true, sizeLine_eq, Nat.reduceLeDiff, R.bind_ok, endD, lv]
end HT

set_option autoImplicit false
set_option linter.all false
set_option maxRecDepth 100000
set_option maxHeartbeats 4000000
namespace HT
open PySem PySem.Spec PyProof.Rows L2 MP
/-! ### the law's values -/
def oddA : List D := [.non, .bl true, .bl false, .int (-1), .int 0, .int 1, .int 2, .int 8, .int (10 ^ 39), .str "", .str "a", .str "0", .str "01", .str "none", .tup [], .tup [.int 0], .tup [.int 0, .int 1], .tup [.int 1, .int 1, .int 0], .lst []]
def oddB : List D := [.lst [.int 0, .int 1], .dct [], .dct [(.inl 0, V.int 1)], .tup [.non], .tup [.tup []], .tup [.tup [.int 0, .int 1]], .tup [.tup [.int 0, .int 0], .tup [.int 1, .int 1]], .tup [.int 2, .tup [.tup [.int 0, .int 0], .tup [.int 1, .int 1]]]]
def oddC : List D := [.tup [.tup [.int 0, .int 1], .int 1], .tup [.int 1, .int 2]]
def oddL : List D := oddA ++ oddB ++ oddC
theorem odd_good : ∀ v ∈ oddL, GoodV v := by
  have : oddL.all goodB = true := by decide +kernel
  exact fun v hv => goodB_ok (List.all_eq_true.mp this v hv)
theorem p39 : binD .Pow (.int 10) (.int 39) = some (.int (10 ^ 39)) := by rfl
theorem add_lst {xs ys : List D} (h : xs.length + ys.length ≤ 1000) : binD .Add (.lst xs) (.lst ys) = some (.lst (xs ++ ys)) := if_pos (by rw [sizeLine_eq]; omega)
theorem add_tup {xs ys : List D} (h : xs.length + ys.length ≤ 1000) : binD .Add (.tup xs) (.tup ys) = some (.tup (xs ++ ys)) := if_pos (by rw [sizeLine_eq]; omega)
variable {h : Sto} {i : Nat} {s : S3} (a : At h i s) (n : Nat)
include a
theorem run_odd : ∃ (v : D) (s' : S3), MP.run Γ (n + 3) "_law_odd" [.ref i] h = .ok v (stp h i s') ∧ v ∈ oddL := by
  obtain ⟨v, s', e, m⟩ := at_pick g__law_draw g__law_pick a n (xs := oddL) (by decide +kernel) (by decide +kernel) (by decide +kernel)
  refine ⟨v, s', ?_, m⟩
  refine run_of g__law_odd rfl (by decide) (x := v) (h' := stp h i s') ?_ (leave_old (dat_refs (odd_good v m).dt) sto_len (a.stp s').w)
  simp only [c__law_odd]
  refine (evSs_nx (ρ' := [some (.ref i), some (.lst oddA)]) (h' := h) ?_).trans ((evSs_nx (ρ' := [some (.ref i), some (.lst (oddA ++ oddB))]) (h' := h) ?_).trans ((evSs_nx (ρ' := [some (.ref i), some (.lst oddL)]) (h' := h) ?_).trans ?_))
  · simp only [evSs, evS, ev, tst, evs, evO, evAnd, evOr, MP.tAnd, MP.tOr, tstO, R.bind_ok, R.bind_exc, R.bindF_ok, R.bindF_exc, R.of_some, R.of_none, deref_int, deref_bl, deref_str, deref_non, deref_tup, deref_lst, deref_scr, deref_ty, deref_dct, binD_add, binD_sub, cmpD_lt, cmpD_le, cmpD_gt, cmpD_ge, cmpD_eqi, cmpD_nei, idxD_lst, idxD_tup, idxD_scr, put_name, List.getElem?_cons_zero, List.getElem?_cons_succ, List.set_cons_zero, List.set_cons_succ, List.map_cons, List.map_nil, Option.map_some, Option.bind_some, List.cons_append, List.nil_append, List.replicate, startE, List.length_cons, List.length_nil, Nat.sub_self, Nat.reduceSub, Nat.reduceAdd, truD, if_true, if_false, Bool.not_true, Bool.not_false, Bool.false_eq_true, run_noact, Nat.zero_le, negD, p39, sizeLine_eq, Nat.reduceLeDiff, oddA]
  · simp only [evSs, evS, ev, tst, evs, evO, evAnd, evOr, MP.tAnd, MP.tOr, tstO, R.bind_ok, R.bind_exc, R.bindF_ok, R.bindF_exc, R.of_some, R.of_none, deref_int, deref_bl, deref_str, deref_non, deref_tup, deref_lst, deref_scr, deref_ty, deref_dct, binD_add, binD_sub, cmpD_lt, cmpD_le, cmpD_gt, cmpD_ge, cmpD_eqi, cmpD_nei, idxD_lst, idxD_tup, idxD_scr, put_name, List.getElem?_cons_zero, List.getElem?_cons_succ, List.set_cons_zero, List.set_cons_succ, List.map_cons, List.map_nil, Option.map_some, Option.bind_some, List.cons_append, List.nil_append, List.replicate, startE, List.length_cons, List.length_nil, Nat.sub_self, Nat.reduceSub, Nat.reduceAdd, truD, if_true, if_false, Bool.not_true, Bool.not_false, Bool.false_eq_true, run_noact, Nat.zero_le, sizeLine_eq, Nat.reduceLeDiff, List.map_nil, List.map_cons]
    rw [show ([D.lst [D.int 0, D.int 1], D.dct [], D.dct [(Sum.inl 0, V.int 1)], D.tup [D.non], D.tup [D.tup []], D.tup [D.tup [D.int 0, D.int 1]], D.tup [D.tup [D.int 0, D.int 0], D.tup [D.int 1, D.int 1]], D.tup [D.int 2, D.tup [D.tup [D.int 0, D.int 0], D.tup [D.int 1, D.int 1]]]]) = oddB from rfl, add_lst (by decide)]
    rfl
  · simp only [evSs, evS, ev, tst, evs, evO, evAnd, evOr, MP.tAnd, MP.tOr, tstO, R.bind_ok, R.bind_exc, R.bindF_ok, R.bindF_exc, R.of_some, R.of_none, deref_int, deref_bl, deref_str, deref_non, deref_tup, deref_lst, deref_scr, deref_ty, deref_dct, binD_add, binD_sub, cmpD_lt, cmpD_le, cmpD_gt, cmpD_ge, cmpD_eqi, cmpD_nei, idxD_lst, idxD_tup, idxD_scr, put_name, List.getElem?_cons_zero, List.getElem?_cons_succ, List.set_cons_zero, List.set_cons_succ, List.map_cons, List.map_nil, Option.map_some, Option.bind_some, List.cons_append, List.nil_append, List.replicate, startE, List.length_cons, List.length_nil, Nat.sub_self, Nat.reduceSub, Nat.reduceAdd, truD, if_true, if_false, Bool.not_true, Bool.not_false, Bool.false_eq_true, run_noact, Nat.zero_le, sizeLine_eq, Nat.reduceLeDiff]
    rw [show ([D.tup [D.tup [D.int 0, D.int 1], D.int 1], D.tup [D.int 1, D.int 2]]) = oddC from rfl, add_lst (by decide)]
    rfl
  · simp only [evSs, evS, ev, tst, evs, evO, evAnd, evOr, MP.tAnd, MP.tOr, tstO, R.bind_ok, R.bind_exc, R.bindF_ok, R.bindF_exc, R.of_some, R.of_none, deref_int, deref_bl, deref_str, deref_non, deref_tup, deref_lst, deref_scr, deref_ty, deref_dct, binD_add, binD_sub, cmpD_lt, cmpD_le, cmpD_gt, cmpD_ge, cmpD_eqi, cmpD_nei, idxD_lst, idxD_tup, idxD_scr, put_name, List.getElem?_cons_zero, List.getElem?_cons_succ, List.set_cons_zero, List.set_cons_succ, List.map_cons, List.map_nil, Option.map_some, Option.bind_some, List.cons_append, List.nil_append, List.replicate, startE, List.length_cons, List.length_nil, Nat.sub_self, Nat.reduceSub, Nat.reduceAdd, truD, if_true, if_false, Bool.not_true, Bool.not_false, Bool.false_eq_true, run_noact, Nat.zero_le, e]
omit a in
/-- rows, partial rows, their parts -/
def tree : Nat → D → Bool
  | 0, .int v => decide (0 ≤ v) && decide (v ≤ 7)
  | k + 1, .tup xs => decide (xs.length ≤ 7) && xs.all (tree k)
  | _, _ => false
omit a in
theorem tree_lay : ∀ {k : Nat} {d : D}, tree k d = true → lay k d = true
  | 0, d, h => by
    cases d with
    | int v => simp only [tree, Bool.and_eq_true, decide_eq_true_eq] at h; simp only [lay, Bool.and_eq_true, decide_eq_true_eq]; omega
    | _ => simp [tree] at h
  | k + 1, d, h => by
    cases d with
    | tup xs =>
      simp only [tree, Bool.and_eq_true, decide_eq_true_eq, List.all_eq_true] at h
      simp only [lay, Bool.and_eq_true, decide_eq_true_eq, List.all_eq_true]
      exact ⟨by omega, fun x hx => tree_lay (h.2 x hx)⟩
    | _ => simp [tree] at h
omit a in
theorem str_small {v : Int} (h1 : 0 ≤ v) (h2 : v ≤ 7) : lay 0 (.str (toString v)) = true ∧ v.natAbs.log2 < 1920 := by
  have : ∀ k : Fin 8, lay 0 (.str (toString (k.1 : Int))) = true ∧ ((k.1 : Int)).natAbs.log2 < 1920 := by decide +kernel
  have t := this ⟨v.toNat, by omega⟩
  have e : ((v.toNat : Nat) : Int) = v := by omega
  simp only [e] at t
  exact t
omit a in
theorem lays_dats {k : Nat} {xs : List D} (h : ∀ x ∈ xs, lay k x = true) : dats xs = true := dats_iff.mpr fun x hx => lay_dat (h x hx)
omit a in
theorem lay_ups : ∀ {k j : Nat} {d : D}, k ≤ j → lay k d = true → lay j d = true
  | k, 0, d, hk, h => by
    have : k = 0 := by omega
    subst this; exact h
  | k, j + 1, d, hk, h => by
    by_cases c : k = j + 1
    · subst c; exact h
    · exact lay_up (lay_ups (by omega) h)
omit a in
theorem lay_tup {k : Nat} {xs : List D} (hl : xs.length ≤ 9) (h : ∀ x ∈ xs, lay k x = true) : lay (k + 1) (.tup xs) = true := by
  simp only [lay, Bool.and_eq_true, decide_eq_true_eq, List.all_eq_true]
  exact ⟨hl, h⟩
omit a in
theorem lay_lst {k : Nat} {xs : List D} (hl : xs.length ≤ 9) (h : ∀ x ∈ xs, lay k x = true) : lay (k + 1) (.lst xs) = true := by
  simp only [lay, Bool.and_eq_true, decide_eq_true_eq, List.all_eq_true]
  exact ⟨hl, h⟩
theorem bent_int {v : Int} (h1 : 0 ≤ v) (h2 : v ≤ 7) (deep : Int) : ∃ (r : D) (s' : S3), MP.run Γ (n + 3) "_law_bent" [.ref i, .int v, .int deep] h = .ok r (stp h i s') ∧ lay 1 r = true := by
  obtain ⟨g1, g2⟩ := str_small h1 h2
  have all : ∀ x ∈ [D.int (v + 1), .int (v - 1), .int (1 - v), .str (toString v), .bl (decide (v = 1)), .tup [.int v], .non, .int 7], lay 1 x = true := by
    intro x hx
    simp only [List.mem_cons, List.not_mem_nil, or_false] at hx
    have ii : ∀ j : Int, -10 ≤ j → j ≤ 10 → lay 0 (.int j) = true := fun j a b => by simp [lay, a, b]
    rcases hx with rfl | rfl | rfl | rfl | rfl | rfl | rfl | rfl
    · exact lay_up (ii _ (by omega) (by omega))
    · exact lay_up (ii _ (by omega) (by omega))
    · exact lay_up (ii _ (by omega) (by omega))
    · exact lay_up g1
    · rfl
    · exact lay_tup (by simp) (by intro x hx; simp only [List.mem_cons, List.not_mem_nil, or_false] at hx; subst hx; exact ii _ (by omega) (by omega))
    · rfl
    · exact lay_up (ii _ (by omega) (by omega))
  obtain ⟨r, s', e, m⟩ := at_pick g__law_draw g__law_pick a n (xs := [D.int (v + 1), .int (v - 1), .int (1 - v), .str (toString v), .bl (decide (v = 1)), .tup [.int v], .non, .int 7]) (by simp) (by simp) (lays_dats all)
  refine ⟨r, s', ?_, all r m⟩
  refine run_of g__law_bent rfl (by decide) (x := r) (h' := stp h i s') ?_ (leave_old (dat_refs (lay_dat (all r m))) sto_len (a.stp s').w)
  have b1 := bl_isi (c := "tuple") (show tyOf (.int v) = some "int" from rfl)
  have b2 := bl_isi (c := "int") (show tyOf (.int v) = some "int" from rfl)
  have b3 := bl_isi (c := "bool") (show tyOf (.int v) = some "int" from rfl)
  simp only [evSs, evS, ev, tst, evs, evO, evAnd, evOr, MP.tAnd, MP.tOr, tstO, R.bind_ok, R.bind_exc, R.bindF_ok, R.bindF_exc, R.of_some, R.of_none, deref_int, deref_bl, deref_str, deref_non, deref_tup, deref_lst, deref_scr, deref_ty, deref_dct, binD_add, binD_sub, cmpD_lt, cmpD_le, cmpD_gt, cmpD_ge, cmpD_eqi, cmpD_nei, idxD_lst, idxD_tup, idxD_scr, put_name, List.getElem?_cons_zero, List.getElem?_cons_succ, List.set_cons_zero, List.set_cons_succ, List.map_cons, List.map_nil, Option.map_some, Option.bind_some, List.cons_append, List.nil_append, List.replicate, startE, List.length_cons, List.length_nil, Nat.sub_self, Nat.reduceSub, Nat.reduceAdd, truD, if_true, if_false, Bool.not_true, Bool.not_false, Bool.false_eq_true, run_noact, Nat.zero_le, c__law_bent, b1, b2, b3, isIsi, bl_str g2, sizeLine_eq, Nat.reduceLeDiff, e]
theorem at_draw' {m : Nat} (hm : 1 ≤ m) {t : Int} (t1 : 0 < t) (t2 : t < 1073741824) : ∃ (v : Int) (s' : S3), MP.run Γ m "_law_draw" [.ref i, .int t] h = .ok (.int v) (stp h i s') ∧ 0 ≤ v ∧ v < t := by
  obtain ⟨p, rfl⟩ : ∃ p, m = p + 1 := ⟨m - 1, by omega⟩
  exact at_draw g__law_draw a p t1 t2
theorem at_pick' {m : Nat} (hm : 2 ≤ m) {xs : List D} (hx : xs ≠ []) (hl : xs.length < 1000) (hd : dats xs = true) : ∃ (v : D) (s' : S3), MP.run Γ m "_law_pick" [.ref i, .lst xs] h = .ok v (stp h i s') ∧ v ∈ xs := by
  obtain ⟨p, rfl⟩ : ∃ p, m = p + 2 := ⟨m - 2, by omega⟩
  exact at_pick g__law_draw g__law_pick a p hx hl hd
omit a in
theorem slc_to {xs : List D} {v : Int} (hv : 0 ≤ v) : slcD (.tup xs) none (some v) = some (.tup (xs.take v.toNat)) := by
  have : v = ((v.toNat : Nat) : Int) := by omega
  rw [this]
  simp only [slcD, cut_to, Int.toNat_natCast]
omit a in
theorem slc_from {xs : List D} {v : Int} (hv : 0 ≤ v) : slcD (.tup xs) (some v) none = some (.tup (xs.drop v.toNat)) := by
  have : v = ((v.toNat : Nat) : Int) := by omega
  rw [this]
  simp only [slcD, cut_from, Int.toNat_natCast]
omit a in
theorem slc_mid {xs : List D} {v u : Int} (hv : 0 ≤ v) (hu : 0 ≤ u) : slcD (.tup xs) (some v) (some u) = some (.tup ((xs.drop v.toNat).take (u.toNat - v.toNat))) := by
  have e1 : v = ((v.toNat : Nat) : Int) := by omega
  have e2 : u = ((u.toNat : Nat) : Int) := by omega
  rw [e1, e2]
  simp only [slcD, cut_one, Int.toNat_natCast]
omit a in
theorem slc_last {xs : List D} : slcD (.tup xs) (some (-1)) none = some (.tup (xs.drop (xs.length - 1))) := by
  have e : cutD xs (some (-1)) none = xs.drop (xs.length - 1) := cut_last (k := 1) (by decide)
  simp only [slcD, e]
omit a in
theorem bl_list_t {xs : List D} : bltD "list" [.tup xs] = some (.lst xs) := rfl
/-- the second part of _law_bent, of a tuple -/
def bentR : Ss := match c__law_bent.body with
  | .cons _ r => r
  | r => r
theorem bent_flat {m : Nat} (hm : 2 ≤ m) {k : Nat} {xs : List D} (hl : xs.length ≤ 7) (ht : ∀ x ∈ xs, lay k x = true) (deep : Int) : ∃ (r : D) (s' : S3), evSs (MP.run Γ m) bentR h.length [some (.ref i), some (.tup xs), some (.int deep), none, none] h = .ok (.rt r) (stp h i s') ∧ lay (k + 2) r = true := by
  obtain ⟨v, s1, e1, v1, v2⟩ := at_draw' a (m := m) (by omega) (t := (xs.length : Int) + 1) (by omega) (by omega)
  have a1 := a.stp s1
  have b1 := bl_isi (c := "tuple") (show tyOf (.tup xs) = some "tuple" from rfl)
  have mt : ∀ x ∈ xs.take v.toNat, lay k x = true := fun x hx => ht x (List.mem_of_mem_take hx)
  have md : ∀ j, ∀ x ∈ xs.drop j, lay k x = true := fun j x hx => ht x (List.mem_of_mem_drop hx)
  have vl : v.toNat ≤ xs.length := by omega
  have lt : (xs.take v.toNat).length = v.toNat := by rw [List.length_take]; omega
  have ld : ∀ j, (xs.drop j).length = xs.length - j := fun j => List.length_drop ..
  have lz : lay k (.int 0) = true := lay_ups (Nat.zero_le k) rfl
  have e7 : ((v + 1).toNat : Nat) = v.toNat + 1 := by omega
  let some_ : List D := [.lst xs, .tup (xs.take v.toNat ++ xs.drop (v + 1).toNat), .tup (xs.take v.toNat ++ [.int 0] ++ xs.drop v.toNat), .tup xs.reverse, .tup [.tup xs], .tup []]
  let more_ : List D := [.tup (xs ++ xs.drop (xs.length - 1)), .tup (xs.take v.toNat ++ (xs.drop v.toNat).take ((v + 1).toNat - v.toNat) ++ xs.drop v.toNat)]
  have all : ∀ x ∈ some_ ++ more_, lay (k + 2) x = true := by
    intro x hx
    simp only [some_, more_, List.cons_append, List.nil_append, List.mem_cons, List.not_mem_nil, or_false] at hx
    rcases hx with rfl | rfl | rfl | rfl | rfl | rfl | rfl | rfl
    · exact lay_up (lay_lst (by omega) ht)
    · exact lay_up (lay_tup (by rw [List.length_append, lt, ld]; omega) (fun x hx => (List.mem_append.mp hx).elim (mt x) (md _ x)))
    · refine lay_up (lay_tup (by simp only [List.length_append, lt, ld, List.length_cons, List.length_nil]; omega) fun x hx => ?_)
      simp only [List.mem_append, List.mem_cons, List.not_mem_nil, or_false] at hx
      rcases hx with (hx | rfl) | hx
      · exact mt x hx
      · exact lz
      · exact md _ x hx
    · exact lay_up (lay_tup (by rw [List.length_reverse]; omega) fun x hx => ht x (List.mem_reverse.mp hx))
    · exact lay_tup (by simp) (by intro x hx; simp only [List.mem_cons, List.not_mem_nil, or_false] at hx; subst hx; exact lay_tup (by omega) ht)
    · exact lay_tup (by simp) (by simp)
    · exact lay_up (lay_tup (by rw [List.length_append, ld]; omega) fun x hx => (List.mem_append.mp hx).elim (ht x) (md _ x))
    · refine lay_up (lay_tup (by simp only [List.length_append, lt, ld, List.length_take]; omega) fun x hx => ?_)
      simp only [List.mem_append] at hx
      rcases hx with (hx | hx) | hx
      · exact mt x hx
      · exact md _ x (List.mem_of_mem_take hx)
      · exact md _ x hx
  obtain ⟨r, s2, e2, m2⟩ := at_pick' a1 hm (xs := some_ ++ more_) (by simp [some_]) (by simp [some_, more_]) (lays_dats all)
  rw [sto_upd2] at e2
  refine ⟨r, s2, ?_, all r m2⟩
  refine (evSs_end (h' := stp h i s2) (fl := .rt r) ?_ (fun _ z => by cases z))
  refine (evS_ite (c := true) (h' := h) ?_).trans ?_
  · simp only [evSs, evS, ev, tst, evs, evO, evAnd, evOr, MP.tAnd, MP.tOr, tstO, R.bind_ok, R.bind_exc, R.bindF_ok, R.bindF_exc, R.of_some, R.of_none, deref_int, deref_bl, deref_str, deref_non, deref_tup, deref_lst, deref_scr, deref_ty, deref_dct, binD_add, binD_sub, cmpD_lt, cmpD_le, cmpD_gt, cmpD_ge, cmpD_eqi, cmpD_nei, idxD_lst, idxD_tup, idxD_scr, put_name, List.getElem?_cons_zero, List.getElem?_cons_succ, List.set_cons_zero, List.set_cons_succ, List.map_cons, List.map_nil, Option.map_some, Option.bind_some, List.cons_append, List.nil_append, List.replicate, startE, List.length_cons, List.length_nil, Nat.sub_self, Nat.reduceSub, Nat.reduceAdd, truD, if_true, if_false, Bool.not_true, Bool.not_false, Bool.false_eq_true, run_noact, Nat.zero_le, b1, isIsi]
  rw [if_pos rfl]
  refine (evSs_nx (ρ' := [some (.ref i), some (.tup xs), some (.int deep), some (.int v), none]) (h' := stp h i s1) ?_).trans ((evSs_nx (ρ' := [some (.ref i), some (.tup xs), some (.int deep), some (.int v), some (.lst some_)]) (h' := stp h i s1) ?_).trans ?_)
  · simp only [evSs, evS, ev, tst, evs, evO, evAnd, evOr, MP.tAnd, MP.tOr, tstO, R.bind_ok, R.bind_exc, R.bindF_ok, R.bindF_exc, R.of_some, R.of_none, deref_int, deref_bl, deref_str, deref_non, deref_tup, deref_lst, deref_scr, deref_ty, deref_dct, binD_add, binD_sub, cmpD_lt, cmpD_le, cmpD_gt, cmpD_ge, cmpD_eqi, cmpD_nei, idxD_lst, idxD_tup, idxD_scr, put_name, List.getElem?_cons_zero, List.getElem?_cons_succ, List.set_cons_zero, List.set_cons_succ, List.map_cons, List.map_nil, Option.map_some, Option.bind_some, List.cons_append, List.nil_append, List.replicate, startE, List.length_cons, List.length_nil, Nat.sub_self, Nat.reduceSub, Nat.reduceAdd, truD, if_true, if_false, Bool.not_true, Bool.not_false, Bool.false_eq_true, run_noact, Nat.zero_le, bl_len_tup, e1]
  · have A1 : binD .Add (.tup (xs.take v.toNat)) (.tup (xs.drop (v + 1).toNat)) = some (.tup (xs.take v.toNat ++ xs.drop (v + 1).toNat)) := add_tup (by rw [lt, ld]; omega)
    have A2 : binD .Add (.tup (xs.take v.toNat)) (.tup [.int 0]) = some (.tup (xs.take v.toNat ++ [.int 0])) := add_tup (by simp only [lt, List.length_cons, List.length_nil]; omega)
    have A3 : binD .Add (.tup (xs.take v.toNat ++ [.int 0])) (.tup (xs.drop v.toNat)) = some (.tup (xs.take v.toNat ++ [.int 0] ++ xs.drop v.toNat)) := add_tup (by simp only [List.length_append, lt, ld, List.length_cons, List.length_nil]; omega)
    simp only [evSs, evS, ev, tst, evs, evO, evAnd, evOr, MP.tAnd, MP.tOr, tstO, R.bind_ok, R.bind_exc, R.bindF_ok, R.bindF_exc, R.of_some, R.of_none, deref_int, deref_bl, deref_str, deref_non, deref_tup, deref_lst, deref_scr, deref_ty, deref_dct, binD_add, binD_sub, cmpD_lt, cmpD_le, cmpD_gt, cmpD_ge, cmpD_eqi, cmpD_nei, idxD_lst, idxD_tup, idxD_scr, put_name, List.getElem?_cons_zero, List.getElem?_cons_succ, List.set_cons_zero, List.set_cons_succ, List.map_cons, List.map_nil, Option.map_some, Option.bind_some, List.cons_append, List.nil_append, List.replicate, startE, List.length_cons, List.length_nil, Nat.sub_self, Nat.reduceSub, Nat.reduceAdd, truD, if_true, if_false, Bool.not_true, Bool.not_false, Bool.false_eq_true, run_noact, Nat.zero_le, bl_list_t, slc_to v1, slc_from v1, slc_from (show (0 : Int) ≤ v + 1 by omega), revD, sizeLine_eq, Nat.reduceLeDiff, A1, A2, A3]
    rfl
  · have A1 : binD .Add (.tup xs) (.tup (xs.drop (xs.length - 1))) = some (.tup (xs ++ xs.drop (xs.length - 1))) := add_tup (by rw [ld]; omega)
    have A2 : binD .Add (.tup (xs.take v.toNat)) (.tup ((xs.drop v.toNat).take ((v + 1).toNat - v.toNat))) = some (.tup (xs.take v.toNat ++ (xs.drop v.toNat).take ((v + 1).toNat - v.toNat))) := add_tup (by simp only [lt, ld, List.length_take]; omega)
    have A3 : binD .Add (.tup (xs.take v.toNat ++ (xs.drop v.toNat).take ((v + 1).toNat - v.toNat))) (.tup (xs.drop v.toNat)) = some (.tup (xs.take v.toNat ++ (xs.drop v.toNat).take ((v + 1).toNat - v.toNat) ++ xs.drop v.toNat)) := add_tup (by simp only [List.length_append, lt, ld, List.length_take]; omega)
    have A4 : binD .Add (.lst some_) (.lst [D.tup (xs ++ xs.drop (xs.length - 1)), .tup (xs.take v.toNat ++ (xs.drop v.toNat).take ((v + 1).toNat - v.toNat) ++ xs.drop v.toNat)]) = some (.lst (some_ ++ more_)) := add_lst (by simp [some_])
    simp only [evSs, evS, ev, tst, evs, evO, evAnd, evOr, MP.tAnd, MP.tOr, tstO, R.bind_ok, R.bind_exc, R.bindF_ok, R.bindF_exc, R.of_some, R.of_none, deref_int, deref_bl, deref_str, deref_non, deref_tup, deref_lst, deref_scr, deref_ty, deref_dct, binD_add, binD_sub, cmpD_lt, cmpD_le, cmpD_gt, cmpD_ge, cmpD_eqi, cmpD_nei, idxD_lst, idxD_tup, idxD_scr, put_name, List.getElem?_cons_zero, List.getElem?_cons_succ, List.set_cons_zero, List.set_cons_succ, List.map_cons, List.map_nil, Option.map_some, Option.bind_some, List.cons_append, List.nil_append, List.replicate, startE, List.length_cons, List.length_nil, Nat.sub_self, Nat.reduceSub, Nat.reduceAdd, truD, if_true, if_false, Bool.not_true, Bool.not_false, Bool.false_eq_true, run_noact, Nat.zero_le, slc_to v1, slc_from v1, slc_mid v1 (show (0 : Int) ≤ v + 1 by omega), negD, slc_last, A1, A2, A3, A4, e2, sizeLine_eq, Nat.reduceLeDiff]
omit a in
theorem bent : ∀ (k : Nat) (hk : k ≤ 60) {h : Sto} {i : Nat} {s : S3} (a : At h i s) {m : Nat} (hm : 3 + k ≤ m) {d : D} (ht : tree k d = true) (deep : Int), ∃ (r : D) (s' : S3), MP.run Γ m "_law_bent" [.ref i, d, .int deep] h = .ok r (stp h i s') ∧ lay (k + 1) r = true
  | 0, _, h, i, s, a, m, hm, d, ht, deep => by
    cases d with
    | int v =>
      simp only [tree, Bool.and_eq_true, decide_eq_true_eq] at ht
      obtain ⟨p, rfl⟩ : ∃ p, m = p + 3 := ⟨m - 3, by omega⟩
      exact bent_int a p ht.1 ht.2 deep
    | _ => simp [tree] at ht
  | k + 1, hk, h, i, s, a, m, hm, d, ht, deep => by
    cases d with
    | tup xs =>
      simp only [tree, Bool.and_eq_true, decide_eq_true_eq, List.all_eq_true] at ht
      obtain ⟨hl, he⟩ := ht
      have hlay : ∀ x ∈ xs, lay k x = true := fun x hx => tree_lay (he x hx)
      obtain ⟨p, rfl⟩ : ∃ p, m = p + 1 := ⟨m - 1, by omega⟩
      have b1 := bl_isi (c := "tuple") (show tyOf (.tup xs) = some "tuple" from rfl)
      -- the end of the call
      have fin : ∀ {r : D} {s' : S3}, evSs (MP.run Γ p) c__law_bent.body h.length (startE 5 [.ref i, .tup xs, .int deep]) h = .ok (.rt r) (stp h i s') → lay (k + 2) r = true → ∃ (r : D) (s' : S3), MP.run Γ (p + 1) "_law_bent" [.ref i, .tup xs, .int deep] h = .ok r (stp h i s') ∧ lay (k + 1 + 1) r = true := fun {r s'} e q =>
        ⟨r, s', run_of g__law_bent rfl (by decide) (x := r) (h' := stp h i s') e (leave_old (dat_refs (lay_dat q)) sto_len (a.stp s').w), q⟩
      have body : c__law_bent.body = Ss.cons (S.ite (C.and (Cs.cons (C.blt "isinstance" (Cs.cons (C.var 1) (Cs.cons (C.typ "tuple" "tuple") Cs.nil))) (Cs.cons (C.cmp .NotEq (C.var 1) (C.tup Cs.nil)) (Cs.cons (C.cmp .Gt (C.var 2) (C.int 0)) (Cs.cons (C.cmp .Gt (C.call "_law_draw" (Cs.cons (C.var 0) (Cs.cons (C.int 4) Cs.nil))) (C.int 0)) Cs.nil))))) (Ss.cons (S.set (G.name 3) (C.call "_law_draw" (Cs.cons (C.var 0) (Cs.cons (C.blt "len" (Cs.cons (C.var 1) Cs.nil)) Cs.nil))))
    (Ss.cons (S.ret (C.bin .Add (C.bin .Add (C.slc (C.var 1) C'.no (C'.yes (C.var 3))) (C.tup (Cs.cons (C.call "_law_bent" (Cs.cons (C.var 0) (Cs.cons (C.idx (C.var 1) (C.var 3)) (Cs.cons (C.bin .Sub (C.var 2) (C.int 1)) Cs.nil)))) Cs.nil))) (C.slc (C.var 1) (C'.yes (C.bin .Add (C.var 3) (C.int 1))) C'.no)))
    Ss.nil)) Ss.nil) bentR := rfl
      have hall : xs.all (lay k) = true := List.all_eq_true.mpr hlay
      have hne := cmp_tnil (k := k) (by omega) hall
      have flat0 := bent_flat a (m := p) (by omega) hl hlay deep
      by_cases c : xs.isEmpty = true ∨ ¬ 0 < deep
      · obtain ⟨r, s', e, q⟩ := flat0
        refine fin (r := r) (s' := s') ?_ q
        rw [body]
        refine (evSs_nx (ρ' := startE 5 [.ref i, .tup xs, .int deep]) (h' := h) ((evS_ite (c := false) (h' := h) ?_).trans rfl)).trans e
        rcases c with c | c
        · rw [c] at hne
          simp only [evSs, evS, ev, tst, evs, evO, evAnd, evOr, MP.tAnd, MP.tOr, tstO, R.bind_ok, R.bind_exc, R.bindF_ok, R.bindF_exc, R.of_some, R.of_none, deref_int, deref_bl, deref_str, deref_non, deref_tup, deref_lst, deref_scr, deref_ty, deref_dct, binD_add, binD_sub, cmpD_lt, cmpD_le, cmpD_gt, cmpD_ge, cmpD_eqi, cmpD_nei, idxD_lst, idxD_tup, idxD_scr, put_name, List.getElem?_cons_zero, List.getElem?_cons_succ, List.set_cons_zero, List.set_cons_succ, List.map_cons, List.map_nil, Option.map_some, Option.bind_some, List.cons_append, List.nil_append, List.replicate, startE, List.length_cons, List.length_nil, Nat.sub_self, Nat.reduceSub, Nat.reduceAdd, truD, if_true, if_false, Bool.not_true, Bool.not_false, Bool.false_eq_true, run_noact, Nat.zero_le, b1, isIsi, hne]
        · cases c2 : xs.isEmpty with
          | true =>
            rw [c2] at hne
            simp only [evSs, evS, ev, tst, evs, evO, evAnd, evOr, MP.tAnd, MP.tOr, tstO, R.bind_ok, R.bind_exc, R.bindF_ok, R.bindF_exc, R.of_some, R.of_none, deref_int, deref_bl, deref_str, deref_non, deref_tup, deref_lst, deref_scr, deref_ty, deref_dct, binD_add, binD_sub, cmpD_lt, cmpD_le, cmpD_gt, cmpD_ge, cmpD_eqi, cmpD_nei, idxD_lst, idxD_tup, idxD_scr, put_name, List.getElem?_cons_zero, List.getElem?_cons_succ, List.set_cons_zero, List.set_cons_succ, List.map_cons, List.map_nil, Option.map_some, Option.bind_some, List.cons_append, List.nil_append, List.replicate, startE, List.length_cons, List.length_nil, Nat.sub_self, Nat.reduceSub, Nat.reduceAdd, truD, if_true, if_false, Bool.not_true, Bool.not_false, Bool.false_eq_true, run_noact, Nat.zero_le, b1, isIsi, hne]
          | false =>
            rw [c2] at hne
            simp only [evSs, evS, ev, tst, evs, evO, evAnd, evOr, MP.tAnd, MP.tOr, tstO, R.bind_ok, R.bind_exc, R.bindF_ok, R.bindF_exc, R.of_some, R.of_none, deref_int, deref_bl, deref_str, deref_non, deref_tup, deref_lst, deref_scr, deref_ty, deref_dct, binD_add, binD_sub, cmpD_lt, cmpD_le, cmpD_gt, cmpD_ge, cmpD_eqi, cmpD_nei, idxD_lst, idxD_tup, idxD_scr, put_name, List.getElem?_cons_zero, List.getElem?_cons_succ, List.set_cons_zero, List.set_cons_succ, List.map_cons, List.map_nil, Option.map_some, Option.bind_some, List.cons_append, List.nil_append, List.replicate, startE, List.length_cons, List.length_nil, Nat.sub_self, Nat.reduceSub, Nat.reduceAdd, truD, if_true, if_false, Bool.not_true, Bool.not_false, Bool.false_eq_true, run_noact, Nat.zero_le, b1, isIsi, hne, c, decide_false]
      · have c1 : xs.isEmpty = false := by
          cases c2 : xs.isEmpty with
          | true => exact absurd (.inl c2) c
          | false => rfl
        have c3 : 0 < deep := by
          by_cases c2 : 0 < deep
          · exact c2
          · exact absurd (.inr c2) c
        rw [c1] at hne
        have lp : 0 < xs.length := by
          cases xs with
          | nil => cases c1
          | cons _ _ => simp
        obtain ⟨v0, s0, e0, v01, v02⟩ := at_draw' a (m := p) (by omega) (t := 4) (by decide) (by decide)
        have a0 := a.stp s0
        by_cases c4 : 0 < v0
        · obtain ⟨v, s1, e1, v1, v2⟩ := at_draw' a0 (m := p) (by omega) (t := (xs.length : Int)) (by omega) (by omega)
          rw [sto_upd2] at e1
          have vl : v.toNat < xs.length := by omega
          obtain ⟨r, s2, e2, q2⟩ := bent k (by omega) (a.stp s1) (m := p) (by omega) (he _ (List.getElem_mem vl)) (deep - 1)
          rw [sto_upd2] at e2
          have ati : atI xs v = some xs[v.toNat] := by
            unfold atI ixN
            rw [if_pos v1, if_pos (by omega)]
            exact List.getElem?_eq_getElem vl
          have lt : (xs.take v.toNat).length = v.toNat := by rw [List.length_take]; omega
          have ld : ∀ j, (xs.drop j).length = xs.length - j := fun j => List.length_drop ..
          have A1 : binD .Add (.tup (xs.take v.toNat)) (.tup [r]) = some (.tup (xs.take v.toNat ++ [r])) := add_tup (by simp only [lt, List.length_cons, List.length_nil]; omega)
          have A2 : binD .Add (.tup (xs.take v.toNat ++ [r])) (.tup (xs.drop (v + 1).toNat)) = some (.tup (xs.take v.toNat ++ [r] ++ xs.drop (v + 1).toNat)) := add_tup (by simp only [List.length_append, lt, ld, List.length_cons, List.length_nil]; omega)
          refine fin (r := .tup (xs.take v.toNat ++ [r] ++ xs.drop (v + 1).toNat)) (s' := s2) ?_ (lay_tup (by simp only [List.length_append, lt, ld, List.length_cons, List.length_nil]; omega) fun x hx => ?_)
          · rw [body]
            refine evSs_end ((evS_ite (c := true) (h' := stp h i s0) ?_).trans ?_) (fun _ z => by cases z)
            · simp only [evSs, evS, ev, tst, evs, evO, evAnd, evOr, MP.tAnd, MP.tOr, tstO, R.bind_ok, R.bind_exc, R.bindF_ok, R.bindF_exc, R.of_some, R.of_none, deref_int, deref_bl, deref_str, deref_non, deref_tup, deref_lst, deref_scr, deref_ty, deref_dct, binD_add, binD_sub, cmpD_lt, cmpD_le, cmpD_gt, cmpD_ge, cmpD_eqi, cmpD_nei, idxD_lst, idxD_tup, idxD_scr, put_name, List.getElem?_cons_zero, List.getElem?_cons_succ, List.set_cons_zero, List.set_cons_succ, List.map_cons, List.map_nil, Option.map_some, Option.bind_some, List.cons_append, List.nil_append, List.replicate, startE, List.length_cons, List.length_nil, Nat.sub_self, Nat.reduceSub, Nat.reduceAdd, truD, if_true, if_false, Bool.not_true, Bool.not_false, Bool.false_eq_true, run_noact, Nat.zero_le, b1, isIsi, hne, c3, decide_true, e0, c4]
            rw [if_pos rfl]
            refine (evSs_nx (ρ' := [some (.ref i), some (.tup xs), some (.int deep), some (.int v), none]) (h' := stp h i s1) ?_).trans ?_
            · simp only [evSs, evS, ev, tst, evs, evO, evAnd, evOr, MP.tAnd, MP.tOr, tstO, R.bind_ok, R.bind_exc, R.bindF_ok, R.bindF_exc, R.of_some, R.of_none, deref_int, deref_bl, deref_str, deref_non, deref_tup, deref_lst, deref_scr, deref_ty, deref_dct, binD_add, binD_sub, cmpD_lt, cmpD_le, cmpD_gt, cmpD_ge, cmpD_eqi, cmpD_nei, idxD_lst, idxD_tup, idxD_scr, put_name, List.getElem?_cons_zero, List.getElem?_cons_succ, List.set_cons_zero, List.set_cons_succ, List.map_cons, List.map_nil, Option.map_some, Option.bind_some, List.cons_append, List.nil_append, List.replicate, startE, List.length_cons, List.length_nil, Nat.sub_self, Nat.reduceSub, Nat.reduceAdd, truD, if_true, if_false, Bool.not_true, Bool.not_false, Bool.false_eq_true, run_noact, Nat.zero_le, bl_len_tup, e1]
            · simp only [evSs, evS, ev, tst, evs, evO, evAnd, evOr, MP.tAnd, MP.tOr, tstO, R.bind_ok, R.bind_exc, R.bindF_ok, R.bindF_exc, R.of_some, R.of_none, deref_int, deref_bl, deref_str, deref_non, deref_tup, deref_lst, deref_scr, deref_ty, deref_dct, binD_add, binD_sub, cmpD_lt, cmpD_le, cmpD_gt, cmpD_ge, cmpD_eqi, cmpD_nei, idxD_lst, idxD_tup, idxD_scr, put_name, List.getElem?_cons_zero, List.getElem?_cons_succ, List.set_cons_zero, List.set_cons_succ, List.map_cons, List.map_nil, Option.map_some, Option.bind_some, List.cons_append, List.nil_append, List.replicate, startE, List.length_cons, List.length_nil, Nat.sub_self, Nat.reduceSub, Nat.reduceAdd, truD, if_true, if_false, Bool.not_true, Bool.not_false, Bool.false_eq_true, run_noact, Nat.zero_le, slc_to v1, slc_from (show (0 : Int) ≤ v + 1 by omega), ati, e2, sizeLine_eq, Nat.reduceLeDiff, A1, A2]
          · simp only [List.mem_append, List.mem_cons, List.not_mem_nil, or_false] at hx
            rcases hx with (hx | rfl) | hx
            · exact lay_up (hlay x (List.mem_of_mem_take hx))
            · exact q2
            · exact lay_up (hlay x (List.mem_of_mem_drop hx))
        · obtain ⟨r, s', e, q⟩ := bent_flat a0 (m := p) (by omega) hl hlay deep
          rw [sto_upd2, sto_len] at e
          refine fin (r := r) (s' := s') ?_ q
          rw [body]
          refine (evSs_nx (ρ' := startE 5 [.ref i, .tup xs, .int deep]) (h' := stp h i s0) ((evS_ite (c := false) (h' := stp h i s0) ?_).trans rfl)).trans e
          simp only [evSs, evS, ev, tst, evs, evO, evAnd, evOr, MP.tAnd, MP.tOr, tstO, R.bind_ok, R.bind_exc, R.bindF_ok, R.bindF_exc, R.of_some, R.of_none, deref_int, deref_bl, deref_str, deref_non, deref_tup, deref_lst, deref_scr, deref_ty, deref_dct, binD_add, binD_sub, cmpD_lt, cmpD_le, cmpD_gt, cmpD_ge, cmpD_eqi, cmpD_nei, idxD_lst, idxD_tup, idxD_scr, put_name, List.getElem?_cons_zero, List.getElem?_cons_succ, List.set_cons_zero, List.set_cons_succ, List.map_cons, List.map_nil, Option.map_some, Option.bind_some, List.cons_append, List.nil_append, List.replicate, startE, List.length_cons, List.length_nil, Nat.sub_self, Nat.reduceSub, Nat.reduceAdd, truD, if_true, if_false, Bool.not_true, Bool.not_false, Bool.false_eq_true, run_noact, Nat.zero_le, b1, isIsi, hne, c3, decide_true, e0, c4, decide_false]
    | _ => simp [tree] at ht
end HT

set_option autoImplicit false
set_option linter.all false
set_option maxRecDepth 100000
set_option maxHeartbeats 4000000
namespace HT
open PySem PySem.Spec PyProof.Rows L2 MP
theorem ev_lrng {call : Calls} {a : C} {ρ : MP.Env} {h h' : Sto} {j : Int} (q : ev call a ρ h = .ok (.int j) h') (h1 : 0 ≤ j ∧ j < 1000) : ev call (.lrng a) ρ h = .ok (.lst (range 0 j.toNat)) h' := by
  have e : ev call (.lrng a) ρ h = (ev call a ρ h).bind fun x h => match x with
    | .int j => if -(2 ^ 62) ≤ j ∧ j < 2 ^ 20 then .ok (.lst (range 0 j.toNat)) h else .bad
    | _ => .bad := by rw [ev] <;> rfl
  rw [e, q]
  exact if_pos (by omega)
theorem ev_slc_to {call : Calls} {a b : C} {ρ : MP.Env} {h h1 h2 : Sto} {x d : D} {v : Int} (q : ev call a ρ h = .ok x h1) (q2 : ev call b ρ h1 = .ok (.int v) h2) (e : slcD (deref h2 x) none (some v) = some d) : ev call (.slc a .no (.yes b)) ρ h = .ok d h2 := by
  simp only [ev, evO, q, q2, R.bind_ok, e, R.of_some]
theorem bl_sorted {ns : List Int} (h : ns.length < 64) : bltD "sorted" [.lst (ns.map .int)] = some (.lst ((ns.mergeSort fun a b => decide (a ≤ b)).map .int)) := by
  have : bltD "sorted" [.lst (ns.map .int)] = (match intsD (ns.map .int) with
      | some ns => if ns.length < 64 then some (.lst ((ns.mergeSort fun a b => decide (a ≤ b)).map .int)) else none
      | none => none) := rfl
  rw [this, intsD_map]
  exact if_pos h
theorem ints_of {P : Int → Prop} : ∀ {ys : List D}, (∀ y ∈ ys, ∃ k : Int, y = .int k ∧ P k) → ∃ ns : List Int, ys = ns.map .int ∧ ∀ n ∈ ns, P n
  | [], _ => ⟨[], rfl, by simp⟩
  | y :: ys, h => by
    obtain ⟨k, rfl, pk⟩ := h y List.mem_cons_self
    obtain ⟨ns, rfl, pn⟩ := ints_of (ys := ys) fun z hz => h z (List.mem_cons_of_mem _ hz)
    exact ⟨k :: ns, rfl, by simpa using ⟨pk, pn⟩⟩
theorem mem_comR {α : Type} {f : α → D → Option D} {g : α → D → α} : ∀ {xs : List D} {a : α} {y : D}, y ∈ (comR f g a xs).1 → ∃ x ∈ xs, ∃ b, f b x = some y
  | [], a, y, h => by simp [comR] at h
  | x :: xs, a, y, h => by
    simp only [comR, List.mem_append, Option.mem_toList] at h
    rcases h with h | h
    · exact ⟨x, List.mem_cons_self, a, h⟩
    · obtain ⟨z, hz, b, e⟩ := mem_comR h
      exact ⟨z, List.mem_cons_of_mem _ hz, b, e⟩
variable {h : Sto} {i : Nat} {s : S3} (a : At h i s)
include a
theorem run_partial {m : Nat} (hm : 3 ≤ m) {size : Nat} (hs : size ≤ 7) : ∃ (xs : List D) (s' : S3), MP.run Γ m "_law_partial" [.ref i, .int size, .int size] h = .ok (.tup xs) (stp h i s') ∧ tree 2 (.tup xs) = true := by
  obtain ⟨p, rfl⟩ : ∃ p, m = p + 3 := ⟨m - 3, by omega⟩
  have rl : (range 0 size).length = size := range_len ..
  have rd : dats (range 0 size) = true := dats_iff.mpr fun x hx => by
    obtain ⟨k, _, rfl⟩ := mem_range hx
    rfl
  obtain ⟨ys, s1, e1, l1, m1⟩ := at_mixed g__law_draw g__law_mixed a p (it := .lst (range 0 size)) (.inl rfl) (by omega) rd
  have a1 := a.stp s1
  obtain ⟨v, s2, e2, v1, v2⟩ := at_draw' a1 (m := p + 2) (by omega) (t := (size : Int) + 1) (by omega) (by omega)
  rw [sto_upd2] at e2
  have a2 := a.stp s2
  obtain ⟨ns, en, hn⟩ := ints_of (P := fun k => 0 ≤ k ∧ k ≤ 7) (ys := ys.take v.toNat) fun y hy => by
    obtain ⟨k, hk, rfl⟩ := mem_range (m1 y (List.mem_of_mem_take hy))
    exact ⟨_, rfl, by omega, by omega⟩
  have ln : ns.length ≤ 7 := by
    have := congrArg List.length en
    rw [List.length_take, List.length_map, l1, rl] at this
    omega
  have keys : ev (MP.run Γ (p + 2)) (C.slc (C.call "_law_mixed" (Cs.cons (C.var 0) (Cs.cons (C.lrng (C.var 1)) Cs.nil))) C'.no (C'.yes (C.call "_law_draw" (Cs.cons (C.var 0) (Cs.cons (C.bin .Add (C.var 2) (C.int 1)) Cs.nil))))) (startE 5 [.ref i, .int size, .int size]) h = .ok (.lst (ns.map .int)) (stp h i s2) := by
    refine ev_slc_to (x := .lst ys) (h1 := stp h i s1) (v := v) ?_ ?_ ?_
    · refine (ev_call2 (x := .ref i) (h' := h) (x2 := .lst (range 0 size)) (h2 := h) rfl ?_).trans e1
      have := ev_lrng (call := MP.run Γ (p + 2)) (a := C.var 1) (ρ := startE 5 [.ref i, .int size, .int size]) (h := h) (h' := h) (j := size) rfl (by omega)
      rwa [Int.toNat_natCast] at this
    · refine (ev_call2 (x := .ref i) (h' := stp h i s1) (x2 := .int ((size : Int) + 1)) (h2 := stp h i s1) rfl rfl).trans e2
    · have : v = ((v.toNat : Nat) : Int) := by omega
      rw [this]
      simp only [deref_lst, slcD, cut_to, en]
  generalize hso : (ns.mergeSort fun a b => decide (a ≤ b)) = so
  have ls : so.length ≤ 7 := by rw [← hso, List.length_mergeSort]; exact ln
  have ms : ∀ k ∈ so, 0 ≤ k ∧ k ≤ 7 := fun k hk => hn k (by rw [← hso] at hk; exact List.mem_mergeSort.mp hk)
  have bs := bl_sorted (ns := ns) (by omega)
  rw [hso] at bs
  let F : S3 → D → Option D := fun s x => some (.tup [x, .int (drw s 2)])
  let G3 : S3 → D → S3 := fun s _ => nxt s 2
  have com : ev (MP.run Γ (p + 2)) (C.com [("key", 4)] (C.tup (Cs.cons (C.var 4) (Cs.cons (C.call "_law_draw" (Cs.cons (C.var 0) (Cs.cons (C.int 2) Cs.nil))) Cs.nil))) (G.name 4) (I.of (C.blt "sorted" (Cs.cons (C.var 3) Cs.nil))) C'.no) [some (.ref i), some (.int size), some (.int size), some (.lst (ns.map .int)), none] (stp h i s2) = .ok (.lst (comR F G3 s2 (so.map .int)).1) (stp h i (comR F G3 s2 (so.map .int)).2) := by
    refine ev_com (evI_of (xs := so.map .int) (s := .lst (so.map .int)) (.inl rfl) (ev_blt1 (x := .lst (ns.map .int)) rfl bs)) ?_
    have := comLoop_is (α := S3) (turn := fun x h => match put (.name 4) x (wipeE [some (.ref i), some (.int size), some (.int size), some (.lst (ns.map .int)), none] [4]) with
        | some ρ' => (tstO (MP.run Γ (p + 2)).noact .no ρ' h).bind fun c h => if c then (ev (MP.run Γ (p + 2)).noact (C.tup (Cs.cons (C.var 4) (Cs.cons (C.call "_law_draw" (Cs.cons (C.var 0) (Cs.cons (C.int 2) Cs.nil))) Cs.nil))) ρ' h).bind fun y h => .ok (some y) h else .ok none h
        | none => .bad) (fun s => stp h i s) F G3 (fun _ _ => True) (fun s x xs _ => ⟨?_, trivial⟩) (so.map .int) [] s2 trivial (by rw [sizeLine_eq]; simp; omega)
    · rw [List.nil_append] at this
      exact this
    · have e1 := run_drw g__law_draw (p + 1) (h := stp h i s) (i := i) (s := s) (t := 2) (a.stp s).at_ (a.stp s).w (by decide) (by decide)
      have e2 : (stp h i s).set i (.lst (cell3 (nxt s 2))) = stp h i (nxt s 2) := sto_upd2
      rw [e2] at e1
      simp only [evSs, evS, ev, tst, evs, evO, evAnd, evOr, MP.tAnd, MP.tOr, tstO, R.bind_ok, R.bind_exc, R.bindF_ok, R.bindF_exc, R.of_some, R.of_none, deref_int, deref_bl, deref_str, deref_non, deref_tup, deref_lst, deref_scr, deref_ty, deref_dct, binD_add, binD_sub, cmpD_lt, cmpD_le, cmpD_gt, cmpD_ge, cmpD_eqi, cmpD_nei, idxD_lst, idxD_tup, idxD_scr, put_name, List.getElem?_cons_zero, List.getElem?_cons_succ, List.set_cons_zero, List.set_cons_succ, List.map_cons, List.map_nil, Option.map_some, Option.bind_some, List.cons_append, List.nil_append, List.replicate, startE, List.length_cons, List.length_nil, Nat.sub_self, Nat.reduceSub, Nat.reduceAdd, truD, if_true, if_false, Bool.not_true, Bool.not_false, Bool.false_eq_true, run_noact, Nat.zero_le, wipeE, e1, sizeLine_eq, Nat.reduceLeDiff]
      rfl
  have tr : tree 2 (.tup (comR F G3 s2 (so.map .int)).1) = true := by
    simp only [tree, Bool.and_eq_true, decide_eq_true_eq, List.all_eq_true]
    refine ⟨Nat.le_trans comR_len (by simpa using ls), fun y hy => ?_⟩
    obtain ⟨x, hx, b, e⟩ := mem_comR hy
    obtain ⟨k, hk, rfl⟩ := List.mem_map.mp hx
    cases e
    obtain ⟨d1, d2⟩ := drw_range b (t := 2) (by decide)
    obtain ⟨k1, k2⟩ := ms k hk
    have d3 : drw b 2 ≤ 7 := by omega
    simp [tree, k1, k2, d1, d3]
  refine ⟨(comR F G3 s2 (so.map .int)).1, (comR F G3 s2 (so.map .int)).2, ?_, tr⟩
  refine run_of g__law_partial rfl (by decide) (x := .tup (comR F G3 s2 (so.map .int)).1) (h' := stp h i (comR F G3 s2 (so.map .int)).2) ?_ (leave_old (dat_refs (lay_dat (tree_lay tr))) sto_len (a.stp _).w)
  simp only [c__law_partial]
  refine (evSs_nx (ρ' := [some (.ref i), some (.int size), some (.int size), some (.lst (ns.map .int)), none]) (h' := stp h i s2) (evS_set keys)).trans ?_
  exact evSs_rt (evS_ret (ev_blt1 com (by rw [deref_lst]; exact bl_tuple_lst)))
omit a in
theorem forLoop_inv {turn : D → MP.Env → Sto → R MP.Flow} {P : Nat → MP.Env → Sto → Prop} (step : ∀ k x ρ h, P (k + 1) ρ h → ∃ ρ' h', turn x ρ h = .ok (.nx ρ') h' ∧ P k ρ' h') : ∀ (xs : List D) (ρ : MP.Env) (h : Sto), P xs.length ρ h → ∃ ρ' h', forLoop turn xs ρ h = .ok (.nx ρ') h' ∧ P 0 ρ' h'
  | [], ρ, h, p => ⟨ρ, h, rfl, p⟩
  | x :: xs, ρ, h, p => by
    obtain ⟨ρ', h', e, p'⟩ := step xs.length x ρ h p
    obtain ⟨ρ2, h2, e2, p2⟩ := forLoop_inv step xs ρ' h' p'
    exact ⟨ρ2, h2, by simp only [forLoop, e, e2], p2⟩
omit a in
theorem tree_tup {k : Nat} {xs : List D} (t : tree (k + 1) (.tup xs) = true) : xs.length ≤ 7 ∧ ∀ x ∈ xs, tree k x = true := by
  simpa only [tree, Bool.and_eq_true, decide_eq_true_eq, List.all_eq_true] using t
def asL : D → D
  | .tup ys => .lst ys
  | x => x
omit a in
theorem goods (size : Nat) (hs : 1 ≤ size ∧ size ≤ 7) {xs ps : List D} (tx : tree 1 (.tup xs) = true) (tp : tree 2 (.tup ps) = true) :
    (∀ v ∈ [D.tup xs, .tup ps, .tup (xs ++ [.int 0]), .tup (xs.drop 1), .lst xs, .tup (xs.map fun x => .bl (match x with
      | .int v => decide (v = 1)
      | _ => false)), .tup ps.reverse, .tup [.tup ps]], GoodV v) ∧
    (∀ v ∈ [D.tup (ps ++ ps.drop (ps.length - 1)), .tup (ps ++ [.tup [.int size, .int 0]]), .tup (ps ++ [.tup [.int ((size : Int) - 1), .int 2]]), .lst ps], GoodV v) ∧
    (∀ v ∈ [D.tup (ps.map asL), .tup [.tup [.int 0, .bl true]], .tup [.tup [.bl false, .int 1]], .tup [.tup [.int (-1), .int 0]], .tup []], GoodV v) := by
  obtain ⟨lx, ex⟩ := tree_tup tx
  obtain ⟨lp, ep⟩ := tree_tup tp
  have Lx : ∀ x ∈ xs, lay 0 x = true := fun x hx => tree_lay (ex x hx)
  have Lp : ∀ x ∈ ps, lay 1 x = true := fun x hx => tree_lay (ep x hx)
  have g1 : ∀ {v : D}, lay 1 v = true → GoodV v := lay_good (by decide)
  have g2 : ∀ {v : D}, lay 2 v = true → GoodV v := lay_good (by decide)
  have g3 : ∀ {v : D}, lay 3 v = true → GoodV v := lay_good (by decide)
  refine ⟨fun v hv => ?_, fun v hv => ?_, fun v hv => ?_⟩
  · simp only [List.mem_cons, List.not_mem_nil, or_false] at hv
    rcases hv with rfl | rfl | rfl | rfl | rfl | rfl | rfl | rfl
    · exact g1 (lay_tup (by omega) Lx)
    · exact g2 (lay_tup (by omega) Lp)
    · refine g1 (lay_tup (by simp; omega) fun x hx => ?_)
      simp only [List.mem_append, List.mem_cons, List.not_mem_nil, or_false] at hx
      rcases hx with hx | rfl
      · exact Lx x hx
      · rfl
    · exact g1 (lay_tup (by rw [List.length_drop]; omega) fun x hx => Lx x (List.mem_of_mem_drop hx))
    · exact g1 (lay_lst (by omega) Lx)
    · refine g1 (lay_tup (by rw [List.length_map]; omega) fun x hx => ?_)
      obtain ⟨y, _, rfl⟩ := List.mem_map.mp hx
      rfl
    · exact g2 (lay_tup (by rw [List.length_reverse]; omega) fun x hx => Lp x (List.mem_reverse.mp hx))
    · exact g3 (lay_tup (by simp) (by intro x hx; simp only [List.mem_cons, List.not_mem_nil, or_false] at hx; subst hx; exact lay_tup (by omega) Lp))
  · simp only [List.mem_cons, List.not_mem_nil, or_false] at hv
    have two : ∀ {a b : Int}, -10 ≤ a → a ≤ 10 → -10 ≤ b → b ≤ 10 → lay 1 (.tup [.int a, .int b]) = true := fun h1 h2 h3 h4 => by simp [lay, h1, h2, h3, h4]
    rcases hv with rfl | rfl | rfl | rfl
    · exact g2 (lay_tup (by rw [List.length_append, List.length_drop]; omega) fun x hx => (List.mem_append.mp hx).elim (Lp x) fun hx => Lp x (List.mem_of_mem_drop hx))
    · refine g2 (lay_tup (by simp; omega) fun x hx => ?_)
      simp only [List.mem_append, List.mem_cons, List.not_mem_nil, or_false] at hx
      rcases hx with hx | rfl
      · exact Lp x hx
      · exact two (by omega) (by omega) (by decide) (by decide)
    · refine g2 (lay_tup (by simp; omega) fun x hx => ?_)
      simp only [List.mem_append, List.mem_cons, List.not_mem_nil, or_false] at hx
      rcases hx with hx | rfl
      · exact Lp x hx
      · exact two (by omega) (by omega) (by decide) (by decide)
    · exact g2 (lay_lst (by omega) Lp)
  · simp only [List.mem_cons, List.not_mem_nil, or_false] at hv
    rcases hv with rfl | rfl | rfl | rfl | rfl
    · refine g2 (lay_tup (by rw [List.length_map]; omega) fun x hx => ?_)
      obtain ⟨y, hy, rfl⟩ := List.mem_map.mp hx
      have ty := ep y hy
      cases y with
      | tup zs =>
        obtain ⟨l, e⟩ := tree_tup ty
        exact lay_lst (by omega) fun z hz => tree_lay (e z hz)
      | _ => simp [tree] at ty
    · exact g2 rfl
    · exact g2 rfl
    · exact g2 rfl
    · exact g2 rfl
theorem at_row' {m : Nat} (hm : 2 ≤ m) {k : Nat} (hk : k < 1000) : ∃ (xs : List D) (s' : S3), MP.run Γ m "_law_row" [.ref i, .int k] h = .ok (.tup xs) (stp h i s') ∧ xs.length = k ∧ ∀ x ∈ xs, ∃ v : Int, x = .int v ∧ 0 ≤ v ∧ v < 2 := by
  obtain ⟨p, rfl⟩ : ∃ p, m = p + 2 := ⟨m - 2, by omega⟩
  exact at_row g__law_draw g__law_row a p hk
theorem run_odd' {m : Nat} (hm : 3 ≤ m) : ∃ (v : D) (s' : S3), MP.run Γ m "_law_odd" [.ref i] h = .ok v (stp h i s') ∧ v ∈ oddL := by
  obtain ⟨p, rfl⟩ : ∃ p, m = p + 3 := ⟨m - 3, by omega⟩
  exact run_odd a p
end HT

set_option autoImplicit false
set_option linter.all false
set_option maxRecDepth 100000
set_option maxHeartbeats 4000000
namespace HT
open PySem PySem.Spec PyProof.Rows L2 MP
variable {h : Sto} {i : Nat} {s : S3} (a : At h i s)
include a
theorem run_values {m : Nat} (hm : 6 ≤ m) {size : Nat} (hs : 1 ≤ size ∧ size ≤ 7) : ∃ (fs : List D) (s' : S3), MP.run Γ m "_law_values" [.ref i, .int size] h = .ok (.lst fs) (stp h i s') ∧ fs.length ≤ 100 ∧ ∀ v ∈ fs, GoodV v := by
  obtain ⟨p, rfl⟩ : ∃ p, m = p + 1 := ⟨m - 1, by omega⟩
  obtain ⟨xs, s1, e1, l1, m1⟩ := at_row' a (m := p) (by omega) (k := size) (by omega)
  have a1 := a.stp s1
  have tx : tree 1 (.tup xs) = true := by
    simp only [tree, Bool.and_eq_true, decide_eq_true_eq, List.all_eq_true]
    refine ⟨by omega, fun x hx => ?_⟩
    obtain ⟨v, rfl, v1, v2⟩ := m1 x hx
    have : v ≤ 7 := by omega
    simp [tree, v1, this]
  obtain ⟨ps, s2, e2, tp⟩ := run_partial a1 (m := p) (by omega) hs.2
  rw [sto_upd2] at e2
  have a2 := a.stp s2
  obtain ⟨lx, ex⟩ := tree_tup tx
  obtain ⟨lp, ep⟩ := tree_tup tp
  obtain ⟨g1, g2, g3⟩ := goods size hs tx tp
  generalize hF : (fun x : D => D.bl (match x with
      | .int v => decide (v = 1)
      | _ => false)) = F at g1
  let A := [D.tup xs, .tup ps, .tup (xs ++ [.int 0]), .tup (xs.drop 1), .lst xs, .tup (xs.map F), .tup ps.reverse, .tup [.tup ps]]
  let B := [D.tup (ps ++ ps.drop (ps.length - 1)), .tup (ps ++ [.tup [.int size, .int 0]]), .tup (ps ++ [.tup [.int ((size : Int) - 1), .int 2]]), .lst ps]
  let C4 := [D.tup (ps.map asL), .tup [.tup [.int 0, .bl true]], .tup [.tup [.bl false, .int 1]], .tup [.tup [.int (-1), .int 0]], .tup []]
  have com1 : ev (MP.run Γ p) (C.com [("bit", 6)] (C.cmp .Eq (C.var 6) (C.int 1)) (G.name 6) (I.of (C.var 2)) C'.no) [some (.ref i), some (.int size), some (.tup xs), some (.tup ps), none, none, none, none] (stp h i s2) = .ok (.lst (xs.map F)) (stp h i s2) := by
    refine ev_com (evI_of (xs := xs) (s := .tup xs) (.inr rfl) rfl) (comLoop_map (fun x hx => ?_) (by rw [sizeLine_eq]; omega))
    obtain ⟨v, rfl, _, _⟩ := m1 x hx
    simp only [evSs, evS, ev, tst, evs, evO, evAnd, evOr, MP.tAnd, MP.tOr, tstO, R.bind_ok, R.bind_exc, R.bindF_ok, R.bindF_exc, R.of_some, R.of_none, deref_int, deref_bl, deref_str, deref_non, deref_tup, deref_lst, deref_scr, deref_ty, deref_dct, binD_add, binD_sub, cmpD_lt, cmpD_le, cmpD_gt, cmpD_ge, cmpD_eqi, cmpD_nei, idxD_lst, idxD_tup, idxD_scr, put_name, List.getElem?_cons_zero, List.getElem?_cons_succ, List.set_cons_zero, List.set_cons_succ, List.map_cons, List.map_nil, Option.map_some, Option.bind_some, List.cons_append, List.nil_append, List.replicate, startE, List.length_cons, List.length_nil, Nat.sub_self, Nat.reduceSub, Nat.reduceAdd, truD, if_true, if_false, Bool.not_true, Bool.not_false, Bool.false_eq_true, run_noact, Nat.zero_le, wipeE]
    rw [← hF]
  have com2 : ∀ fs, ev (MP.run Γ p) (C.com [("literal", 7)] (C.blt "list" (Cs.cons (C.var 7) Cs.nil)) (G.name 7) (I.of (C.var 3)) C'.no) [some (.ref i), some (.int size), some (.tup xs), some (.tup ps), some (.lst fs), none, none, none] (stp h i s2) = .ok (.lst (ps.map asL)) (stp h i s2) := fun fs => by
    refine ev_com (evI_of (xs := ps) (s := .tup ps) (.inr rfl) rfl) (comLoop_map (fun x hx => ?_) (by rw [sizeLine_eq]; omega))
    have ty := ep x hx
    cases x with
    | tup zs => simp only [evSs, evS, ev, tst, evs, evO, evAnd, evOr, MP.tAnd, MP.tOr, tstO, R.bind_ok, R.bind_exc, R.bindF_ok, R.bindF_exc, R.of_some, R.of_none, deref_int, deref_bl, deref_str, deref_non, deref_tup, deref_lst, deref_scr, deref_ty, deref_dct, binD_add, binD_sub, cmpD_lt, cmpD_le, cmpD_gt, cmpD_ge, cmpD_eqi, cmpD_nei, idxD_lst, idxD_tup, idxD_scr, put_name, List.getElem?_cons_zero, List.getElem?_cons_succ, List.set_cons_zero, List.set_cons_succ, List.map_cons, List.map_nil, Option.map_some, Option.bind_some, List.cons_append, List.nil_append, List.replicate, startE, List.length_cons, List.length_nil, Nat.sub_self, Nat.reduceSub, Nat.reduceAdd, truD, if_true, if_false, Bool.not_true, Bool.not_false, Bool.false_eq_true, run_noact, Nat.zero_le, wipeE, bl_list_t, asL]
    | _ => simp [tree] at ty
  have A1 : binD .Add (.tup xs) (.tup [.int 0]) = some (.tup (xs ++ [.int 0])) := add_tup (by simp; omega)
  have A2 : slcD (.tup xs) (some 1) none = some (.tup (xs.drop 1)) := slc_from (v := 1) (by decide)
  have B1 : binD .Add (.tup ps) (.tup (ps.drop (ps.length - 1))) = some (.tup (ps ++ ps.drop (ps.length - 1))) := add_tup (by rw [List.length_drop]; omega)
  have B2 : ∀ y, binD .Add (.tup ps) (.tup [y]) = some (.tup (ps ++ [y])) := fun y => add_tup (by simp; omega)
  have L1 : binD .Add (.lst A) (.lst B) = some (.lst (A ++ B)) := add_lst (by simp [A, B])
  have L2 : binD .Add (.lst (A ++ B)) (.lst C4) = some (.lst (A ++ B ++ C4)) := add_lst (by simp [A, B, C4])
  have q1 : evS (MP.run Γ p) (S.par 2 3 (C.call "_law_row" (Cs.cons (C.var 0) (Cs.cons (C.var 1) Cs.nil))) (C.call "_law_partial" (Cs.cons (C.var 0) (Cs.cons (C.var 1) (Cs.cons (C.var 1) Cs.nil))))) h.length (startE 8 [.ref i, .int size]) h = .ok (.nx [some (.ref i), some (.int size), some (.tup xs), some (.tup ps), none, none, none, none]) (stp h i s2) := by
    simp only [evSs, evS, ev, tst, evs, evO, evAnd, evOr, MP.tAnd, MP.tOr, tstO, R.bind_ok, R.bind_exc, R.bindF_ok, R.bindF_exc, R.of_some, R.of_none, deref_int, deref_bl, deref_str, deref_non, deref_tup, deref_lst, deref_scr, deref_ty, deref_dct, binD_add, binD_sub, cmpD_lt, cmpD_le, cmpD_gt, cmpD_ge, cmpD_eqi, cmpD_nei, idxD_lst, idxD_tup, idxD_scr, put_name, List.getElem?_cons_zero, List.getElem?_cons_succ, List.set_cons_zero, List.set_cons_succ, List.map_cons, List.map_nil, Option.map_some, Option.bind_some, List.cons_append, List.nil_append, List.replicate, startE, List.length_cons, List.length_nil, Nat.sub_self, Nat.reduceSub, Nat.reduceAdd, truD, if_true, if_false, Bool.not_true, Bool.not_false, Bool.false_eq_true, run_noact, Nat.zero_le, e1, e2]
  have com3 := com2 (A ++ B)
  simp only [evSs, evS, ev, tst, evs, evO, evAnd, evOr, MP.tAnd, MP.tOr, tstO, R.bind_ok, R.bind_exc, R.bindF_ok, R.bindF_exc, R.of_some, R.of_none, deref_int, deref_bl, deref_str, deref_non, deref_tup, deref_lst, deref_scr, deref_ty, deref_dct, binD_add, binD_sub, cmpD_lt, cmpD_le, cmpD_gt, cmpD_ge, cmpD_eqi, cmpD_nei, idxD_lst, idxD_tup, idxD_scr, put_name, List.getElem?_cons_zero, List.getElem?_cons_succ, List.set_cons_zero, List.set_cons_succ, List.map_cons, List.map_nil, Option.map_some, Option.bind_some, List.cons_append, List.nil_append, List.replicate, startE, List.length_cons, List.length_nil, Nat.sub_self, Nat.reduceSub, Nat.reduceAdd, truD, if_true, if_false, Bool.not_true, Bool.not_false, Bool.false_eq_true, run_noact, Nat.zero_le] at com1
  simp only [evSs, evS, ev, tst, evs, evO, evAnd, evOr, MP.tAnd, MP.tOr, tstO, R.bind_ok, R.bind_exc, R.bindF_ok, R.bindF_exc, R.of_some, R.of_none, deref_int, deref_bl, deref_str, deref_non, deref_tup, deref_lst, deref_scr, deref_ty, deref_dct, binD_add, binD_sub, cmpD_lt, cmpD_le, cmpD_gt, cmpD_ge, cmpD_eqi, cmpD_nei, idxD_lst, idxD_tup, idxD_scr, put_name, List.getElem?_cons_zero, List.getElem?_cons_succ, List.set_cons_zero, List.set_cons_succ, List.map_cons, List.map_nil, Option.map_some, Option.bind_some, List.cons_append, List.nil_append, List.replicate, startE, List.length_cons, List.length_nil, Nat.sub_self, Nat.reduceSub, Nat.reduceAdd, truD, if_true, if_false, Bool.not_true, Bool.not_false, Bool.false_eq_true, run_noact, Nat.zero_le] at com3
  have loop := forLoop_inv (turn := fun x ρ h2 => match put (.name 5) x ρ with
        | some ρ' => if (stp h i s2).length ≤ h2.length then evSs (MP.run Γ p) (Ss.cons (S.set (G.name 4) (C.bin .Add (C.var 4) (C.lst (Cs.cons (C.call "_law_bent" (Cs.cons (C.var 0) (Cs.cons (C.var 2) (Cs.cons (C.int 2) Cs.nil)))) (Cs.cons (C.call "_law_bent" (Cs.cons (C.var 0) (Cs.cons (C.var 3) (Cs.cons (C.int 3) Cs.nil)))) (Cs.cons (C.call "_law_odd" (Cs.cons (C.var 0) Cs.nil)) Cs.nil)))))) Ss.nil) (stp h i s2).length ρ' h2 else .bad
        | none => .bad) (P := fun k ρ h2 => ∃ fs s3 t, ρ = [some (.ref i), some (.int size), some (.tup xs), some (.tup ps), some (.lst fs), t, none, none] ∧ h2 = stp h i s3 ∧ fs.length + 3 * k ≤ 29 ∧ ∀ v ∈ fs, GoodV v) (fun k x ρ h2 ⟨fs, s3, t, hρ, hh, hl, hg⟩ => by
      subst hρ hh
      have a3 := a.stp s3
      obtain ⟨r1, s4, f1, y1⟩ := bent 1 (by decide) a3 (m := p) (by omega) tx 2
      rw [sto_upd2] at f1
      obtain ⟨r2, s5, f2, y2⟩ := bent 2 (by decide) (a.stp s4) (m := p) (by omega) tp 3
      rw [sto_upd2] at f2
      obtain ⟨r3, s6, f3, y3⟩ := run_odd' (a.stp s5) (m := p) (by omega)
      rw [sto_upd2] at f3
      have L3 : binD .Add (.lst fs) (.lst [r1, r2, r3]) = some (.lst (fs ++ [r1, r2, r3])) := add_lst (by simp only [List.length_cons, List.length_nil]; omega)
      have le : (stp h i s2).length ≤ (stp h i s3).length := by rw [sto_len, sto_len]; exact Nat.le_refl _
      refine ⟨[some (.ref i), some (.int size), some (.tup xs), some (.tup ps), some (.lst (fs ++ [r1, r2, r3])), some x, none, none], stp h i s6, ?_, _, s6, _, rfl, rfl, by simp only [List.length_append, List.length_cons, List.length_nil]; omega, fun v hv => ?_⟩
      · simp only [evSs, evS, ev, tst, evs, evO, evAnd, evOr, MP.tAnd, MP.tOr, tstO, R.bind_ok, R.bind_exc, R.bindF_ok, R.bindF_exc, R.of_some, R.of_none, deref_int, deref_bl, deref_str, deref_non, deref_tup, deref_lst, deref_scr, deref_ty, deref_dct, binD_add, binD_sub, cmpD_lt, cmpD_le, cmpD_gt, cmpD_ge, cmpD_eqi, cmpD_nei, idxD_lst, idxD_tup, idxD_scr, put_name, List.getElem?_cons_zero, List.getElem?_cons_succ, List.set_cons_zero, List.set_cons_succ, List.map_cons, List.map_nil, Option.map_some, Option.bind_some, List.cons_append, List.nil_append, List.replicate, startE, List.length_cons, List.length_nil, Nat.sub_self, Nat.reduceSub, Nat.reduceAdd, truD, if_true, if_false, Bool.not_true, Bool.not_false, Bool.false_eq_true, run_noact, Nat.zero_le, le, f1, f2, f3, L3, sizeLine_eq, Nat.reduceLeDiff]
      · simp only [List.mem_append, List.mem_cons, List.not_mem_nil, or_false] at hv
        rcases hv with hv | rfl | rfl | rfl
        · exact hg v hv
        · exact lay_good (by decide) y1
        · exact lay_good (by decide) y2
        · exact odd_good _ y3) (range 0 4) [some (.ref i), some (.int size), some (.tup xs), some (.tup ps), some (.lst (A ++ B ++ C4)), none, none, none] (stp h i s2) ⟨_, s2, none, rfl, rfl, by simp [A, B, C4, range_len], fun v hv => by
      simp only [List.mem_append] at hv
      rcases hv with (hv | hv) | hv
      · exact g1 v hv
      · exact g2 v hv
      · exact g3 v hv⟩
  obtain ⟨ρ', h2, el, fs, s3, t, rfl, rfl, hl, hg⟩ := loop
  refine ⟨fs, s3, ?_, by omega, hg⟩
  refine run_of g__law_values rfl (by decide) (x := .lst fs) (h' := stp h i s3) ?_ (leave_old (dat_refs (by rw [dat_lst, dats_iff]; exact fun v hv => (hg v hv).dt)) sto_len (a.stp s3).w)
  simp only [c__law_values]
  refine (evSs_nx q1).trans ?_
  refine (evSs_nx (ρ' := [some (.ref i), some (.int size), some (.tup xs), some (.tup ps), some (.lst A), none, none, none]) (h' := stp h i s2) ?_).trans ((evSs_nx (ρ' := [some (.ref i), some (.int size), some (.tup xs), some (.tup ps), some (.lst (A ++ B)), none, none, none]) (h' := stp h i s2) ?_).trans ((evSs_nx (ρ' := [some (.ref i), some (.int size), some (.tup xs), some (.tup ps), some (.lst (A ++ B ++ C4)), none, none, none]) (h' := stp h i s2) ?_).trans ?_))
  · simp only [evSs, evS, ev, tst, evs, evO, evAnd, evOr, MP.tAnd, MP.tOr, tstO, R.bind_ok, R.bind_exc, R.bindF_ok, R.bindF_exc, R.of_some, R.of_none, deref_int, deref_bl, deref_str, deref_non, deref_tup, deref_lst, deref_scr, deref_ty, deref_dct, binD_add, binD_sub, cmpD_lt, cmpD_le, cmpD_gt, cmpD_ge, cmpD_eqi, cmpD_nei, idxD_lst, idxD_tup, idxD_scr, put_name, List.getElem?_cons_zero, List.getElem?_cons_succ, List.set_cons_zero, List.set_cons_succ, List.map_cons, List.map_nil, Option.map_some, Option.bind_some, List.cons_append, List.nil_append, List.replicate, startE, List.length_cons, List.length_nil, Nat.sub_self, Nat.reduceSub, Nat.reduceAdd, truD, if_true, if_false, Bool.not_true, Bool.not_false, Bool.false_eq_true, run_noact, Nat.zero_le, com1, A1, A2, bl_list_t, bl_tuple_lst, revD, sizeLine_eq, Nat.reduceLeDiff]
    rfl
  · simp only [evSs, evS, ev, tst, evs, evO, evAnd, evOr, MP.tAnd, MP.tOr, tstO, R.bind_ok, R.bind_exc, R.bindF_ok, R.bindF_exc, R.of_some, R.of_none, deref_int, deref_bl, deref_str, deref_non, deref_tup, deref_lst, deref_scr, deref_ty, deref_dct, binD_add, binD_sub, cmpD_lt, cmpD_le, cmpD_gt, cmpD_ge, cmpD_eqi, cmpD_nei, idxD_lst, idxD_tup, idxD_scr, put_name, List.getElem?_cons_zero, List.getElem?_cons_succ, List.set_cons_zero, List.set_cons_succ, List.map_cons, List.map_nil, Option.map_some, Option.bind_some, List.cons_append, List.nil_append, List.replicate, startE, List.length_cons, List.length_nil, Nat.sub_self, Nat.reduceSub, Nat.reduceAdd, truD, if_true, if_false, Bool.not_true, Bool.not_false, Bool.false_eq_true, run_noact, Nat.zero_le, negD, slc_last, B1, B2, bl_list_t, sizeLine_eq, Nat.reduceLeDiff]
    rw [show [D.tup (ps ++ ps.drop (ps.length - 1)), .tup (ps ++ [.tup [.int size, .int 0]]), .tup (ps ++ [.tup [.int ((size : Int) - 1), .int 2]]), .lst ps] = B from rfl, L1]
    rfl
  · simp only [evSs, evS, ev, tst, evs, evO, evAnd, evOr, MP.tAnd, MP.tOr, tstO, R.bind_ok, R.bind_exc, R.bindF_ok, R.bindF_exc, R.of_some, R.of_none, deref_int, deref_bl, deref_str, deref_non, deref_tup, deref_lst, deref_scr, deref_ty, deref_dct, binD_add, binD_sub, cmpD_lt, cmpD_le, cmpD_gt, cmpD_ge, cmpD_eqi, cmpD_nei, idxD_lst, idxD_tup, idxD_scr, put_name, List.getElem?_cons_zero, List.getElem?_cons_succ, List.set_cons_zero, List.set_cons_succ, List.map_cons, List.map_nil, Option.map_some, Option.bind_some, List.cons_append, List.nil_append, List.replicate, startE, List.length_cons, List.length_nil, Nat.sub_self, Nat.reduceSub, Nat.reduceAdd, truD, if_true, if_false, Bool.not_true, Bool.not_false, Bool.false_eq_true, run_noact, Nat.zero_le, com3, negD, bl_tuple_lst, sizeLine_eq, Nat.reduceLeDiff]
    rw [show [D.tup (ps.map asL), .tup [.tup [.int 0, .bl true]], .tup [.tup [.bl false, .int 1]], .tup [.tup [.int (-1), .int 0]], .tup []] = C4 from rfl, L2]
    rfl
  have it4 : ∀ (call : Calls) (ρ : MP.Env) (h : Sto), evI call (I.rng1 (C.int 4)) ρ h = .ok (range 0 4) h := fun call ρ h => by
    have := evI_rng1 (call := call) (a := C.int 4) (ρ := ρ) (h := h) (h' := h) (j := 4) (by simp only [ev]) (by omega)
    exact this
  refine (evSs_nx (evS_for (it4 _ _ _) el)).trans ?_
  simp only [evSs, evS, ev, tst, evs, evO, evAnd, evOr, MP.tAnd, MP.tOr, tstO, R.bind_ok, R.bind_exc, R.bindF_ok, R.bindF_exc, R.of_some, R.of_none, deref_int, deref_bl, deref_str, deref_non, deref_tup, deref_lst, deref_scr, deref_ty, deref_dct, binD_add, binD_sub, cmpD_lt, cmpD_le, cmpD_gt, cmpD_ge, cmpD_eqi, cmpD_nei, idxD_lst, idxD_tup, idxD_scr, put_name, List.getElem?_cons_zero, List.getElem?_cons_succ, List.set_cons_zero, List.set_cons_succ, List.map_cons, List.map_nil, Option.map_some, Option.bind_some, List.cons_append, List.nil_append, List.replicate, startE, List.length_cons, List.length_nil, Nat.sub_self, Nat.reduceSub, Nat.reduceAdd, truD, if_true, if_false, Bool.not_true, Bool.not_false, Bool.false_eq_true, run_noact, Nat.zero_le]
end HT

set_option autoImplicit false
set_option linter.all false
set_option maxRecDepth 100000
set_option maxHeartbeats 4000000
namespace HT
open PySem PySem.Spec PyProof.Rows L2 MP
theorem forLoop_on {turn : D → MP.Env → Sto → R MP.Flow} {P : MP.Env → Sto → Prop} {Q : D → Prop} (step : ∀ x ρ h, Q x → P ρ h → ∃ ρ' h', turn x ρ h = .ok (.nx ρ') h' ∧ P ρ' h') : ∀ (xs : List D) (ρ : MP.Env) (h : Sto), (∀ x ∈ xs, Q x) → P ρ h → ∃ ρ' h', forLoop turn xs ρ h = .ok (.nx ρ') h' ∧ P ρ' h'
  | [], ρ, h, _, p => ⟨ρ, h, rfl, p⟩
  | x :: xs, ρ, h, q, p => by
    obtain ⟨ρ', h', e, p'⟩ := step x ρ h (q x List.mem_cons_self) p
    obtain ⟨ρ2, h2, e2, p2⟩ := forLoop_on step xs ρ' h' (fun y hy => q y (List.mem_cons_of_mem _ hy)) p'
    exact ⟨ρ2, h2, by simp only [forLoop, e, e2], p2⟩
section
variable {h : Sto} (w : Wf h) {m : Nat}
include w
theorem judged' (hm : 5 ≤ m) {size : Nat} {v : D} (hs : 1 ≤ size ∧ size ≤ 7) (g : GoodV v) : MP.run Γ m "_law_judged_right" [.int size, v] h = .ok (.bl true) h := by
  obtain ⟨p, rfl⟩ : ∃ p, m = p + 5 := ⟨m - 5, by omega⟩
  exact run_judged w p hs g
theorem is_row' (hm : 4 ≤ m) {size : Nat} {d : D} {b : Bool} (hs : 1 ≤ size ∧ size ≤ 7) (g : GoodV d) (e : isRow size d = b) : MP.run Γ m "is_row" [.int size, d] h = .ok (.bl b) h := by
  obtain ⟨p, rfl⟩ : ∃ p, m = p + 4 := ⟨m - 4, by omega⟩
  rw [← e]
  exact run_is_row w p hs g.dt g.ln
theorem is_partial' (hm : 4 ≤ m) {size : Nat} {d : D} {b : Bool} (hs : 1 ≤ size ∧ size ≤ 7) (g : GoodV d) (e : isPart size d = b) : MP.run Γ m "is_partial" [.int size, d] h = .ok (.bl b) h := by
  obtain ⟨p, rfl⟩ : ∃ p, m = p + 4 := ⟨m - 4, by omega⟩
  rw [← e]
  exact run_is_partial w p hs g.dt g.ln
theorem ref_row (hm : 4 ≤ m) {d v : D} {ρ : MP.Env} (q : dat d = true) (e : isB 1 7 d = false) (h1 : ρ[5]? = some (some v)) (h2 : ρ[6]? = some (some d)) :
    ev (MP.run Γ m) (C.lamc "_law_refused" (C.call "is_row" (Cs.cons (C.var 6) (Cs.cons (C.var 5) Cs.nil)))) ρ h = .ok (.lst [d]) h := by
  obtain ⟨p, rfl⟩ : ∃ p, m = p + 4 := ⟨m - 4, by omega⟩
  have r := run_is_row_not w p (x := v) q e
  refine refused w (p + 3) q ?_
  simp only [ev, evs, h1, h2, R.bind_ok, low_fn]
  exact r
theorem ref_part (hm : 4 ≤ m) {d v : D} {ρ : MP.Env} (q : dat d = true) (e : isB 1 7 d = false) (h1 : ρ[5]? = some (some v)) (h2 : ρ[6]? = some (some d)) :
    ev (MP.run Γ m) (C.lamc "_law_refused" (C.call "is_partial" (Cs.cons (C.var 6) (Cs.cons (C.var 5) Cs.nil)))) ρ h = .ok (.lst [d]) h := by
  obtain ⟨p, rfl⟩ : ∃ p, m = p + 4 := ⟨m - 4, by omega⟩
  have r := run_is_partial_not w p (x := v) q e
  refine refused w (p + 3) q ?_
  simp only [ev, evs, h1, h2, R.bind_ok, low_fn]
  exact r
theorem stream' (hm : 1 ≤ m) {ns : List Int} {k : Nat} : ∃ s : S3, MP.run Γ m "_law_stream" [.scr ns, .int k] h = .ok (.ref h.length) (h ++ [.lst (cell3 s)]) ∧ At (h ++ [.lst (cell3 s)]) h.length s := by
  obtain ⟨p, rfl⟩ : ∃ p, m = p + 1 := ⟨m - 1, by omega⟩
  refine ⟨(firstOf (MP.cellOf ns k), mixedOf (MP.cellOf ns k) k, 0), run_stream g__law_stream p w, w.app (by have := cell3_below (n := h.length) (firstOf (MP.cellOf ns k), mixedOf (MP.cellOf ns k) k, 0); simpa only [MO.below] using this), ?_⟩
  rw [List.getElem?_append_right (Nat.le_refl _), Nat.sub_self]; rfl
end
def badL : List D := [.int 0, .int 8, .int (-1), .non, .bl true, .str "3", .tup [.int 3], .int (10 ^ 39), .lst [], .dct [], .bl false]
theorem bad_ok : ∀ d ∈ badL, dat d = true ∧ isB 1 7 d = false ∧ cmpD .NotEq (.lst [d]) (.lst [d]) = some false := by
  have : badL.all (fun d => dat d && (!isB 1 7 d && (cmpD .NotEq (.lst [d]) (.lst [d]) == some false))) = true := by decide +kernel
  intro d hd
  have t := List.all_eq_true.mp this d hd
  simp only [Bool.and_eq_true, Bool.not_eq_true', beq_iff_eq] at t
  exact t
def bodyK : Ss := match c_law.body with
  | .cons _ (.cons (.for_ _ _ b) _) => b
  | b => b
def restK : Ss := match c_law.body with
  | .cons _ (.cons _ b) => b
  | b => b
theorem step {q : Nat} (hq : 7 ≤ q) {ns : List Int} (nb : Nat) (x : D) (ρ : MP.Env) (h : Sto) (hx : ∃ k : Nat, x = .int k) (P : Wf h ∧ ∃ t1 t2 t3 t4 t5 t6, ρ = [some (.scr ns), t1, t2, t3, t4, t5, t6]) :
    ∃ ρ' h', evSs (MP.run Γ q) bodyK nb (ρ.set 1 (some x)) h = .ok (.nx ρ') h' ∧ h.length ≤ h'.length ∧ (Wf h' ∧ ∃ t1 t2 t3 t4 t5 t6, ρ' = [some (.scr ns), t1, t2, t3, t4, t5, t6]) := by
  obtain ⟨w, t1, t2, t3, t4, t5, t6, rfl⟩ := P
  obtain ⟨k, rfl⟩ := hx
  obtain ⟨s0, e0, a0⟩ := stream' w (m := q) (by omega) (ns := ns) (k := k)
  generalize hj : h.length = j at e0 a0
  generalize hh1 : h ++ [MO.lst (cell3 s0)] = h1 at e0 a0
  have l1 : h1.length = j + 1 := by rw [← hh1]; simp [hj]
  obtain ⟨v, s1, e1, v1, v2⟩ := at_draw' a0 (m := q) (by omega) (t := 7) (by decide) (by decide)
  obtain ⟨sz, hz⟩ : ∃ sz : Nat, (1 + v : Int) = sz := ⟨(1 + v).toNat, by omega⟩
  have hs : 1 ≤ sz ∧ sz ≤ 7 := by omega
  obtain ⟨fs, s2, e2, fl, fg⟩ := run_values (a0.stp s1) (m := q) (by omega) hs
  rw [sto_upd2] at e2
  have a2 := a0.stp s2
  obtain ⟨d, s3, e3, m3⟩ := at_pick' a2 (m := q) (by omega) (xs := badL) (by decide +kernel) (by decide +kernel) (by decide +kernel)
  rw [sto_upd2] at e3
  obtain ⟨d1, d2, d3⟩ := bad_ok d m3
  obtain ⟨u, s4, e4, m4⟩ := run_odd' (a0.stp s3) (m := q) (by omega)
  rw [sto_upd2] at e4
  have a4 := a0.stp s4
  -- the values' loop
  obtain ⟨ρ5, h5, e5, rfl, o5, rfl⟩ := forLoop_on (turn := fun x ρ h2 => match put (.name 5) x ρ with
        | some ρ' => if (stp h1 j s2).length ≤ h2.length then evSs (MP.run Γ q) (Ss.cons (S.ite (C.not (C.call "_law_judged_right" (Cs.cons (C.var 4) (Cs.cons (C.var 5) Cs.nil)))) (Ss.cons (S.ret (C.bl false)) Ss.nil) Ss.nil) Ss.nil) (stp h1 j s2).length ρ' h2 else .bad
        | none => .bad) (P := fun ρ h2 => h2 = stp h1 j s2 ∧ ∃ o, ρ = [some (.scr ns), some (.int k), t2, some (.ref j), some (.int sz), o, t6]) (Q := GoodV) (fun x ρ h2 gx ⟨hh, o, hρ⟩ => by
      subst hh hρ
      refine ⟨[some (.scr ns), some (.int k), t2, some (.ref j), some (.int sz), some x, t6], _, ?_, rfl, _, rfl⟩
      have jr := judged' a2.w (m := q) (by omega) hs gx
      simp only [evSs, evS, ev, tst, evs, evO, evAnd, evOr, MP.tAnd, MP.tOr, tstO, R.bind_ok, R.bind_exc, R.bindF_ok, R.bindF_exc, R.of_some, R.of_none, deref_int, deref_bl, deref_str, deref_non, deref_tup, deref_lst, deref_scr, deref_ty, deref_dct, binD_add, binD_sub, cmpD_lt, cmpD_le, cmpD_gt, cmpD_ge, cmpD_eqi, cmpD_nei, idxD_lst, idxD_tup, idxD_scr, put_name, List.getElem?_cons_zero, List.getElem?_cons_succ, List.set_cons_zero, List.set_cons_succ, List.map_cons, List.map_nil, Option.map_some, Option.bind_some, List.cons_append, List.nil_append, List.replicate, startE, List.length_cons, List.length_nil, Nat.sub_self, Nat.reduceSub, Nat.reduceAdd, truD, if_true, if_false, Bool.not_true, Bool.not_false, Bool.false_eq_true, run_noact, Nat.zero_le, Nat.le_refl, jr]) fs [some (.scr ns), some (.int k), t2, some (.ref j), some (.int sz), t5, t6] (stp h1 j s2) fg ⟨rfl, t5, rfl⟩
  refine ⟨[some (.scr ns), some (.int k), t2, some (.ref j), some (.int sz), some u, some d], stp h1 j s4, ?_, by rw [sto_len, l1]; omega, a4.w, _, _, _, _, _, _, rfl⟩
  simp only [bodyK, c_law, List.set_cons_succ, List.set_cons_zero]
  refine (evSs_nx (ρ' := [some (.scr ns), some (.int k), t2, some (.ref j), t4, t5, t6]) (h' := h1) ?_).trans ((evSs_nx (ρ' := [some (.scr ns), some (.int k), t2, some (.ref j), some (.int sz), t5, t6]) (h' := stp h1 j s1) ?_).trans ((evSs_nx (ρ' := [some (.scr ns), some (.int k), t2, some (.ref j), some (.int sz), o5, t6]) (h' := stp h1 j s2) ?_).trans ?_))
  · simp only [evSs, evS, ev, tst, evs, evO, evAnd, evOr, MP.tAnd, MP.tOr, tstO, R.bind_ok, R.bind_exc, R.bindF_ok, R.bindF_exc, R.of_some, R.of_none, deref_int, deref_bl, deref_str, deref_non, deref_tup, deref_lst, deref_scr, deref_ty, deref_dct, binD_add, binD_sub, cmpD_lt, cmpD_le, cmpD_gt, cmpD_ge, cmpD_eqi, cmpD_nei, idxD_lst, idxD_tup, idxD_scr, put_name, List.getElem?_cons_zero, List.getElem?_cons_succ, List.set_cons_zero, List.set_cons_succ, List.map_cons, List.map_nil, Option.map_some, Option.bind_some, List.cons_append, List.nil_append, List.replicate, startE, List.length_cons, List.length_nil, Nat.sub_self, Nat.reduceSub, Nat.reduceAdd, truD, if_true, if_false, Bool.not_true, Bool.not_false, Bool.false_eq_true, run_noact, Nat.zero_le, e0]
  · simp only [evSs, evS, ev, tst, evs, evO, evAnd, evOr, MP.tAnd, MP.tOr, tstO, R.bind_ok, R.bind_exc, R.bindF_ok, R.bindF_exc, R.of_some, R.of_none, deref_int, deref_bl, deref_str, deref_non, deref_tup, deref_lst, deref_scr, deref_ty, deref_dct, binD_add, binD_sub, cmpD_lt, cmpD_le, cmpD_gt, cmpD_ge, cmpD_eqi, cmpD_nei, idxD_lst, idxD_tup, idxD_scr, put_name, List.getElem?_cons_zero, List.getElem?_cons_succ, List.set_cons_zero, List.set_cons_succ, List.map_cons, List.map_nil, Option.map_some, Option.bind_some, List.cons_append, List.nil_append, List.replicate, startE, List.length_cons, List.length_nil, Nat.sub_self, Nat.reduceSub, Nat.reduceAdd, truD, if_true, if_false, Bool.not_true, Bool.not_false, Bool.false_eq_true, run_noact, Nat.zero_le, e1, hz]
  · refine evS_for (xs := fs) (h' := stp h1 j s2) (evI_of (s := .lst fs) (.inl rfl) ?_) e5
    exact (ev_call2 (x := .ref j) (h' := stp h1 j s1) (x2 := .int sz) (h2 := stp h1 j s1) rfl rfl).trans e2
  refine (evSs_nx (ρ' := [some (.scr ns), some (.int k), t2, some (.ref j), some (.int sz), o5, some d]) (h' := stp h1 j s3) ?_).trans ((evSs_nx (ρ' := [some (.scr ns), some (.int k), t2, some (.ref j), some (.int sz), some u, some d]) (h' := stp h1 j s4) ?_).trans ?_)
  · simp only [evSs, evS, ev, tst, evs, evO, evAnd, evOr, MP.tAnd, MP.tOr, tstO, R.bind_ok, R.bind_exc, R.bindF_ok, R.bindF_exc, R.of_some, R.of_none, deref_int, deref_bl, deref_str, deref_non, deref_tup, deref_lst, deref_scr, deref_ty, deref_dct, binD_add, binD_sub, cmpD_lt, cmpD_le, cmpD_gt, cmpD_ge, cmpD_eqi, cmpD_nei, idxD_lst, idxD_tup, idxD_scr, put_name, List.getElem?_cons_zero, List.getElem?_cons_succ, List.set_cons_zero, List.set_cons_succ, List.map_cons, List.map_nil, Option.map_some, Option.bind_some, List.cons_append, List.nil_append, List.replicate, startE, List.length_cons, List.length_nil, Nat.sub_self, Nat.reduceSub, Nat.reduceAdd, truD, if_true, if_false, Bool.not_true, Bool.not_false, Bool.false_eq_true, run_noact, Nat.zero_le, negD, p39, sizeLine_eq, Nat.reduceLeDiff]
    rw [show [D.int 0, D.int 8, D.int (-1), D.non, D.bl true, D.str "3", D.tup [D.int 3], D.int (10 ^ 39), D.lst [], D.dct [], D.bl false] = badL from rfl, e3]
    simp only [evSs, evS, ev, tst, evs, evO, evAnd, evOr, MP.tAnd, MP.tOr, tstO, R.bind_ok, R.bind_exc, R.bindF_ok, R.bindF_exc, R.of_some, R.of_none, deref_int, deref_bl, deref_str, deref_non, deref_tup, deref_lst, deref_scr, deref_ty, deref_dct, binD_add, binD_sub, cmpD_lt, cmpD_le, cmpD_gt, cmpD_ge, cmpD_eqi, cmpD_nei, idxD_lst, idxD_tup, idxD_scr, put_name, List.getElem?_cons_zero, List.getElem?_cons_succ, List.set_cons_zero, List.set_cons_succ, List.map_cons, List.map_nil, Option.map_some, Option.bind_some, List.cons_append, List.nil_append, List.replicate, startE, List.length_cons, List.length_nil, Nat.sub_self, Nat.reduceSub, Nat.reduceAdd, truD, if_true, if_false, Bool.not_true, Bool.not_false, Bool.false_eq_true, run_noact, Nat.zero_le]
  · simp only [evSs, evS, ev, tst, evs, evO, evAnd, evOr, MP.tAnd, MP.tOr, tstO, R.bind_ok, R.bind_exc, R.bindF_ok, R.bindF_exc, R.of_some, R.of_none, deref_int, deref_bl, deref_str, deref_non, deref_tup, deref_lst, deref_scr, deref_ty, deref_dct, binD_add, binD_sub, cmpD_lt, cmpD_le, cmpD_gt, cmpD_ge, cmpD_eqi, cmpD_nei, idxD_lst, idxD_tup, idxD_scr, put_name, List.getElem?_cons_zero, List.getElem?_cons_succ, List.set_cons_zero, List.set_cons_succ, List.map_cons, List.map_nil, Option.map_some, Option.bind_some, List.cons_append, List.nil_append, List.replicate, startE, List.length_cons, List.length_nil, Nat.sub_self, Nat.reduceSub, Nat.reduceAdd, truD, if_true, if_false, Bool.not_true, Bool.not_false, Bool.false_eq_true, run_noact, Nat.zero_le, e4]
  have r1 := ref_row a4.w (m := q) (by omega) (d := d) (v := u) (ρ := [some (.scr ns), some (.int k), t2, some (.ref j), some (.int sz), some u, some d]) d1 d2 rfl rfl
  have r2 := ref_part a4.w (m := q) (by omega) (d := d) (v := u) (ρ := [some (.scr ns), some (.int k), t2, some (.ref j), some (.int sz), some u, some d]) d1 d2 rfl rfl
  have test : ∀ c : C, ev (MP.run Γ q) c [some (.scr ns), some (.int k), t2, some (.ref j), some (.int sz), some u, some d] (stp h1 j s4) = .ok (.lst [d]) (stp h1 j s4) →
      evS (MP.run Γ q) (S.ite (C.cmp .NotEq c (C.lst (Cs.cons (C.var 6) Cs.nil))) (Ss.cons (S.ret (C.bl false)) Ss.nil) Ss.nil) nb [some (.scr ns), some (.int k), t2, some (.ref j), some (.int sz), some u, some d] (stp h1 j s4) = .ok (.nx [some (.scr ns), some (.int k), t2, some (.ref j), some (.int sz), some u, some d]) (stp h1 j s4) := fun c e => by
    refine (evS_ite (c := false) (h' := stp h1 j s4) ?_).trans rfl
    simp only [tst, e, R.bind_ok]
    simp only [evSs, evS, ev, tst, evs, evO, evAnd, evOr, MP.tAnd, MP.tOr, tstO, R.bind_ok, R.bind_exc, R.bindF_ok, R.bindF_exc, R.of_some, R.of_none, deref_int, deref_bl, deref_str, deref_non, deref_tup, deref_lst, deref_scr, deref_ty, deref_dct, binD_add, binD_sub, cmpD_lt, cmpD_le, cmpD_gt, cmpD_ge, cmpD_eqi, cmpD_nei, idxD_lst, idxD_tup, idxD_scr, put_name, List.getElem?_cons_zero, List.getElem?_cons_succ, List.set_cons_zero, List.set_cons_succ, List.map_cons, List.map_nil, Option.map_some, Option.bind_some, List.cons_append, List.nil_append, List.replicate, startE, List.length_cons, List.length_nil, Nat.sub_self, Nat.reduceSub, Nat.reduceAdd, truD, if_true, if_false, Bool.not_true, Bool.not_false, Bool.false_eq_true, run_noact, Nat.zero_le, sizeLine_eq, Nat.reduceLeDiff, d3]
  refine (evSs_nx (test _ r1)).trans ((evSs_nx (test _ r2)).trans ?_)
  simp only [evSs, evS, ev, tst, evs, evO, evAnd, evOr, MP.tAnd, MP.tOr, tstO, R.bind_ok, R.bind_exc, R.bindF_ok, R.bindF_exc, R.of_some, R.of_none, deref_int, deref_bl, deref_str, deref_non, deref_tup, deref_lst, deref_scr, deref_ty, deref_dct, binD_add, binD_sub, cmpD_lt, cmpD_le, cmpD_gt, cmpD_ge, cmpD_eqi, cmpD_nei, idxD_lst, idxD_tup, idxD_scr, put_name, List.getElem?_cons_zero, List.getElem?_cons_succ, List.set_cons_zero, List.set_cons_succ, List.map_cons, List.map_nil, Option.map_some, Option.bind_some, List.cons_append, List.nil_append, List.replicate, startE, List.length_cons, List.length_nil, Nat.sub_self, Nat.reduceSub, Nat.reduceAdd, truD, if_true, if_false, Bool.not_true, Bool.not_false, Bool.false_eq_true, run_noact, Nat.zero_le]
theorem good0 {v : D} (h : goodB v = true) : GoodV v := goodB_ok h
theorem pure_law {q : Nat} (hq : 7 ≤ q) (ns : List Int) (hn : ns.length ≤ 63) : ∃ st, MP.run Γ (q + 1) "law" [.scr ns] [] = .ok (.bl true) st := by
  have w0 : Wf [] := rfl
  generalize hT : (if (if (ns.length : Int) < 12 then (ns.length : Int) else 12) > 1 then (if (ns.length : Int) < 12 then (ns.length : Int) else 12) else 1) = T
  have T1 : 0 ≤ T ∧ T ≤ 12 := by rw [← hT]; split <;> split <;> omega
  have it : evI (MP.run Γ q) (I.rng1 (C.blt "max" (Cs.cons (C.int 1) (Cs.cons (C.blt "min" (Cs.cons (C.int 12) (Cs.cons (C.blt "len" (Cs.cons (C.var 0) Cs.nil)) Cs.nil))) Cs.nil)))) (startE 7 [.scr ns]) [] = .ok (range 0 T.toNat) [] := by
    refine evI_rng1 (j := T) ?_ (by omega)
    simp only [evSs, evS, ev, tst, evs, evO, evAnd, evOr, MP.tAnd, MP.tOr, tstO, R.bind_ok, R.bind_exc, R.bindF_ok, R.bindF_exc, R.of_some, R.of_none, deref_int, deref_bl, deref_str, deref_non, deref_tup, deref_lst, deref_scr, deref_ty, deref_dct, binD_add, binD_sub, cmpD_lt, cmpD_le, cmpD_gt, cmpD_ge, cmpD_eqi, cmpD_nei, idxD_lst, idxD_tup, idxD_scr, put_name, List.getElem?_cons_zero, List.getElem?_cons_succ, List.set_cons_zero, List.set_cons_succ, List.map_cons, List.map_nil, Option.map_some, Option.bind_some, List.cons_append, List.nil_append, List.replicate, startE, List.length_cons, List.length_nil, Nat.sub_self, Nat.reduceSub, Nat.reduceAdd, truD, if_true, if_false, Bool.not_true, Bool.not_false, Bool.false_eq_true, run_noact, Nat.zero_le, bl_len_scr, bl_min, bl_max, hT]
  obtain ⟨ρ1, h1, e1, w1, t1, t2, t3, t4, t5, t6, rfl⟩ := forLoop_on (turn := fun x ρ h2 => match put (.name 1) x ρ with
        | some ρ' => if ([] : Sto).length ≤ h2.length then evSs (MP.run Γ q) bodyK ([] : Sto).length ρ' h2 else .bad
        | none => .bad) (P := fun ρ h2 => Wf h2 ∧ ∃ t1 t2 t3 t4 t5 t6, ρ = [some (.scr ns), t1, t2, t3, t4, t5, t6]) (Q := fun x => ∃ k : Nat, x = .int k) (fun x ρ h2 hx P => by
      obtain ⟨ρ', h', e, _, P'⟩ := step hq (ns := ns) ([] : Sto).length x ρ h2 hx P
      refine ⟨ρ', h', ?_, P'⟩
      simp only [put_name]
      rw [if_pos (show ([] : Sto).length ≤ h2.length from Nat.zero_le _)]
      exact e) (range 0 T.toNat) (startE 7 [.scr ns]) [] (fun x hx => by
      obtain ⟨k, _, rfl⟩ := mem_range hx
      exact ⟨k, by rw [Int.zero_add]⟩) ⟨w0, none, none, none, none, none, none, rfl⟩
  refine ⟨[], run_of g_law rfl (by decide) (x := .bl true) (h' := h1) ?_ (by simp [leave, refsBelow])⟩
  have body : c_law.body = Ss.cons (S.ite (C.cmp .NotEq (C.con "MAX_KEYS" 7) (C.int 7)) (Ss.cons (S.ret (C.bl false)) Ss.nil) Ss.nil) (Ss.cons (S.for_ (G.name 1) (I.rng1 (C.blt "max" (Cs.cons (C.int 1) (Cs.cons (C.blt "min" (Cs.cons (C.int 12) (Cs.cons (C.blt "len" (Cs.cons (C.var 0) Cs.nil)) Cs.nil))) Cs.nil)))) bodyK) restK) := rfl
  rw [body]
  refine (evSs_nx (ρ' := startE 7 [.scr ns]) (h' := []) ?_).trans ((evSs_nx (evS_for it e1)).trans ?_)
  · show evS _ _ _ (startE 7 [.scr ns]) [] = _
    simp only [evSs, evS, ev, tst, evs, evO, evAnd, evOr, MP.tAnd, MP.tOr, tstO, R.bind_ok, R.bind_exc, R.bindF_ok, R.bindF_exc, R.of_some, R.of_none, deref_int, deref_bl, deref_str, deref_non, deref_tup, deref_lst, deref_scr, deref_ty, deref_dct, binD_add, binD_sub, cmpD_lt, cmpD_le, cmpD_gt, cmpD_ge, cmpD_eqi, cmpD_nei, idxD_lst, idxD_tup, idxD_scr, put_name, List.getElem?_cons_zero, List.getElem?_cons_succ, List.set_cons_zero, List.set_cons_succ, List.map_cons, List.map_nil, Option.map_some, Option.bind_some, List.cons_append, List.nil_append, List.replicate, startE, List.length_cons, List.length_nil, Nat.sub_self, Nat.reduceSub, Nat.reduceAdd, truD, if_true, if_false, Bool.not_true, Bool.not_false, Bool.false_eq_true, run_noact, Nat.zero_le, decide_true]
  have r1 : MP.run Γ q "is_row" [.int 7, .tup (List.replicate 7 (.int 0))] h1 = .ok (.bl true) h1 := is_row' w1 (m := q) (by omega) (size := 7) (by decide) (good0 (by decide +kernel)) (by decide +kernel)
  have r2 : MP.run Γ q "is_row" [.int 7, .tup (List.replicate 8 (.int 0))] h1 = .ok (.bl false) h1 := is_row' w1 (m := q) (by omega) (size := 7) (by decide) (good0 (by decide +kernel)) (by decide +kernel)
  have r3 : MP.run Γ q "is_row" [.int 1, .tup [.int 1]] h1 = .ok (.bl true) h1 := is_row' w1 (m := q) (by omega) (size := 1) (by decide) (good0 (by decide +kernel)) (by decide +kernel)
  have r4 : MP.run Γ q "is_row" [.int 1, .int 1] h1 = .ok (.bl false) h1 := is_row' w1 (m := q) (by omega) (size := 1) (by decide) (good0 (by decide +kernel)) (by decide +kernel)
  have r5 : MP.run Γ q "is_row" [.int 2, .str "01"] h1 = .ok (.bl false) h1 := is_row' w1 (m := q) (by omega) (size := 2) (by decide) (good0 (by decide +kernel)) (by decide +kernel)
  have p1 : MP.run Γ q "is_partial" [.int 1, .tup []] h1 = .ok (.bl true) h1 := is_partial' w1 (m := q) (by omega) (size := 1) (by decide) (good0 (by decide +kernel)) (by decide +kernel)
  have p2 : MP.run Γ q "is_partial" [.int 2, .tup [.tup [.int 0, .int 1], .tup [.int 0, .int 0]]] h1 = .ok (.bl false) h1 := is_partial' w1 (m := q) (by omega) (size := 2) (by decide) (good0 (by decide +kernel)) (by decide +kernel)
  have p3 : MP.run Γ q "is_partial" [.int 2, .tup [.tup [.int 0, .int 0], .tup [.int 1, .int 1]]] h1 = .ok (.bl true) h1 := is_partial' w1 (m := q) (by omega) (size := 2) (by decide) (good0 (by decide +kernel)) (by decide +kernel)
  have M7 : binD .Mult (.tup [.int 0]) (.int 7) = some (.tup (List.replicate 7 (.int 0))) := by rfl
  have M8 : binD .Mult (.tup [.int 0]) (.int 8) = some (.tup (List.replicate 8 (.int 0))) := by rfl
  have fin : cmpD .Eq (.lst [.bl true, .bl false, .bl true, .bl false, .bl false, .bl true, .bl false, .bl true]) (.lst [.bl true, .bl false, .bl true, .bl false, .bl false, .bl true, .bl false, .bl true]) = some true := by decide +kernel
  simp only [restK, c_law]
  refine (evSs_nx (ρ' := [some (.scr ns), t1, some (.lst [.bl true, .bl false, .bl true, .bl false, .bl false]), t3, t4, t5, t6]) (h' := h1) ?_).trans ((evSs_nx (ρ' := [some (.scr ns), t1, some (.lst [.bl true, .bl false, .bl true, .bl false, .bl false, .bl true, .bl false, .bl true]), t3, t4, t5, t6]) (h' := h1) ?_).trans ?_)
  · refine evS_set ?_
    simp only [ev, evs, R.bind_ok, deref_tup, deref_int, List.length_cons, List.length_nil, Nat.reduceAdd, sizeLine_eq, Nat.reduceLeDiff, if_true, M7, M8, R.of_some, r1, r2, r3, r4, r5]
  · have A : binD .Add (.lst [.bl true, .bl false, .bl true, .bl false, .bl false]) (.lst [.bl true, .bl false, .bl true]) = some (.lst [.bl true, .bl false, .bl true, .bl false, .bl false, .bl true, .bl false, .bl true]) := add_lst (by decide)
    simp only [evSs, evS, ev, tst, evs, evO, evAnd, evOr, MP.tAnd, MP.tOr, tstO, R.bind_ok, R.bind_exc, R.bindF_ok, R.bindF_exc, R.of_some, R.of_none, deref_int, deref_bl, deref_str, deref_non, deref_tup, deref_lst, deref_scr, deref_ty, deref_dct, binD_add, binD_sub, cmpD_lt, cmpD_le, cmpD_gt, cmpD_ge, cmpD_eqi, cmpD_nei, idxD_lst, idxD_tup, idxD_scr, put_name, List.getElem?_cons_zero, List.getElem?_cons_succ, List.set_cons_zero, List.set_cons_succ, List.map_cons, List.map_nil, Option.map_some, Option.bind_some, List.cons_append, List.nil_append, List.replicate, startE, List.length_cons, List.length_nil, Nat.sub_self, Nat.reduceSub, Nat.reduceAdd, truD, if_true, if_false, Bool.not_true, Bool.not_false, Bool.false_eq_true, run_noact, Nat.zero_le, sizeLine_eq, Nat.reduceLeDiff, p1, p2, p3, A]
  · simp only [evSs, evS, ev, tst, evs, evO, evAnd, evOr, MP.tAnd, MP.tOr, tstO, R.bind_ok, R.bind_exc, R.bindF_ok, R.bindF_exc, R.of_some, R.of_none, deref_int, deref_bl, deref_str, deref_non, deref_tup, deref_lst, deref_scr, deref_ty, deref_dct, binD_add, binD_sub, cmpD_lt, cmpD_le, cmpD_gt, cmpD_ge, cmpD_eqi, cmpD_nei, idxD_lst, idxD_tup, idxD_scr, put_name, List.getElem?_cons_zero, List.getElem?_cons_succ, List.set_cons_zero, List.set_cons_succ, List.map_cons, List.map_nil, Option.map_some, Option.bind_some, List.cons_append, List.nil_append, List.replicate, startE, List.length_cons, List.length_nil, Nat.sub_self, Nat.reduceSub, Nat.reduceAdd, truD, if_true, if_false, Bool.not_true, Bool.not_false, Bool.false_eq_true, run_noact, Nat.zero_le, sizeLine_eq, Nat.reduceLeDiff, fin]
end HT

set_option Elab.async false
set_option linter.all false
set_option maxRecDepth 100000
set_option maxHeartbeats 0
namespace HT
open PySem PySem.Spec PyProof.Rows L2 MP
def top (i : Nat) : Stmt := PySem.Challenge.pw_keywise_k01_rows_and_partial_rows_recogn.main.body.getD i (.Pass ⟨0, 0, 0, 0⟩)
def fs : List Str := ["is_between", "is_pair", "is_literal", "are_literals", "is_row", "is_partial", "ascend", "check_between", "check_size", "_law_stream", "_law_draw", "_law_pick", "_law_mixed", "_law_row", "_law_partial", "_law_odd", "_law_bent", "_law_is_whole", "_law_is_row", "_law_is_partial", "_law_judged_right", "_law_refused", "_law_values", "law"]
def cs : List (Str × Int) := [("MAX_KEYS", 7)]
def xs : Xs := [("InvalidNumber", some "value")]
def d4 : He.DefD := ⟨("is_between", none), "is_between", "is_between", defArgs (top 4), defBody (top 4), defScope (top 4), [], []⟩
def d5 : He.DefD := ⟨("is_pair", none), "is_pair", "is_pair", defArgs (top 5), defBody (top 5), defScope (top 5), [], []⟩
def d6 : He.DefD := ⟨("is_literal", none), "is_literal", "is_literal", defArgs (top 6), defBody (top 6), defScope (top 6), [], []⟩
def d7 : He.DefD := ⟨("are_literals", none), "are_literals", "are_literals", defArgs (top 7), defBody (top 7), defScope (top 7), [], []⟩
def d8 : He.DefD := ⟨("is_row", none), "is_row", "is_row", defArgs (top 8), defBody (top 8), defScope (top 8), [], []⟩
def d9 : He.DefD := ⟨("is_partial", none), "is_partial", "is_partial", defArgs (top 9), defBody (top 9), defScope (top 9), [], []⟩
def d10 : He.DefD := ⟨("ascend", none), "ascend", "ascend", defArgs (top 10), defBody (top 10), defScope (top 10), [], []⟩
def d11 : He.DefD := ⟨("check_between", none), "check_between", "check_between", defArgs (top 11), defBody (top 11), defScope (top 11), [], []⟩
def d12 : He.DefD := ⟨("check_size", none), "check_size", "check_size", defArgs (top 12), defBody (top 12), defScope (top 12), [], []⟩
def d14 : He.DefD := ⟨("_law_stream", none), "_law_stream", "_law_stream", defArgs (top 14), defBody (top 14), defScope (top 14), [], []⟩
def d15 : He.DefD := ⟨("_law_draw", none), "_law_draw", "_law_draw", defArgs (top 15), defBody (top 15), defScope (top 15), [], []⟩
def d16 : He.DefD := ⟨("_law_pick", none), "_law_pick", "_law_pick", defArgs (top 16), defBody (top 16), defScope (top 16), [], []⟩
def d17 : He.DefD := ⟨("_law_mixed", none), "_law_mixed", "_law_mixed", defArgs (top 17), defBody (top 17), defScope (top 17), [], []⟩
def d18 : He.DefD := ⟨("_law_row", none), "_law_row", "_law_row", defArgs (top 18), defBody (top 18), defScope (top 18), [], []⟩
def d19 : He.DefD := ⟨("_law_partial", none), "_law_partial", "_law_partial", defArgs (top 19), defBody (top 19), defScope (top 19), [], []⟩
def d20 : He.DefD := ⟨("_law_odd", none), "_law_odd", "_law_odd", defArgs (top 20), defBody (top 20), defScope (top 20), [], []⟩
def d21 : He.DefD := ⟨("_law_bent", none), "_law_bent", "_law_bent", defArgs (top 21), defBody (top 21), defScope (top 21), [], []⟩
def d22 : He.DefD := ⟨("_law_is_whole", none), "_law_is_whole", "_law_is_whole", defArgs (top 22), defBody (top 22), defScope (top 22), [], []⟩
def d23 : He.DefD := ⟨("_law_is_row", none), "_law_is_row", "_law_is_row", defArgs (top 23), defBody (top 23), defScope (top 23), [], []⟩
def d24 : He.DefD := ⟨("_law_is_partial", none), "_law_is_partial", "_law_is_partial", defArgs (top 24), defBody (top 24), defScope (top 24), [], []⟩
def d25 : He.DefD := ⟨("_law_judged_right", none), "_law_judged_right", "_law_judged_right", defArgs (top 25), defBody (top 25), defScope (top 25), [], []⟩
def d26 : He.DefD := ⟨("_law_refused", none), "_law_refused", "_law_refused", defArgs (top 26), defBody (top 26), defScope (top 26), [], []⟩
def d27 : He.DefD := ⟨("_law_values", none), "_law_values", "_law_values", defArgs (top 27), defBody (top 27), defScope (top 27), [], []⟩
def d28 : He.DefD := ⟨("law", none), "law", "law", defArgs (top 28), defBody (top 28), defScope (top 28), [], []⟩
def d1_0 : He.DefD := ⟨("InvalidNumber", some "__init__"), "__init__", "InvalidNumber.__init__", defArgs (inClass (top 1) 0), defBody (inClass (top 1) 0), defScope (inClass (top 1) 0), [], []⟩
def fn : List He.DefD := [d4, d5, d6, d7, d8, d9, d10, d11, d12, d14, d15, d16, d17, d18, d19, d20, d21, d22, d23, d24, d25, d26, d27, d28, d1_0]
def tf : List He.Defn := [("is_between", none), ("is_pair", none), ("is_literal", none), ("are_literals", none), ("is_row", none), ("is_partial", none), ("ascend", none), ("check_between", none), ("check_size", none), ("_law_stream", none), ("_law_draw", none), ("_law_pick", none), ("_law_mixed", none), ("_law_row", none), ("_law_partial", none), ("_law_odd", none), ("_law_bent", none), ("_law_is_whole", none), ("_law_is_row", none), ("_law_is_partial", none), ("_law_judged_right", none), ("_law_refused", none), ("_law_values", none), ("law", none), ("InvalidNumber", some "__init__")]
def fa : List He.Fa := [.glo "is_between", .glo "is_pair", .glo "is_literal", .glo "are_literals", .glo "is_row", .glo "is_partial", .glo "ascend", .glo "check_between", .glo "check_size", .glo "_law_stream", .glo "_law_draw", .glo "_law_pick", .glo "_law_mixed", .glo "_law_row", .glo "_law_partial", .glo "_law_odd", .glo "_law_bent", .glo "_law_is_whole", .glo "_law_is_row", .glo "_law_is_partial", .glo "_law_judged_right", .glo "_law_refused", .glo "_law_values", .glo "law", .glo "InvalidNumber"] ++ builtinNs.map .free ++ cs.map fun p => .int p.1 p.2
def own (K : PySem.W.Frag) : List Bool := [ownB K "InvalidNumber" "value" "IndexError.__new__" [.type "IndexError", .type "LookupError", .type "Exception", .type "BaseException", .type "object"]]
def ex (K : PySem.W.Frag) : Bool := allTabs tf K && (lamsB fs K && (clsB K it ft && (own K).all id))
abbrev R : PySem.W.OpenRow := PySem.W.OpenLaw.row PySem.Challenge.rw_keywise_k01_rows_and_partial_rows_recogn
abbrev hk : PySem.W.Hook := He.hookX 4 fa fn [] tf ex
def ob (s : PySem.W.SharedT) : He.AlX := He.obsX 4 fa fn [] tf ex (HandSHeadRun.getT s)
theorem ob_eq (s : PySem.W.SharedT) : ob s = hk.obs s.abs := He.obsX_eq (HandSHeadRun.getT_eq s)
def loose : List PySem.Str := ["InvalidNumber", "MAX_KEYS", "is_between", "is_pair", "is_literal", "are_literals", "is_row", "is_partial", "ascend", "check_between", "check_size", "_law_stream", "_law_draw", "_law_pick", "_law_mixed", "_law_row", "_law_partial", "_law_odd", "_law_bent", "_law_is_whole", "_law_is_row", "_law_is_partial", "_law_judged_right", "_law_refused", "_law_values"]
theorem run (w : World) : HandSHeadRun.RunEq R (PySem.W.view R.prog [28]) hk ob 4000 loose w := by
  intro os
  kernel_rfl
theorem dok4 : DefOk (top 4) c_is_between cs xs fs ["least", "most", "value"] ["least", "most", "value"] := ⟨⟨rfl, rfl, rfl, by decide +kernel, rfl, by decide +kernel, by decide +kernel⟩, rfl, rfl, by decide +kernel, by decide +kernel⟩
theorem dok5 : DefOk (top 5) c_is_pair cs xs fs ["value"] ["value"] := ⟨⟨rfl, rfl, rfl, by decide +kernel, rfl, by decide +kernel, by decide +kernel⟩, rfl, rfl, by decide +kernel, by decide +kernel⟩
theorem dok6 : DefOk (top 6) c_is_literal cs xs fs ["size", "value", "key", "bit"] ["size", "value"] := ⟨⟨rfl, rfl, rfl, by decide +kernel, rfl, by decide +kernel, by decide +kernel⟩, rfl, rfl, by decide +kernel, by decide +kernel⟩
theorem dok7 : DefOk (top 7) c_are_literals cs xs fs ["size", "value", "literal"] ["size", "value"] := ⟨⟨rfl, rfl, rfl, by decide +kernel, rfl, by decide +kernel, by decide +kernel⟩, rfl, rfl, by decide +kernel, by decide +kernel⟩
theorem dok8 : DefOk (top 8) c_is_row cs xs fs ["size", "value", "bit"] ["size", "value"] := ⟨⟨rfl, rfl, rfl, by decide +kernel, rfl, by decide +kernel, by decide +kernel⟩, rfl, rfl, by decide +kernel, by decide +kernel⟩
theorem dok9 : DefOk (top 9) c_is_partial cs xs fs ["size", "value", "literal"] ["size", "value"] := ⟨⟨rfl, rfl, rfl, by decide +kernel, rfl, by decide +kernel, by decide +kernel⟩, rfl, rfl, by decide +kernel, by decide +kernel⟩
theorem dok10 : DefOk (top 10) c_ascend cs xs fs ["values", "low", "high"] ["values"] := ⟨⟨rfl, rfl, rfl, by decide +kernel, rfl, by decide +kernel, by decide +kernel⟩, rfl, rfl, by decide +kernel, by decide +kernel⟩
theorem dok11 : DefOk (top 11) c_check_between cs xs fs ["least", "most", "value"] ["least", "most", "value"] := ⟨⟨rfl, rfl, rfl, by decide +kernel, rfl, by decide +kernel, by decide +kernel⟩, rfl, rfl, by decide +kernel, by decide +kernel⟩
theorem dok12 : DefOk (top 12) c_check_size cs xs fs ["size"] ["size"] := ⟨⟨rfl, rfl, rfl, by decide +kernel, rfl, by decide +kernel, by decide +kernel⟩, rfl, rfl, by decide +kernel, by decide +kernel⟩
theorem dok14 : DefOk (top 14) c__law_stream cs xs fs ["script", "at", "cell", "great", "mixed"] ["script", "at"] := ⟨⟨rfl, rfl, rfl, by decide +kernel, rfl, by decide +kernel, by decide +kernel⟩, rfl, rfl, by decide +kernel, by decide +kernel⟩
theorem dok15 : DefOk (top 15) c__law_draw cs xs fs ["stream", "total", "one", "stir", "two", "found"] ["stream", "total"] := ⟨⟨rfl, rfl, rfl, by decide +kernel, rfl, by decide +kernel, by decide +kernel⟩, rfl, rfl, by decide +kernel, by decide +kernel⟩
theorem dok16 : DefOk (top 16) c__law_pick cs xs fs ["stream", "items"] ["stream", "items"] := ⟨⟨rfl, rfl, rfl, by decide +kernel, rfl, by decide +kernel, by decide +kernel⟩, rfl, rfl, by decide +kernel, by decide +kernel⟩
theorem dok17 : DefOk (top 17) c__law_mixed cs xs fs ["stream", "items", "left", "turn"] ["stream", "items"] := ⟨⟨rfl, rfl, rfl, by decide +kernel, rfl, by decide +kernel, by decide +kernel⟩, rfl, rfl, by decide +kernel, by decide +kernel⟩
theorem dok18 : DefOk (top 18) c__law_row cs xs fs ["stream", "size", "key"] ["stream", "size"] := ⟨⟨rfl, rfl, rfl, by decide +kernel, rfl, by decide +kernel, by decide +kernel⟩, rfl, rfl, by decide +kernel, by decide +kernel⟩
theorem dok19 : DefOk (top 19) c__law_partial cs xs fs ["stream", "size", "most", "keys", "key"] ["stream", "size", "most"] := ⟨⟨rfl, rfl, rfl, by decide +kernel, rfl, by decide +kernel, by decide +kernel⟩, rfl, rfl, by decide +kernel, by decide +kernel⟩
theorem dok20 : DefOk (top 20) c__law_odd cs xs fs ["stream", "some"] ["stream"] := ⟨⟨rfl, rfl, rfl, by decide +kernel, rfl, by decide +kernel, by decide +kernel⟩, rfl, rfl, by decide +kernel, by decide +kernel⟩
theorem dok21 : DefOk (top 21) c__law_bent cs xs fs ["stream", "value", "deep", "at", "some"] ["stream", "value", "deep"] := ⟨⟨rfl, rfl, rfl, by decide +kernel, rfl, by decide +kernel, by decide +kernel⟩, rfl, rfl, by decide +kernel, by decide +kernel⟩
theorem dok22 : DefOk (top 22) c__law_is_whole cs xs fs ["value", "top"] ["value", "top"] := ⟨⟨rfl, rfl, rfl, by decide +kernel, rfl, by decide +kernel, by decide +kernel⟩, rfl, rfl, by decide +kernel, by decide +kernel⟩
theorem dok23 : DefOk (top 23) c__law_is_row cs xs fs ["size", "value", "bit"] ["size", "value"] := ⟨⟨rfl, rfl, rfl, by decide +kernel, rfl, by decide +kernel, by decide +kernel⟩, rfl, rfl, by decide +kernel, by decide +kernel⟩
theorem dok24 : DefOk (top 24) c__law_is_partial cs xs fs ["size", "value", "last", "literal"] ["size", "value"] := ⟨⟨rfl, rfl, rfl, by decide +kernel, rfl, by decide +kernel, by decide +kernel⟩, rfl, rfl, by decide +kernel, by decide +kernel⟩
theorem dok25 : DefOk (top 25) c__law_judged_right cs xs fs ["size", "value", "kept", "found"] ["size", "value"] := ⟨⟨rfl, rfl, rfl, by decide +kernel, rfl, by decide +kernel, by decide +kernel⟩, rfl, rfl, by decide +kernel, by decide +kernel⟩
theorem dok26 : DefOk (top 26) c__law_refused cs xs fs ["call", "e"] ["call"] := ⟨⟨rfl, rfl, rfl, by decide +kernel, rfl, by decide +kernel, by decide +kernel⟩, rfl, rfl, by decide +kernel, by decide +kernel⟩
theorem dok27 : DefOk (top 27) c__law_values cs xs fs ["stream", "size", "row", "partial", "found", "turn", "bit", "literal"] ["stream", "size"] := ⟨⟨rfl, rfl, rfl, by decide +kernel, rfl, by decide +kernel, by decide +kernel⟩, rfl, rfl, by decide +kernel, by decide +kernel⟩
theorem dok28 : DefOk (top 28) c_law cs xs fs ["script", "k", "found", "stream", "size", "value", "odd"] ["script"] := ⟨⟨rfl, rfl, rfl, by decide +kernel, rfl, by decide +kernel, by decide +kernel⟩, rfl, rfl, by decide +kernel, by decide +kernel⟩
section
variable {w : World} {K : PySem.W.Frag} {h : Heap} {mg : Str → Option Value}
theorem row4 (X : K.In h) (G : h.Ns mainGlobals mg) (c : He.SaysD fa fn K) : Row K mg Γ cs xs fs "is_between" := by
  obtain ⟨fd, F⟩ := c.def_ 0 (d := d4) rfl
  exact ⟨fd, top 4, c_is_between, _, _, rfl, He.glo_ok X G (c.fact 0 (f := .glo "is_between") rfl), F, F.bindsN fun _ _ _ _ _ _ us hl => match us, hl with | [_, _, _], _ => rfl, dok4⟩
theorem row5 (X : K.In h) (G : h.Ns mainGlobals mg) (c : He.SaysD fa fn K) : Row K mg Γ cs xs fs "is_pair" := by
  obtain ⟨fd, F⟩ := c.def_ 1 (d := d5) rfl
  exact ⟨fd, top 5, c_is_pair, _, _, rfl, He.glo_ok X G (c.fact 1 (f := .glo "is_pair") rfl), F, F.bindsN fun _ _ _ _ _ _ us hl => match us, hl with | [_], _ => rfl, dok5⟩
theorem row6 (X : K.In h) (G : h.Ns mainGlobals mg) (c : He.SaysD fa fn K) : Row K mg Γ cs xs fs "is_literal" := by
  obtain ⟨fd, F⟩ := c.def_ 2 (d := d6) rfl
  exact ⟨fd, top 6, c_is_literal, _, _, rfl, He.glo_ok X G (c.fact 2 (f := .glo "is_literal") rfl), F, F.bindsN fun _ _ _ _ _ _ us hl => match us, hl with | [_, _], _ => rfl, dok6⟩
theorem row7 (X : K.In h) (G : h.Ns mainGlobals mg) (c : He.SaysD fa fn K) : Row K mg Γ cs xs fs "are_literals" := by
  obtain ⟨fd, F⟩ := c.def_ 3 (d := d7) rfl
  exact ⟨fd, top 7, c_are_literals, _, _, rfl, He.glo_ok X G (c.fact 3 (f := .glo "are_literals") rfl), F, F.bindsN fun _ _ _ _ _ _ us hl => match us, hl with | [_, _], _ => rfl, dok7⟩
theorem row8 (X : K.In h) (G : h.Ns mainGlobals mg) (c : He.SaysD fa fn K) : Row K mg Γ cs xs fs "is_row" := by
  obtain ⟨fd, F⟩ := c.def_ 4 (d := d8) rfl
  exact ⟨fd, top 8, c_is_row, _, _, rfl, He.glo_ok X G (c.fact 4 (f := .glo "is_row") rfl), F, F.bindsN fun _ _ _ _ _ _ us hl => match us, hl with | [_, _], _ => rfl, dok8⟩
theorem row9 (X : K.In h) (G : h.Ns mainGlobals mg) (c : He.SaysD fa fn K) : Row K mg Γ cs xs fs "is_partial" := by
  obtain ⟨fd, F⟩ := c.def_ 5 (d := d9) rfl
  exact ⟨fd, top 9, c_is_partial, _, _, rfl, He.glo_ok X G (c.fact 5 (f := .glo "is_partial") rfl), F, F.bindsN fun _ _ _ _ _ _ us hl => match us, hl with | [_, _], _ => rfl, dok9⟩
theorem row10 (X : K.In h) (G : h.Ns mainGlobals mg) (c : He.SaysD fa fn K) : Row K mg Γ cs xs fs "ascend" := by
  obtain ⟨fd, F⟩ := c.def_ 6 (d := d10) rfl
  exact ⟨fd, top 10, c_ascend, _, _, rfl, He.glo_ok X G (c.fact 6 (f := .glo "ascend") rfl), F, F.bindsN fun _ _ _ _ _ _ us hl => match us, hl with | [_], _ => rfl, dok10⟩
theorem row11 (X : K.In h) (G : h.Ns mainGlobals mg) (c : He.SaysD fa fn K) : Row K mg Γ cs xs fs "check_between" := by
  obtain ⟨fd, F⟩ := c.def_ 7 (d := d11) rfl
  exact ⟨fd, top 11, c_check_between, _, _, rfl, He.glo_ok X G (c.fact 7 (f := .glo "check_between") rfl), F, F.bindsN fun _ _ _ _ _ _ us hl => match us, hl with | [_, _, _], _ => rfl, dok11⟩
theorem row12 (X : K.In h) (G : h.Ns mainGlobals mg) (c : He.SaysD fa fn K) : Row K mg Γ cs xs fs "check_size" := by
  obtain ⟨fd, F⟩ := c.def_ 8 (d := d12) rfl
  exact ⟨fd, top 12, c_check_size, _, _, rfl, He.glo_ok X G (c.fact 8 (f := .glo "check_size") rfl), F, F.bindsN fun _ _ _ _ _ _ us hl => match us, hl with | [_], _ => rfl, dok12⟩
theorem row14 (X : K.In h) (G : h.Ns mainGlobals mg) (c : He.SaysD fa fn K) : Row K mg Γ cs xs fs "_law_stream" := by
  obtain ⟨fd, F⟩ := c.def_ 9 (d := d14) rfl
  exact ⟨fd, top 14, c__law_stream, _, _, rfl, He.glo_ok X G (c.fact 9 (f := .glo "_law_stream") rfl), F, F.bindsN fun _ _ _ _ _ _ us hl => match us, hl with | [_, _], _ => rfl, dok14⟩
theorem row15 (X : K.In h) (G : h.Ns mainGlobals mg) (c : He.SaysD fa fn K) : Row K mg Γ cs xs fs "_law_draw" := by
  obtain ⟨fd, F⟩ := c.def_ 10 (d := d15) rfl
  exact ⟨fd, top 15, c__law_draw, _, _, rfl, He.glo_ok X G (c.fact 10 (f := .glo "_law_draw") rfl), F, F.bindsN fun _ _ _ _ _ _ us hl => match us, hl with | [_, _], _ => rfl, dok15⟩
theorem row16 (X : K.In h) (G : h.Ns mainGlobals mg) (c : He.SaysD fa fn K) : Row K mg Γ cs xs fs "_law_pick" := by
  obtain ⟨fd, F⟩ := c.def_ 11 (d := d16) rfl
  exact ⟨fd, top 16, c__law_pick, _, _, rfl, He.glo_ok X G (c.fact 11 (f := .glo "_law_pick") rfl), F, F.bindsN fun _ _ _ _ _ _ us hl => match us, hl with | [_, _], _ => rfl, dok16⟩
theorem row17 (X : K.In h) (G : h.Ns mainGlobals mg) (c : He.SaysD fa fn K) : Row K mg Γ cs xs fs "_law_mixed" := by
  obtain ⟨fd, F⟩ := c.def_ 12 (d := d17) rfl
  exact ⟨fd, top 17, c__law_mixed, _, _, rfl, He.glo_ok X G (c.fact 12 (f := .glo "_law_mixed") rfl), F, F.bindsN fun _ _ _ _ _ _ us hl => match us, hl with | [_, _], _ => rfl, dok17⟩
theorem row18 (X : K.In h) (G : h.Ns mainGlobals mg) (c : He.SaysD fa fn K) : Row K mg Γ cs xs fs "_law_row" := by
  obtain ⟨fd, F⟩ := c.def_ 13 (d := d18) rfl
  exact ⟨fd, top 18, c__law_row, _, _, rfl, He.glo_ok X G (c.fact 13 (f := .glo "_law_row") rfl), F, F.bindsN fun _ _ _ _ _ _ us hl => match us, hl with | [_, _], _ => rfl, dok18⟩
theorem row19 (X : K.In h) (G : h.Ns mainGlobals mg) (c : He.SaysD fa fn K) : Row K mg Γ cs xs fs "_law_partial" := by
  obtain ⟨fd, F⟩ := c.def_ 14 (d := d19) rfl
  exact ⟨fd, top 19, c__law_partial, _, _, rfl, He.glo_ok X G (c.fact 14 (f := .glo "_law_partial") rfl), F, F.bindsN fun _ _ _ _ _ _ us hl => match us, hl with | [_, _, _], _ => rfl, dok19⟩
theorem row20 (X : K.In h) (G : h.Ns mainGlobals mg) (c : He.SaysD fa fn K) : Row K mg Γ cs xs fs "_law_odd" := by
  obtain ⟨fd, F⟩ := c.def_ 15 (d := d20) rfl
  exact ⟨fd, top 20, c__law_odd, _, _, rfl, He.glo_ok X G (c.fact 15 (f := .glo "_law_odd") rfl), F, F.bindsN fun _ _ _ _ _ _ us hl => match us, hl with | [_], _ => rfl, dok20⟩
theorem row21 (X : K.In h) (G : h.Ns mainGlobals mg) (c : He.SaysD fa fn K) : Row K mg Γ cs xs fs "_law_bent" := by
  obtain ⟨fd, F⟩ := c.def_ 16 (d := d21) rfl
  exact ⟨fd, top 21, c__law_bent, _, _, rfl, He.glo_ok X G (c.fact 16 (f := .glo "_law_bent") rfl), F, F.bindsN fun _ _ _ _ _ _ us hl => match us, hl with | [_, _, _], _ => rfl, dok21⟩
theorem row22 (X : K.In h) (G : h.Ns mainGlobals mg) (c : He.SaysD fa fn K) : Row K mg Γ cs xs fs "_law_is_whole" := by
  obtain ⟨fd, F⟩ := c.def_ 17 (d := d22) rfl
  exact ⟨fd, top 22, c__law_is_whole, _, _, rfl, He.glo_ok X G (c.fact 17 (f := .glo "_law_is_whole") rfl), F, F.bindsN fun _ _ _ _ _ _ us hl => match us, hl with | [_, _], _ => rfl, dok22⟩
theorem row23 (X : K.In h) (G : h.Ns mainGlobals mg) (c : He.SaysD fa fn K) : Row K mg Γ cs xs fs "_law_is_row" := by
  obtain ⟨fd, F⟩ := c.def_ 18 (d := d23) rfl
  exact ⟨fd, top 23, c__law_is_row, _, _, rfl, He.glo_ok X G (c.fact 18 (f := .glo "_law_is_row") rfl), F, F.bindsN fun _ _ _ _ _ _ us hl => match us, hl with | [_, _], _ => rfl, dok23⟩
theorem row24 (X : K.In h) (G : h.Ns mainGlobals mg) (c : He.SaysD fa fn K) : Row K mg Γ cs xs fs "_law_is_partial" := by
  obtain ⟨fd, F⟩ := c.def_ 19 (d := d24) rfl
  exact ⟨fd, top 24, c__law_is_partial, _, _, rfl, He.glo_ok X G (c.fact 19 (f := .glo "_law_is_partial") rfl), F, F.bindsN fun _ _ _ _ _ _ us hl => match us, hl with | [_, _], _ => rfl, dok24⟩
theorem row25 (X : K.In h) (G : h.Ns mainGlobals mg) (c : He.SaysD fa fn K) : Row K mg Γ cs xs fs "_law_judged_right" := by
  obtain ⟨fd, F⟩ := c.def_ 20 (d := d25) rfl
  exact ⟨fd, top 25, c__law_judged_right, _, _, rfl, He.glo_ok X G (c.fact 20 (f := .glo "_law_judged_right") rfl), F, F.bindsN fun _ _ _ _ _ _ us hl => match us, hl with | [_, _], _ => rfl, dok25⟩
theorem row26 (X : K.In h) (G : h.Ns mainGlobals mg) (c : He.SaysD fa fn K) : Row K mg Γ cs xs fs "_law_refused" := by
  obtain ⟨fd, F⟩ := c.def_ 21 (d := d26) rfl
  exact ⟨fd, top 26, c__law_refused, _, _, rfl, He.glo_ok X G (c.fact 21 (f := .glo "_law_refused") rfl), F, F.bindsN fun _ _ _ _ _ _ us hl => match us, hl with | [_], _ => rfl, dok26⟩
theorem row27 (X : K.In h) (G : h.Ns mainGlobals mg) (c : He.SaysD fa fn K) : Row K mg Γ cs xs fs "_law_values" := by
  obtain ⟨fd, F⟩ := c.def_ 22 (d := d27) rfl
  exact ⟨fd, top 27, c__law_values, _, _, rfl, He.glo_ok X G (c.fact 22 (f := .glo "_law_values") rfl), F, F.bindsN fun _ _ _ _ _ _ us hl => match us, hl with | [_, _], _ => rfl, dok27⟩
theorem row28 (X : K.In h) (G : h.Ns mainGlobals mg) (c : He.SaysD fa fn K) : Row K mg Γ cs xs fs "law" := by
  obtain ⟨fd, F⟩ := c.def_ 23 (d := d28) rfl
  exact ⟨fd, top 28, c_law, _, _, rfl, He.glo_ok X G (c.fact 23 (f := .glo "law") rfl), F, F.bindsN fun _ _ _ _ _ _ us hl => match us, hl with | [_], _ => rfl, dok28⟩
theorem rows (X : K.In h) (G : h.Ns mainGlobals mg) (c : He.SaysD fa fn K) : ∀ f ∈ fs, Row K mg Γ cs xs fs f := by
  intro f hf
  simp only [fs, List.mem_cons, List.not_mem_nil, or_false] at hf
  rcases hf with rfl | rfl | rfl | rfl | rfl | rfl | rfl | rfl | rfl | rfl | rfl | rfl | rfl | rfl | rfl | rfl | rfl | rfl | rfl | rfl | rfl | rfl | rfl | rfl
  · exact row4 X G c
  · exact row5 X G c
  · exact row6 X G c
  · exact row7 X G c
  · exact row8 X G c
  · exact row9 X G c
  · exact row10 X G c
  · exact row11 X G c
  · exact row12 X G c
  · exact row14 X G c
  · exact row15 X G c
  · exact row16 X G c
  · exact row17 X G c
  · exact row18 X G c
  · exact row19 X G c
  · exact row20 X G c
  · exact row21 X G c
  · exact row22 X G c
  · exact row23 X G c
  · exact row24 X G c
  · exact row25 X G c
  · exact row26 X G c
  · exact row27 X G c
  · exact row28 X G c
theorem mod (X : K.In h) (G : h.Ns mainGlobals mg) (c : He.SaysD fa fn K) : ModOk K mg cs where
  blt := fun x hx => He.free_ok X G (c.facts (f := .free x) (List.mem_append_left _ (List.mem_append_right _ (List.mem_map_of_mem hx))))
  con := fun x i h => He.int_ok X G (c.facts (f := .int x i) (List.mem_append_right _ (List.mem_map_of_mem (f := fun p : Str × Int => He.Fa.int p.1 p.2) (lookup_mem h))))
theorem glos (X : K.In h) (G : h.Ns mainGlobals mg) (c : He.SaysD fa fn K) : ∀ p ∈ it, mg p.1.1 = some (.ref (He.ga K p.1.1)) ∧ mg p.1.2 = some (.ref (He.ga K p.1.2)) := by
  have m : ∀ x ∈ (["InvalidNumber"] : List Str), mg x = some (.ref (He.ga K x)) := by
    intro x hx
    simp only [List.mem_cons, List.not_mem_nil, or_false] at hx
    rcases hx with rfl
    · exact He.glo_ok X G (c.fact 24 (f := .glo "InvalidNumber") rfl)
  have t : ∀ p ∈ it, p.1.1 ∈ (["InvalidNumber"] : List Str) ∧ p.1.2 ∈ (["InvalidNumber"] : List Str) := by decide +kernel
  exact fun p hp => ⟨m _ (t p hp).1, m _ (t p hp).2⟩
theorem rais (X' : K.In h) (G : h.Ns mainGlobals mg) (c : He.SaysD fa fn K) (ho : (own K).all id = true) : ∀ X : Cx, X.prog = PySem.Challenge.rw_keywise_k01_rows_and_partial_rows_recogn.prog → X.w = w → X.K = K → X.mg = mg → Room 1 X.A → ∀ x ∈ xs, RaiseOk X x := by
  intro X _ _ eK em room x hx
  subst eK em
  simp only [own, List.all_cons, List.all_nil, id, Bool.and_eq_true, and_true] at ho
  simp only [xs, List.mem_cons, List.not_mem_nil, or_false] at hx
  rcases hx with rfl
  · obtain ⟨fd, F⟩ := c.def_ 24 (d := d1_0) rfl
    exact raise_own (own_of ho (He.glo_ok X' G (c.fact 24 (f := .glo "InvalidNumber") rfl)) F) PySem.F.excBase_IndexError PySem.F.store_IndexError (by decide) (by decide) (by decide) (fun _ _ _ _ _ _ _ _ _ _ _ _ _ _ _ => rfl) room
end
end HT
open PySem PySem.W PySem.Calls PyProof.Rows
theorem holds_of {m : Nat} (room : L2.Room (3 * m + 1) callerA) (pure : ∀ ns : List Int, ns.length ≤ 63 → (∀ k ∈ ns, Builtin.Int.intBits k ≤ 1048576) → ∃ st, MP.run HT.Γ m "law" [.scr ns] [] = .ok (.bl true) st) : PySem.Challenge.rw_keywise_k01_rows_and_partial_rows_recogn.Holds := by
  w_on; o_law
  refine HandSHeadRun.head_any (r := OpenLaw.row PySem.Challenge.rw_keywise_k01_rows_and_partial_rows_recogn) (q := view (OpenLaw.row PySem.Challenge.rw_keywise_k01_rows_and_partial_rows_recogn).prog [28]) (H := HT.hk) (ob := HT.ob) (M := 4000) (loose := HT.loose) (d := HandSHeadRun.topDef (OpenLaw.row PySem.Challenge.rw_keywise_k01_rows_and_partial_rows_recogn).prog 28) (kwd := []) HT.ob_eq
    (by kernel_rfl) (fun s => by kernel_rfl) HT.run (by kernel_rfl) (by kernel_rfl) (by kernel_rfl) (by rfl) (by first | assumption | decide +kernel) (by decide +kernel) ⟨rfl, rfl, rfl, rfl, rfl, by decide +kernel⟩ ?hw ?hc
  case hw => w_witness2
  case hc =>
    have nm : (HandSHeadRun.topDef (OpenLaw.row PySem.Challenge.rw_keywise_k01_rows_and_partial_rows_recogn).prog 28).name = ("law" : PySem.Str) := by kernel_rfl
    refine MP.walk (l := PySem.Challenge.rw_keywise_k01_rows_and_partial_rows_recogn) (n := 63) (m := m) (Γ := HT.Γ) (cs := HT.cs) (xs := HT.xs) (fs := HT.fs) rfl (by decide) (by kernel_rfl) room (by rw [nm]; decide +kernel) ?F ?G ?P
    case F =>
      intro w mg h Y G
      obtain ⟨K, kin, c⟩ := Y
      have cd : He.SaysD HT.fa HT.fn K := congrArg Prod.fst c.t
      have more := c.more
      simp only [HT.ex, Bool.and_eq_true] at more
      obtain ⟨h1, h2, h3, h4⟩ := more
      refine ⟨K, _, kin, MP.tabF_of kin c h1, HT.mod kin G cd, MP.clsOk_of h3 (HT.glos kin G cd) (fun _ _ => rfl) (fun _ _ => rfl), h2, fun f hf => ?_, HT.rows kin G cd, HT.rais kin G cd h4⟩
      have : ∀ f ∈ HT.fs, (f, none) ∈ HT.tf := by decide +kernel
      exact List.mem_map_of_mem (this f hf)
    case G =>
      intro x d hx
      have : HT.tab.map (·.1) = HT.fs := by rfl
      rw [← this]
      exact List.mem_map_of_mem (f := (·.1)) (MP.lookup_mem hx)
    case P =>
      intro ns hn hb
      rw [nm]
      exact pure ns hn hb


set_option maxHeartbeats 0
theorem PySem.Challenge.cw_keywise_k01_rows_and_partial_rows_recogn_holds : PySem.Challenge.rw_keywise_k01_rows_and_partial_rows_recogn.Holds := by
  exact holds_of (m := 8) ⟨rfl, by decide, by decide⟩ fun ns hn _ => HT.pure_law (q := 7) (by decide) ns hn
