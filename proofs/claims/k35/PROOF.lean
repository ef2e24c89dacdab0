import PyProof.Rows.All
import Wide.All
import OpenK.AllK
import Wide.FinOn
import PySem.Challenge.RW_ownmoment_k35_machines_led_through_runs
import PyProof.EqAt
import PyProof.EqKinds
import PyProof.TupleCall
import KE.KNestM
import KE.KLam
import HandS.Base
import HandS.Call
import HandS.List
import HandS.Words
import KE.KDictKeyed
import HandS.Lambda
import HandS.TupAny
import HandS.TupMul
import HandS.Comp
import HandS.Dict
import HandS.Iter
import HandS.Exc
import HandS.Ends
import HandS.Deep
import HandS.Text
import HandS.IsInst
import HandS.More
import HandS.Conv
import KE.SortData
import KE.KDictPairs
import HandS.DictComp
import KE.SortKeyHeap
import HandS.SortKw
import HandS.EndTab
import HandS.ExcOwn
import HandS.ExcInit
import HandS.ExcField
import HandS.WordsExc
import HandS.Style
import Open.SpecLaws
import KE.OsGo
set_option Elab.async false
set_option linter.all false
set_option maxRecDepth 100000
/-! DL.Base: data without addresses (D), objects that change (MO), what stands for what (DV, Rp), a reading by a function (LE, LT, LA, LS). -/
namespace DL
open PySem PySem.Spec PyProof.Rows L2

/-- the written part, the world's hashes, the module's names -/
structure Kx where
  K : PySem.W.Frag
  w : World
  mg : Str → Option Value
  T : List (Addr × Str)
abbrev Tb := List (Addr × Str)
abbrev _root_.L2.Cx.kt (X : Cx) (τ : Tb) : Kx := ⟨X.K, X.w, X.mg, τ⟩
inductive D where
  | non | bl (b : Bool) | int (i : Int) | str (x : Str) | tup (xs : List D) | rol (xs : List D) | ref (i : Nat) | ty (n : String)
inductive MO where
  | lst (xs : List D) | dct (kvs : List (D × D))
abbrev Hm := List MO
abbrev Lo := List (Option D)

def keyD : Key → D
  | .inl i => .int i
  | .inr x => .str x

/-- a list that is read and never written (the script) -/
def RoL (K : Kx) (H : Hp) (a : Addr) (xs : List V) : Prop := (∃ o, H a = some (.frz o (.lst xs))) ∨ SqL K.K (fun _ => none) a xs
theorem RoL.sq {K : Kx} {H : Hp} {a : Addr} {xs : List V} (h : RoL K H a xs) : SqL K.K H a xs := by
  rcases h with ⟨o, h⟩ | (h | ⟨o, h⟩) | h
  · exact .inl (.inr ⟨o, h⟩)
  · cases h
  · cases h
  · exact .inr h
mutual
def DV (K : Kx) (H : Hp) (ρ : List Addr) : D → V → Prop
  | .non, v => v = .non
  | .bl b, v => v = .bl b
  | .int i, v => v = .int i
  | .str x, v => v = .str x
  | .ty n, v => v = .ty n
  | .ref i, v => ∃ a, ρ[i]? = some a ∧ v = .ref a
  | .tup ds, v => ∃ a xs, v = .ref a ∧ H a = some (.tup xs) ∧ DVs K H ρ ds xs
  | .rol ds, v => ∃ a xs, v = .ref a ∧ RoL K H a xs ∧ DVs K H ρ ds xs
def DVs (K : Kx) (H : Hp) (ρ : List Addr) : List D → List V → Prop
  | [], vs => vs = []
  | d :: ds, vs => ∃ v r, vs = v :: r ∧ DV K H ρ d v ∧ DVs K H ρ ds r
end

structure Ext (K : Kx) (H : Hp) (ρ : List Addr) (H' : Hp) (ρ' : List Addr) : Prop where
  rho : ∃ ex, ρ' = ρ ++ ex
  tups : ∀ a xs, H a = some (.tup xs) → H' a = some (.tup xs)
  rols : ∀ a xs, RoL K H a xs → RoL K H' a xs
  keep : ∀ a o, H a = some o → (∀ ps, o ≠ .tbl ps) → a ∉ ρ → H' a = some o ∧ a ∉ ρ'

section
variable {K : Kx} {H H' H1 H2 : Hp} {ρ ρ' ρ1 ρ2 : List Addr}
theorem Ext.refl : Ext K H ρ H ρ := ⟨⟨[], by simp⟩, fun _ _ h => h, fun _ _ h => h, fun _ _ h _ n => ⟨h, n⟩⟩
theorem Ext.trans (a : Ext K H ρ H1 ρ1) (b : Ext K H1 ρ1 H2 ρ2) : Ext K H ρ H2 ρ2 := by
  obtain ⟨e1, rfl⟩ := a.rho
  obtain ⟨e2, rfl⟩ := b.rho
  exact ⟨⟨e1 ++ e2, by simp⟩, fun x y h => b.tups x y (a.tups x y h), fun x y h => b.rols x y (a.rols x y h), fun x o h t n => let ⟨h1, n1⟩ := a.keep x o h t n; b.keep x o h1 t n1⟩
theorem Ext.get (e : Ext K H ρ H' ρ') {i : Nat} {a : Addr} (h : ρ[i]? = some a) : ρ'[i]? = some a := by
  obtain ⟨ex, rfl⟩ := e.rho
  have hi : i < ρ.length := (List.getElem?_eq_some_iff.mp h).1
  rw [List.getElem?_append_left hi]
  exact h
mutual
theorem DV.mono (e : Ext K H ρ H' ρ') : ∀ (d : D) (v : V), DV K H ρ d v → DV K H' ρ' d v
  | .non, _, h => h
  | .bl _, _, h => h
  | .int _, _, h => h
  | .str _, _, h => h
  | .ty _, _, h => h
  | .ref i, v, h => by
    simp only [DV] at h ⊢
    obtain ⟨a, h1, h2⟩ := h
    exact ⟨a, e.get h1, h2⟩
  | .tup ds, v, h => by
    simp only [DV] at h ⊢
    obtain ⟨a, xs, h1, h2, h3⟩ := h
    exact ⟨a, xs, h1, e.tups _ _ h2, DVs.mono e ds xs h3⟩
  | .rol ds, v, h => by
    simp only [DV] at h ⊢
    obtain ⟨a, xs, h1, h2, h3⟩ := h
    exact ⟨a, xs, h1, e.rols _ _ h2, DVs.mono e ds xs h3⟩
theorem DVs.mono (e : Ext K H ρ H' ρ') : ∀ (ds : List D) (vs : List V), DVs K H ρ ds vs → DVs K H' ρ' ds vs
  | [], _, h => h
  | d :: ds, vs, h => by
    simp only [DVs] at h ⊢
    obtain ⟨v, r, h1, h2, h3⟩ := h
    exact ⟨v, r, h1, DV.mono e d v h2, DVs.mono e ds r h3⟩
end
theorem DVs.nil : DVs K H ρ [] [] := by simp [DVs]
theorem DVs.cons {d : D} {ds : List D} {v : V} {vs : List V} (h : DV K H ρ d v) (t : DVs K H ρ ds vs) : DVs K H ρ (d :: ds) (v :: vs) := by
  simp only [DVs]
  exact ⟨v, vs, rfl, h, t⟩
theorem DVs.length : ∀ {ds : List D} {vs : List V}, DVs K H ρ ds vs → ds.length = vs.length
  | [], _, h => by simp only [DVs] at h; subst h; rfl
  | d :: ds, _, h => by
    simp only [DVs] at h
    obtain ⟨v, r, rfl, _, t⟩ := h
    simp [DVs.length t]
theorem DVs.get : ∀ {ds : List D} {vs : List V} {i : Nat} {d : D}, DVs K H ρ ds vs → ds[i]? = some d → ∃ v, vs[i]? = some v ∧ DV K H ρ d v
  | [], _, _, _, _, e => by simp at e
  | d :: ds, _, 0, d', h, e => by
    simp only [DVs] at h
    obtain ⟨v, r, rfl, h1, _⟩ := h
    simp at e
    subst e
    exact ⟨v, rfl, h1⟩
  | d :: ds, _, i + 1, d', h, e => by
    simp only [DVs] at h
    obtain ⟨v, r, rfl, _, t⟩ := h
    obtain ⟨v', h1, h2⟩ := DVs.get (i := i) (d := d') t (by simpa using e)
    exact ⟨v', by simpa using h1, h2⟩
theorem DVs.append : ∀ {ds es : List D} {vs us : List V}, DVs K H ρ ds vs → DVs K H ρ es us → DVs K H ρ (ds ++ es) (vs ++ us)
  | [], _, _, _, h, t => by simp only [DVs] at h; subst h; exact t
  | d :: ds, _, _, _, h, t => by
    simp only [DVs] at h
    obtain ⟨v, r, rfl, h1, h2⟩ := h
    exact DVs.cons h1 (DVs.append h2 t)
theorem DVs.take : ∀ {ds : List D} {vs : List V} (n : Nat), DVs K H ρ ds vs → DVs K H ρ (ds.take n) (vs.take n)
  | _, _, 0, _ => DVs.nil
  | [], _, n + 1, h => by simp only [DVs] at h; subst h; exact DVs.nil
  | d :: ds, _, n + 1, h => by
    simp only [DVs] at h
    obtain ⟨v, r, rfl, h1, h2⟩ := h
    exact DVs.cons h1 (DVs.take n h2)
theorem DVs.drop : ∀ {ds : List D} {vs : List V} (n : Nat), DVs K H ρ ds vs → DVs K H ρ (ds.drop n) (vs.drop n)
  | _, _, 0, h => by simpa using h
  | [], _, n + 1, h => by simp only [DVs] at h; subst h; exact DVs.nil
  | d :: ds, _, n + 1, h => by
    simp only [DVs] at h
    obtain ⟨v, r, rfl, h1, h2⟩ := h
    exact DVs.drop n h2
theorem DVs.set {d : D} {v : V} (q : DV K H ρ d v) : ∀ {ds : List D} {vs : List V} (i : Nat), DVs K H ρ ds vs → DVs K H ρ (ds.set i d) (vs.set i v)
  | [], _, _, h => by simp only [DVs] at h; subst h; exact DVs.nil
  | e :: ds, _, 0, h => by
    simp only [DVs] at h
    obtain ⟨u, r, rfl, h1, h2⟩ := h
    exact DVs.cons q h2
  | e :: ds, _, i + 1, h => by
    simp only [DVs] at h
    obtain ⟨u, r, rfl, h1, h2⟩ := h
    exact DVs.cons h1 (DVs.set q i h2)
theorem DVs.eraseIdx : ∀ {ds : List D} {vs : List V} (i : Nat), DVs K H ρ ds vs → DVs K H ρ (ds.eraseIdx i) (vs.eraseIdx i)
  | [], _, _, h => by simp only [DVs] at h; subst h; exact DVs.nil
  | e :: ds, _, 0, h => by
    simp only [DVs] at h
    obtain ⟨u, r, rfl, h1, h2⟩ := h
    exact h2
  | e :: ds, _, i + 1, h => by
    simp only [DVs] at h
    obtain ⟨u, r, rfl, h1, h2⟩ := h
    exact DVs.cons h1 (DVs.eraseIdx i h2)
theorem DVs.reverse : ∀ {ds : List D} {vs : List V}, DVs K H ρ ds vs → DVs K H ρ ds.reverse vs.reverse
  | [], _, h => by simp only [DVs] at h; subst h; exact DVs.nil
  | e :: ds, _, h => by
    simp only [DVs] at h
    obtain ⟨u, r, rfl, h1, h2⟩ := h
    simp only [List.reverse_cons]
    exact DVs.append (DVs.reverse h2) (DVs.cons h1 DVs.nil)
theorem DVs.ints (ns : List Int) : DVs K H ρ (ns.map D.int) (ns.map V.int) := by
  induction ns with
  | nil => exact DVs.nil
  | cons n r ih => exact DVs.cons (by simp [DV]) ih
end

def IsDct (w : World) (a : Addr) (zs : List (NestedKey × Addr × V)) (h : Heap) : Prop :=
  ∃ us : List (NestedKey × Addr × Value), Paired (fun z u => z.1 = u.1 ∧ z.2.1 = u.2.1 ∧ RelV z.2.2 u.2.2) zs us ∧
    ∃ o es ep, h.get? a = some o ∧ o.ExactDict ∧ o.data = .dict es ep ∧ es.toList = us.map fun x => (⟨x.1.hash w, .ref x.2.1, x.2.2⟩ : DictEntry)
def dHO (w : World) (a : Addr) (zs : List (NestedKey × Addr × V)) : HO := .ext (IsDct w a zs)
mutual
def nk : D → Option NestedKey
  | .non => some .none
  | .bl b => some (.num (if b = true then 1 else 0))
  | .int i => some (.num i)
  | .str x => some (.text x)
  | .tup ds => (nks ds).map .tup
  | .rol _ => none
  | .ref _ => none
  | .ty _ => none
def nks : List D → Option (List NestedKey)
  | [] => some []
  | d :: ds => (nk d).bind fun k => (nks ds).map fun r => k :: r
end
/-- an entry -/
def ER (K : Kx) (H : Hp) (ρ : List Addr) (p : D × D) (z : NestedKey × Addr × V) : Prop := nk p.1 = some z.1 ∧ z.1.depth ≤ 8 ∧ DV K H ρ p.1 (.ref z.2.1) ∧ DV K H ρ p.2 z.2.2
def DctV (K : Kx) (H : Hp) (ρ : List Addr) (a : Addr) (kvs : List (D × D)) : Prop :=
  ∃ zs, H a = some (dHO K.w a zs) ∧ (a == sysModules) = false ∧ zs.length ≤ sizeLine ∧ (zs.map (·.1)).Nodup ∧ Paired (ER K H ρ) kvs zs

theorem ER.mono {K : Kx} {H H' : Hp} {ρ ρ' : List Addr} (x : Ext K H ρ H' ρ') {p : D × D} {z : NestedKey × Addr × V} (e : ER K H ρ p z) : ER K H' ρ' p z := ⟨e.1, e.2.1, DV.mono x _ _ e.2.2.1, DV.mono x _ _ e.2.2.2⟩
theorem prMono {α β : Type} {F G : α → β → Prop} : ∀ {l : List α} {m : List β}, Paired F l m → (∀ a b, F a b → G a b) → Paired G l m
  | _, _, .nil, _ => .nil
  | _, _, .cons r t, f => .cons (f _ _ r) (prMono t f)
/-- what stands at an address -/
def OV (K : Kx) (H : Hp) (ρ : List Addr) (a : Addr) : MO → Prop
  | .lst ds => ∃ xs, H a = some (.lst xs) ∧ DVs K H ρ ds xs
  | .dct kvs => DctV K H ρ a kvs
/-- the table of a code object that makes lambdas -/
def TabD (H : Hp) (ρ : List Addr) (p : Addr × Str) : Prop := ∃ ps : Array Value, H p.1 = some (.tbl ps) ∧ TriplesOk ps.toList ∧ ∀ (pos : Pos) (cv : Value), codeAmong pos ps.toList = some cv → ∃ c, cv = .ref c ∧ H c = some (LamX.CodeO c p.2) ∧ c ∉ ρ
structure Rp (K : Kx) (H : Hp) (ρ : List Addr) (h : Hm) : Prop where
  len : ρ.length = h.length
  nd : ρ.Nodup
  obj : ∀ (i : Nat) (o : MO), h[i]? = some o → ∃ a, ρ[i]? = some a ∧ OV K H ρ a o
  tab : ∀ p ∈ K.T, TabD H ρ p

section
variable {K : Kx} {H H' : Hp} {ρ ρ' : List Addr} {h : Hm} {a p : Addr} {o : HO} {mo : MO}
theorem OV.there {a : Addr} (x : OV K H ρ a mo) : ∃ o, H a = some o ∧ (∀ xs, o ≠ .tup xs) ∧ (∀ ob xs, o ≠ .frz ob (.tup xs)) := by
  cases mo with
  | lst ds => obtain ⟨xs, e, _⟩ := x; exact ⟨_, e, fun _ z => (nomatch z), fun _ _ z => (nomatch z)⟩
  | dct kvs => obtain ⟨zs, e, _⟩ := x; exact ⟨_, e, fun _ z => (nomatch z), fun _ _ z => (nomatch z)⟩
theorem OV.mut {a : Addr} (x : OV K H ρ a mo) : Mut (H a) := by
  cases mo with
  | lst ds => obtain ⟨xs, e, _⟩ := x; rw [e]; trivial
  | dct kvs => obtain ⟨zs, e, _⟩ := x; rw [e]; trivial
/-- the object at an address is kept -/
theorem OV.mono {a : Addr} (e : Ext K H ρ H' ρ') (k : H' a = H a) (x : OV K H ρ a mo) : OV K H' ρ' a mo := by
  cases mo with
  | lst ds => obtain ⟨xs, q, r⟩ := x; exact ⟨xs, k.trans q, DVs.mono e _ _ r⟩
  | dct kvs => obtain ⟨zs, q, h1, h2, h3, pr⟩ := x; exact ⟨zs, k.trans q, h1, h2, h3, prMono pr fun _ _ r => r.mono e⟩
theorem OV.notTbl {a : Addr} (x : OV K H ρ a mo) : ∀ ps, H a ≠ some (.tbl ps) := fun ps z => by
  cases mo with
  | lst ds => obtain ⟨xs, e, _⟩ := x; rw [z] at e; cases e
  | dct kvs => obtain ⟨zs, e, _⟩ := x; rw [z] at e; cases e
theorem TabD.fresh {p : Addr} {o : HO} {t : Addr × Str} (x : TabD H ρ t) (hn : H p = none) : TabD (upd H p o) ρ t := by
  obtain ⟨ps, e, ok, k⟩ := x
  refine ⟨ps, by rw [upd_ne (ne_of_none e hn)]; exact e, ok, fun pos cv q => ?_⟩
  obtain ⟨c, rfl, ec, nc⟩ := k pos cv q
  exact ⟨c, rfl, by rw [upd_ne (ne_of_none ec hn)]; exact ec, nc⟩
theorem TabD.fresh2 {p : Addr} {o : HO} {t : Addr × Str} (x : TabD H ρ t) (hn : H p = none) : TabD (upd H p o) (ρ ++ [p]) t := by
  obtain ⟨ps, e, ok, k⟩ := x
  refine ⟨ps, by rw [upd_ne (ne_of_none e hn)]; exact e, ok, fun pos cv q => ?_⟩
  obtain ⟨c, rfl, ec, nc⟩ := k pos cv q
  refine ⟨c, rfl, by rw [upd_ne (ne_of_none ec hn)]; exact ec, fun z => ?_⟩
  rw [List.mem_append, List.mem_singleton] at z
  exact z.elim nc (ne_of_none ec hn)
theorem TabD.mut {p : Addr} {o : HO} {t : Addr × Str} (x : TabD H ρ t) (hp : ∀ ps, H p ≠ some (.tbl ps)) (hm : p ∈ ρ) : TabD (upd H p o) ρ t := by
  obtain ⟨ps, e, ok, k⟩ := x
  refine ⟨ps, by rw [upd_ne (fun z => hp ps (by rw [← z]; exact e))]; exact e, ok, fun pos cv q => ?_⟩
  obtain ⟨c, rfl, ec, nc⟩ := k pos cv q
  exact ⟨c, rfl, by rw [upd_ne (fun z => nc (by rw [z]; exact hm))]; exact ec, nc⟩
theorem tup_upd (hn : H p = none) {a : Addr} {xs : List V} (x : H a = some (.tup xs)) : upd H p o a = some (.tup xs) := by
  rw [upd_ne (ne_of_none x hn)]
  exact x
theorem rol_upd (hn : H p = none) {a : Addr} {xs : List V} (x : RoL K H a xs) : RoL K (upd H p o) a xs := by
  rcases x with ⟨ob, x⟩ | x
  · exact .inl ⟨ob, by rw [upd_ne (ne_of_none x hn)]; exact x⟩
  · exact .inr x
theorem rol_mut (hm : Mut (H p)) {a : Addr} {xs : List V} (x : RoL K H a xs) : RoL K (upd H p o) a xs := by
  rcases x with ⟨ob, x⟩ | x
  · exact .inl ⟨ob, by rw [upd_ne (fun z => by subst z; rw [x] at hm; exact hm)]; exact x⟩
  · exact .inr x
theorem Rp.fresh (R : Rp K H ρ h) (hn : H p = none) : p ∉ ρ := fun hm => by
  obtain ⟨i, hi⟩ := List.mem_iff_getElem?.mp hm
  have hl : i < h.length := by rw [← R.len]; exact (List.getElem?_eq_some_iff.mp hi).1
  obtain ⟨a, h1, h2⟩ := R.obj i _ (List.getElem?_eq_getElem hl)
  rw [hi] at h1
  cases h1
  obtain ⟨o, e, _⟩ := h2.there
  rw [hn] at e
  cases e
/-- a new tuple (or any other untracked thing) -/
theorem Rp.other (R : Rp K H ρ h) (hn : H p = none) : Ext K H ρ (upd H p o) ρ ∧ Rp K (upd H p o) ρ h := by
  have e : Ext K H ρ (upd H p o) ρ := ⟨⟨[], by simp⟩, fun a xs x => tup_upd hn x, fun a xs x => rol_upd hn x, fun a ob q _ n => ⟨by rw [upd_ne (ne_of_none q hn)]; exact q, n⟩⟩
  refine ⟨e, R.len, R.nd, fun i mo q => ?_, fun t ht => (R.tab t ht).fresh hn⟩
  obtain ⟨a, h1, h2⟩ := R.obj i mo q
  obtain ⟨ob, z, _⟩ := h2.there
  exact ⟨a, h1, h2.mono e (upd_ne (ne_of_none z hn))⟩
theorem Ext.new (R : Rp K H ρ h) (hn : H p = none) : Ext K H ρ (upd H p o) (ρ ++ [p]) :=
  ⟨⟨[p], rfl⟩, fun a xs x => tup_upd hn x, fun a xs x => rol_upd hn x, fun a ob q _ n => ⟨by rw [upd_ne (ne_of_none q hn)]; exact q, by
    rw [List.mem_append, List.mem_singleton]
    exact fun z => z.elim n (ne_of_none q hn)⟩⟩
/-- a new object -/
theorem Rp.new (R : Rp K H ρ h) (hn : H p = none) (new : OV K (upd H p o) (ρ ++ [p]) p mo) : Rp K (upd H p o) (ρ ++ [p]) (h ++ [mo]) := by
  have e : Ext K H ρ (upd H p o) (ρ ++ [p]) := Ext.new R hn
  refine ⟨by simp [R.len], ?_, fun i m q => ?_, fun t ht => (R.tab t ht).fresh2 hn⟩
  · rw [List.nodup_append]
    refine ⟨R.nd, by simp, fun x hx y hy z => ?_⟩
    rw [List.mem_singleton] at hy
    subst hy
    subst z
    exact R.fresh hn hx
  · by_cases hi : i < h.length
    · rw [List.getElem?_append_left hi] at q
      obtain ⟨a, h1, h2⟩ := R.obj i m q
      obtain ⟨ob, z, _⟩ := h2.there
      exact ⟨a, e.get h1, h2.mono e (upd_ne (ne_of_none z hn))⟩
    · rw [List.getElem?_append_right (by omega)] at q
      have hi0 : i - h.length = 0 := by
        have := (List.getElem?_eq_some_iff.mp q).1
        simp at this
        omega
      rw [hi0] at q
      simp at q
      subst q
      refine ⟨p, ?_, new⟩
      rw [List.getElem?_append_right (by rw [R.len]; omega), R.len, hi0]
      rfl
theorem Rp.newRef (R : Rp K H ρ h) : (ρ ++ [p])[h.length]? = some p := by
  rw [List.getElem?_append_right (by rw [R.len]; exact Nat.le_refl _), R.len, Nat.sub_self]
  rfl
theorem tup_mut (hm : Mut (H p)) {a : Addr} {xs : List V} (x : H a = some (.tup xs)) : upd H p o a = some (.tup xs) := by
  rw [upd_ne (fun z => by subst z; rw [x] at hm; exact hm)]
  exact x
theorem Ext.mut (hm : Mut (H p)) {i : Nat} (hi : ρ[i]? = some p) : Ext K H ρ (upd H p o) ρ :=
  ⟨⟨[], by simp⟩, fun a xs x => tup_mut hm x, fun a xs x => rol_mut hm x, fun a ob q _ n => ⟨by
    rw [upd_ne (fun z => n (by rw [z]; exact List.mem_iff_getElem?.mpr ⟨i, hi⟩))]
    exact q, n⟩⟩
/-- an object changes -/
theorem Rp.set (R : Rp K H ρ h) {i : Nat} {old : MO} (hi : h[i]? = some old) (hp : ρ[i]? = some p) (new : OV K (upd H p o) ρ p mo) :
    Ext K H ρ (upd H p o) ρ ∧ Rp K (upd H p o) ρ (h.set i mo) := by
  obtain ⟨a, h1, h2⟩ := R.obj i old hi
  rw [hp] at h1
  cases h1
  have e : Ext K H ρ (upd H p o) ρ := Ext.mut h2.mut hp
  refine ⟨e, by simp [R.len], R.nd, fun j m q => ?_, fun t ht => (R.tab t ht).mut h2.notTbl (List.mem_iff_getElem?.mpr ⟨i, hp⟩)⟩
  by_cases hj : j = i
  · subst hj
    have hl : j < h.length := (List.getElem?_eq_some_iff.mp hi).1
    rw [List.getElem?_set_self hl] at q
    cases q
    exact ⟨p, hp, new⟩
  · rw [List.getElem?_set_ne (Ne.symm hj)] at q
    obtain ⟨b, h3, h4⟩ := R.obj j m q
    refine ⟨b, h3, h4.mono e (upd_ne fun z => hj ?_)⟩
    subst z
    exact (List.getElem?_inj (by rw [R.len]; exact (List.getElem?_eq_some_iff.mp q).1) R.nd).mp (h3.trans hp.symm)
theorem Rp.at (R : Rp K H ρ h) {i : Nat} (hi : h[i]? = some mo) (hp : ρ[i]? = some p) : OV K H ρ p mo := by
  obtain ⟨a, h1, h2⟩ := R.obj i mo hi
  rw [hp] at h1
  cases h1
  exact h2
end

/-- the slots -/
def SV (K : Kx) (H : Hp) (ρ : List Addr) (δ : Lo) (σ : L2.St) : Prop := δ.length = σ.length ∧ ∀ (i : Nat) (d : D), δ[i]? = some (some d) → ∃ v, σ[i]? = some (some v) ∧ DV K H ρ d v
section
variable {K : Kx} {H H' : Hp} {ρ ρ' : List Addr} {δ : Lo} {σ : L2.St}
theorem SV.mono (e : Ext K H ρ H' ρ') (s : SV K H ρ δ σ) : SV K H' ρ' δ σ := ⟨s.1, fun i d h => let ⟨v, h1, h2⟩ := s.2 i d h; ⟨v, h1, h2.mono e⟩⟩
theorem SV.set (s : SV K H ρ δ σ) {i : Nat} {d : D} {v : V} (q : DV K H ρ d v) : SV K H ρ (δ.set i (some d)) (σ.set i (some v)) := by
  refine ⟨by simp [s.1], fun j e h => ?_⟩
  by_cases hj : j = i
  · subst hj
    have hl : j < δ.length := by
      have := (List.getElem?_eq_some_iff.mp h).1
      simpa using this
    rw [List.getElem?_set_self hl] at h
    cases h
    exact ⟨v, by rw [List.getElem?_set_self (by rw [← s.1]; exact hl)], q⟩
  · rw [List.getElem?_set_ne (Ne.symm hj)] at h
    obtain ⟨u, h1, h2⟩ := s.2 j e h
    exact ⟨u, by rw [List.getElem?_set_ne (Ne.symm hj)]; exact h1, h2⟩
end

/-! ### readings by functions -/
abbrev ME := Lo → Hm → Option (D × Hm)
abbrev MA := Lo → Hm → Option (List D × Hm)
abbrev MT := Lo → Hm → Option (Bool × Hm)
def LE (K : Kx) (m : ME) : TE := fun σ H Q => ∃ δ ρ h d h', SV K H ρ δ σ ∧ Rp K H ρ h ∧ m δ h = some (d, h') ∧
  ∀ v H' ρ', Ext K H ρ H' ρ' → Rp K H' ρ' h' → DV K H' ρ' d v → Q v H'
def LA (K : Kx) (m : MA) : TA := fun σ H Q => ∃ δ ρ h d h', SV K H ρ δ σ ∧ Rp K H ρ h ∧ m δ h = some (d, h') ∧
  ∀ v H' ρ', Ext K H ρ H' ρ' → Rp K H' ρ' h' → DVs K H' ρ' d v → Q v H'
def LT (K : Kx) (m : MT) : TT := fun σ H Q => ∃ δ ρ h d h', SV K H ρ δ σ ∧ Rp K H ρ h ∧ m δ h = some (d, h') ∧
  ∀ H' ρ', Ext K H ρ H' ρ' → Rp K H' ρ' h' → Q d H'
section
variable {X : Cx} {τ : Tb} {e : Expr} {es : List Expr}
theorem _root_.L2.PE.imp {t t' : TE} (h : PE X e t) (i : ∀ σ H Q, t' σ H Q → t σ H Q) : PE X e t' := ⟨fun pins s σ H Q I q => h.run pins s σ H Q I (i σ H Q q)⟩
theorem _root_.L2.PA.imp {t t' : TA} (h : PA X es t) (i : ∀ σ H Q, t' σ H Q → t σ H Q) : PA X es t' := ⟨fun pos pins s σ H Q I q => h.run pos pins s σ H Q I (i σ H Q q)⟩
theorem _root_.L2.PT.imp {t t' : TT} (h : PT X e t) (i : ∀ σ H Q, t' σ H Q → t σ H Q) : PT X e t' := ⟨fun pins s σ H Q I q => h.run pins s σ H Q I (i σ H Q q)⟩
theorem _root_.L2.PW.imp {t t' : TT} (h : PW X e t) (i : ∀ σ H Q, t' σ H Q → t σ H Q) : PW X e t' := ⟨fun w pins s σ H Q I q => h.run w pins s σ H Q I (i σ H Q q)⟩
theorem _root_.L2.PS.imp {st : Stmt} {t t' : TS} (h : PS X st t) (i : ∀ D σ H, t' D σ H → t D σ H) : PS X st t' := ⟨fun pins s σ H D I q => h.run pins s σ H D I (i D σ H q)⟩
theorem _root_.L2.PSs.imp {st : List Stmt} {t t' : TS} (h : PSs X st t) (i : ∀ D σ H, t' D σ H → t D σ H) : PSs X st t' := ⟨fun pins s σ H D I q => h.run pins s σ H D I (i D σ H q)⟩
end
end DL
set_option Elab.async false
set_option linter.all false
set_option maxRecDepth 100000
/-! DL.Exp: expressions, tests, arguments. -/
namespace DL
open PySem PySem.Spec PyProof.Rows L2
section
variable {X : Cx} {τ : Tb} {a b c e : Expr} {es : List Expr} {ma mb mc : ME} {pos : Pos}

/-! ### names, constants -/
def mVar (i : Nat) : ME := fun δ h => match δ[i]? with
  | some (some d) => some (d, h)
  | _ => none
def mC (d : D) : ME := fun _ h => some (d, h)
theorem le_of {K : Kx} {m : ME} {σ : L2.St} {H : Hp} {Q : VK} (h : LE K m σ H Q) {K2 : L2.St → Hp → VK → Prop}
    (f : ∀ δ ρ h d h', SV K H ρ δ σ → Rp K H ρ h → m δ h = some (d, h') → (∀ v H' ρ', Ext K H ρ H' ρ' → Rp K H' ρ' h' → DV K H' ρ' d v → Q v H') → K2 σ H Q) : K2 σ H Q := by
  obtain ⟨δ, ρ, h, d, h', s, R, e, q⟩ := h
  exact f δ ρ h d h' s R e q
theorem L_var (i : Nat) {x : Str} (hN : X.N[i]? = some x := by rfl) (hv : Vis X.env.scope x := by first | exact Or.inl rfl | exact Or.inr (Or.inl rfl) | exact Or.inr (Or.inr rfl)) (hd : (x == ("__debug__" : Str)) = false := by decide)
    (hcd : (x == ("__classdict__" : Str)) = false := by decide) : PE X (.Name x pos) (LE (X.kt τ) (mVar i)) := by
  refine (pv i hN hv hd hcd).imp fun σ H Q ⟨δ, ρ, h, d, h', s, R, e, q⟩ => ?_
  unfold mVar at e
  split at e
  · rename_i d' hd'
    cases e
    obtain ⟨v, h1, h2⟩ := s.2 _ _ hd'
    exact ⟨v, h1, q v H ρ Ext.refl R h2⟩
  · cases e
theorem L_c {d : D} {v : V} (h : PE X e (tC v)) (hd : ∀ H ρ, DV (X.kt τ) H ρ d v) : PE X e (LE (X.kt τ) (mC d)) :=
  h.imp fun σ H Q ⟨δ, ρ, h, d', h', s, R, e, q⟩ => by
    cases e
    exact q v H ρ Ext.refl R (hd _ _)
theorem L_int {i j} : PE X (.Constant (.int i) j pos) (LE (X.kt τ) (mC (.int i))) := L_c pe_int fun _ _ => by simp [DV]
theorem L_bl {i j} : PE X (.Constant (.bool i) j pos) (LE (X.kt τ) (mC (.bl i))) := L_c pe_bl fun _ _ => by simp [DV]
theorem L_non {j} : PE X (.Constant .none j pos) (LE (X.kt τ) (mC .non)) := L_c pe_non fun _ _ => by simp [DV]
theorem L_str {x j} : PE X (.Constant (.str x) j pos) (LE (X.kt τ) (mC (.str x))) := L_c pe_str fun _ _ => by simp [DV]
/-- a module's constant -/
theorem L_glob {x : Str} {d : D} {v : V} {u : Value} (hg : Gl X x) (hm : X.mg x = some u) (r : RelV v u) (hd : ∀ H ρ, DV (X.kt τ) H ρ d v) (hdb : (x == ("__debug__" : Str)) = false := by decide) : PE X (.Name x pos) (LE (X.kt τ) (mC d)) :=
  L_c (pe_glob hg hm r hdb) hd

/-! ### two-place operations -/
abbrev F2 := D → D → Hm → Option (D × Hm)
abbrev F1 := D → Hm → Option (D × Hm)
def m2 (f : F2) (a b : ME) : ME := fun δ h => (a δ h).bind fun p => (b δ p.2).bind fun q => f p.1 q.1 q.2
def m1 (f : F1) (a : ME) : ME := fun δ h => (a δ h).bind fun p => f p.1 p.2
def rD (K : Kx) (f : F2) : R2 := fun x y H Q => ∃ ρ h d e r h', Rp K H ρ h ∧ DV K H ρ d x ∧ DV K H ρ e y ∧ f d e h = some (r, h') ∧
  ∀ v H' ρ', Ext K H ρ H' ρ' → Rp K H' ρ' h' → DV K H' ρ' r v → Q v H'
def rD1 (K : Kx) (f : F1) : V → Hp → VK → Prop := fun x H Q => ∃ ρ h d r h', Rp K H ρ h ∧ DV K H ρ d x ∧ f d h = some (r, h') ∧
  ∀ v H' ρ', Ext K H ρ H' ρ' → Rp K H' ρ' h' → DV K H' ρ' r v → Q v H'
theorem LE.two {K : Kx} {f : F2} {σ : L2.St} {H : Hp} {Q : VK} (h : LE K (m2 f ma mb) σ H Q) : tOp (rD K f) (LE K ma) (LE K mb) σ H Q := by
  obtain ⟨δ, ρ, h, d, h', s, R, e, q⟩ := h
  unfold m2 at e
  obtain ⟨⟨d1, h1⟩, e1, e⟩ := Option.bind_eq_some_iff.mp e
  obtain ⟨⟨d2, h2⟩, e2, e⟩ := Option.bind_eq_some_iff.mp e
  refine ⟨δ, ρ, h, d1, h1, s, R, e1, fun v H1 ρ1 x1 R1 v1 => ?_⟩
  refine ⟨δ, ρ1, h1, d2, h2, s.mono x1, R1, e2, fun u H2 ρ2 x2 R2 v2 => ?_⟩
  exact ⟨ρ2, h2, d1, d2, d, h', R2, v1.mono x2, v2, e, fun w H3 ρ3 x3 R3 v3 => q w H3 ρ3 ((x1.trans x2).trans x3) R3 v3⟩
theorem LE.one {K : Kx} {f : F1} {σ : L2.St} {H : Hp} {Q : VK} (h : LE K (m1 f ma) σ H Q) : tUn (rD1 K f) (LE K ma) σ H Q := by
  obtain ⟨δ, ρ, h, d, h', s, R, e, q⟩ := h
  unfold m1 at e
  obtain ⟨⟨d1, h1⟩, e1, e⟩ := Option.bind_eq_some_iff.mp e
  refine ⟨δ, ρ, h, d1, h1, s, R, e1, fun v H1 ρ1 x1 R1 v1 => ?_⟩
  exact ⟨ρ1, h1, d1, d, h', R1, v1, e, fun w H3 ρ3 x3 R3 v3 => q w H3 ρ3 (x1.trans x3) R3 v3⟩
/-- a rule by data -/
abbrev OpD (X : Cx) (τ : Tb) (g : Value → Value → Sem Value) (f : F2) : Prop := OpR X g (rD (X.kt τ) f)
theorem L_op {op : Operator} {f : F2} (ho : OpD X τ (binaryOp op) f) (ha : PE X a (LE (X.kt τ) ma)) (hb : PE X b (LE (X.kt τ) mb)) : PE X (.BinOp a op b pos) (LE (X.kt τ) (m2 f ma mb)) :=
  (pe_op ho ha hb).imp fun _ _ _ h => h.two
theorem L_cmp {op : CmpOp} {f : F2} (ho : OpD X τ (compareOp op) f) (ha : PE X a (LE (X.kt τ) ma)) (hb : PE X b (LE (X.kt τ) mb)) (hm : behindInMarks op b = false) : PE X (.Compare a [op] [b] pos) (LE (X.kt τ) (m2 f ma mb)) :=
  (pe_cmpR ho ha hb hm).imp fun _ _ _ h => h.two
theorem L_un {op : UnaryOp} {f : F1} (ho : UnR X (unaryOp op) (rD1 (X.kt τ) f)) (ha : PE X a (LE (X.kt τ) ma)) : PE X (.UnaryOp op a pos) (LE (X.kt τ) (m1 f ma)) :=
  (pe_un ho ha).imp fun _ _ _ h => h.one
theorem _root_.L2.OpR.imp {f : Value → Value → Sem Value} {r r' : R2} (h : OpR X f r) (i : ∀ x y H Q, r' x y H Q → r x y H Q) : OpR X f r' := fun pins s σ H x y v u Q I rx ry q => h pins s σ H x y v u Q I rx ry (i x y H Q q)
theorem _root_.L2.UnR.imp {f : Value → Sem Value} {r r' : V → Hp → VK → Prop} (h : UnR X f r) (i : ∀ x H Q, r' x H Q → r x H Q) : UnR X f r' := fun pins s σ H x v Q I rx q => h pins s σ H x v Q I rx (i x H Q q)
theorem _root_.L2.CallR.imp {f : Value} {r r' : List V → Hp → VK → Prop} (h : CallR X f r) (i : ∀ x H Q, r' x H Q → r x H Q) : CallR X f r' := fun pins s σ H x v Q I rx q => h pins s σ H x v Q I rx (i x H Q q)
/-- the answer is plain data -/
theorem fin {K : Kx} {H : Hp} {ρ : List Addr} {h : Hm} {Q : VK} {r : D} {v : V} (R : Rp K H ρ h) (q : ∀ v H' ρ', Ext K H ρ H' ρ' → Rp K H' ρ' h → DV K H' ρ' r v → Q v H') (hv : DV K H ρ r v) : Q v H := q v H ρ Ext.refl R hv

/-! ### ints -/
/-- an operation on ints under a condition -/
def fI (C : Int → Int → Prop) [∀ i j, Decidable (C i j)] (g : Int → Int → D) : F2 := fun x y h => match x, y with
  | .int i, .int j => if C i j then some (g i j, h) else none
  | _, _ => none
theorem opd_I {f : Value → Value → Sem Value} {C : Int → Int → Prop} [∀ i j, Decidable (C i j)] {g : Int → Int → D} {gv : Int → Int → V} (ho : OpR X f (rI C gv)) (hg : ∀ i j H ρ, DV (X.kt τ) H ρ (g i j) (gv i j)) : OpD X τ f (fI C g) := by
  refine OpR.imp ho fun x y H Q ⟨ρ, h, d, e, r, h', R, v1, v2, q, k⟩ => ?_
  unfold fI at q
  split at q
  · rename_i i j
    split at q
    · rename_i hc
      cases q
      simp only [DV] at v1 v2
      exact ⟨i, j, v1, v2, hc, fin R k (hg _ _ _ _)⟩
    · cases q
  · cases q
theorem opd_I0 {f : Value → Value → Sem Value} {g : Int → Int → D} {gv : Int → Int → V} (ho : OpR X f (rI0 gv)) (hg : ∀ i j H ρ, DV (X.kt τ) H ρ (g i j) (gv i j)) : OpD X τ f (fI (fun _ _ => True) g) :=
  opd_I (C := fun _ _ => True) (OpR.imp ho fun x y H Q ⟨i, j, h1, h2, _, h3⟩ => ⟨i, j, h1, h2, h3⟩) hg
def dSub : F2 := fI (fun _ _ => True) fun i j => .int (i - j)
instance (i j : Int) : Decidable (CMul i j) := by unfold CMul; exact inferInstance
instance (i j : Int) : Decidable (CDiv i j) := by unfold CDiv; exact inferInstance
instance (i j : Int) : Decidable (CPow i j) := by unfold CPow; exact inferInstance
def dFdiv : F2 := fI CDiv fun i j => .int (i / j)
def dMod : F2 := fI (fun _ j => 0 < j) fun i j => .int (i % j)
def dPow : F2 := fI CPow fun i j => .int (i ^ j.toNat)
def dLt : F2 := fI (fun _ _ => True) fun i j => .bl (decide (i < j))
def dLe : F2 := fI (fun _ _ => True) fun i j => .bl (decide (i ≤ j))
def dGt : F2 := fI (fun _ _ => True) fun i j => .bl (decide (j < i))
def dGe : F2 := fI (fun _ _ => True) fun i j => .bl (decide (j ≤ i))
theorem O_sub : OpD X τ (binaryOp .Sub) dSub := opd_I0 op_sub fun _ _ _ _ => by simp [DV]
theorem O_fdiv : OpD X τ (binaryOp .FloorDiv) dFdiv := opd_I op_fdiv fun _ _ _ _ => by simp [DV]
theorem O_mod : OpD X τ (binaryOp .Mod) dMod := opd_I op_mod fun _ _ _ _ => by simp [DV]
theorem O_pow : OpD X τ (binaryOp .Pow) dPow := opd_I op_pow fun _ _ _ _ => by simp [DV]
theorem O_lt : OpD X τ (compareOp .Lt) dLt := opd_I0 op_lt fun _ _ _ _ => by simp [DV]
theorem O_le : OpD X τ (compareOp .LtE) dLe := opd_I0 op_le fun _ _ _ _ => by simp [DV]
theorem O_gt : OpD X τ (compareOp .Gt) dGt := opd_I0 op_gt fun _ _ _ _ => by simp [DV]
theorem O_ge : OpD X τ (compareOp .GtE) dGe := opd_I0 op_ge fun _ _ _ _ => by simp [DV]
def dNeg : F1 := fun x h => match x with
  | .int i => some (.int (-i), h)
  | _ => none
theorem U_neg : UnR X (unaryOp .USub) (rD1 (X.kt τ) dNeg) := by
  refine UnR.imp un_neg fun x H Q ⟨ρ, h, d, r, h', R, v1, q, k⟩ => ?_
  unfold dNeg at q
  split at q
  · rename_i i
    cases q
    simp only [DV] at v1
    exact ⟨i, v1, fin R k (by simp [DV])⟩
  · cases q

/-! ### +, * -/
def getL (h : Hm) (i : Nat) : Option (List D) := match h[i]? with
  | some (.lst xs) => some xs
  | _ => none
def newL (h : Hm) (xs : List D) : D × Hm := (.ref h.length, h ++ [.lst xs])
theorem getL_at {h : Hm} {i : Nat} {xs : List D} (e : getL h i = some xs) : h[i]? = some (.lst xs) := by
  unfold getL at e
  split at e
  · rename_i q; cases e; exact q
  · cases e
theorem Rp.lst {K : Kx} {H : Hp} {ρ : List Addr} {h : Hm} {i : Nat} {ds : List D} {a : Addr} (R : Rp K H ρ h) (e : getL h i = some ds) (ha : ρ[i]? = some a) : ∃ xs, H a = some (.lst xs) ∧ DVs K H ρ ds xs := R.at (getL_at e) ha
theorem Rp.rd {K : Kx} {H : Hp} {ρ : List Addr} {h : Hm} {i : Nat} {ds : List D} {a : Addr} (R : Rp K H ρ h) (e : getL h i = some ds) (ha : ρ[i]? = some a) : ∃ xs, SqL K.K H a xs ∧ DVs K H ρ ds xs :=
  let ⟨xs, h1, h2⟩ := R.lst e ha
  ⟨xs, SqL.of h1, h2⟩
theorem DV.rolI {K : Kx} {H : Hp} {ρ : List Addr} {ds : List D} {v : V} (h : DV K H ρ (.rol ds) v) : ∃ a xs, v = .ref a ∧ SqL K.K H a xs ∧ DVs K H ρ ds xs := by
  simp only [DV] at h
  obtain ⟨a, xs, h1, h2, h3⟩ := h
  exact ⟨a, xs, h1, h2.sq, h3⟩
/-- a new list -/
theorem fin_new {K : Kx} {H : Hp} {ρ : List Addr} {h : Hm} {Q : VK} {ds : List D} {xs : List V} {p : Addr} (R : Rp K H ρ h) (q : ∀ v H' ρ', Ext K H ρ H' ρ' → Rp K H' ρ' (h ++ [.lst ds]) → DV K H' ρ' (.ref h.length) v → Q v H')
    (hp : H p = none) (hx : DVs K H ρ ds xs) : Q (.ref p) (upd H p (.lst xs)) := by
  have e : Ext K H ρ (upd H p (.lst xs)) (ρ ++ [p]) := Ext.new R hp
  exact q _ _ _ e (R.new hp ⟨xs, upd_same, DVs.mono e _ _ hx⟩) (by simp only [DV]; exact ⟨p, R.newRef, rfl⟩)
/-- a new tuple -/
theorem fin_tup {K : Kx} {H : Hp} {ρ : List Addr} {h : Hm} {Q : VK} {ds : List D} {xs : List V} {p : Addr} (R : Rp K H ρ h) (q : ∀ v H' ρ', Ext K H ρ H' ρ' → Rp K H' ρ' h → DV K H' ρ' (.tup ds) v → Q v H')
    (hp : H p = none) (hx : DVs K H ρ ds xs) : Q (.ref p) (upd H p (.tup xs)) := by
  obtain ⟨e, R'⟩ := R.other (o := .tup xs) hp
  exact q _ _ _ e R' (by simp only [DV]; exact ⟨p, xs, rfl, upd_same, DVs.mono e _ _ hx⟩)
theorem DV.tupI {K : Kx} {H : Hp} {ρ : List Addr} {ds : List D} {v : V} (h : DV K H ρ (.tup ds) v) : ∃ a xs, v = .ref a ∧ H a = some (.tup xs) ∧ DVs K H ρ ds xs := by simpa only [DV] using h
theorem DV.refI {K : Kx} {H : Hp} {ρ : List Addr} {i : Nat} {v : V} (h : DV K H ρ (.ref i) v) : ∃ a, ρ[i]? = some a ∧ v = .ref a := by simpa only [DV] using h

def dAdd : F2 := fun x y h => match x, y with
  | .int i, .int j => some (.int (i + j), h)
  | .str a, .str b => if a.length + b.length ≤ sizeLine then some (.str (a ++ b), h) else none
  | .tup xs, .tup ys => if xs.length + ys.length ≤ sizeLine then some (.tup (xs ++ ys), h) else none
  | .ref i, .ref j => match getL h i, getL h j with
    | some xs, some ys => if xs.length + ys.length ≤ sizeLine then some (newL h (xs ++ ys)) else none
    | _, _ => none
  | _, _ => none
theorem O_add : OpD X τ (binaryOp .Add) dAdd := by
  intro pins s σ H x y v u Q I rx ry hq
  obtain ⟨ρ, h, d, e, r, h', R, v1, v2, q, k⟩ := hq
  unfold dAdd at q
  split at q
  · cases q
    simp only [DV] at v1 v2
    exact op_add pins s σ H x y v u Q I rx ry ⟨_, _, v1, v2, fin R k (by simp [DV])⟩
  · split at q
    · rename_i hz
      cases q
      simp only [DV] at v1 v2
      exact op_add_str pins s σ H x y v u Q I rx ry ⟨_, _, v1, v2, hz, fin R k (by simp [DV])⟩
    · cases q
  · split at q
    · rename_i xs ys hz
      cases q
      obtain ⟨a, vs, rfl, s1, w1⟩ := v1.tupI
      obtain ⟨b, us, rfl, s2, w2⟩ := v2.tupI
      have l1 := w1.length
      have l2 := w2.length
      refine op_catA pins s σ H _ _ v u Q I rx ry ⟨a, b, vs, us, rfl, rfl, SqT.of s1, SqT.of s2, by omega, fun e => ?_, fun _ e => ?_, fun _ _ p hp => ?_⟩
      · have : xs = [] := List.length_eq_zero_iff.mp (by rw [l1, e]; rfl)
        subst this
        exact fin R k (by simp only [DV, List.nil_append]; exact ⟨b, us, rfl, s2, w2⟩)
      · have : ys = [] := List.length_eq_zero_iff.mp (by rw [l2, e]; rfl)
        subst this
        exact fin R k (by simp only [DV, List.append_nil]; exact ⟨a, vs, rfl, s1, w1⟩)
      · exact fin_tup R k hp (w1.append w2)
    · cases q
  · split at q
    · rename_i xs ys e1 e2
      split at q
      · rename_i hz
        cases q
        obtain ⟨a, r1, rfl⟩ := v1.refI
        obtain ⟨b, r2, rfl⟩ := v2.refI
        obtain ⟨vs, s1, w1⟩ := R.lst e1 r1
        obtain ⟨us, s2, w2⟩ := R.lst e2 r2
        have l1 := w1.length
        have l2 := w2.length
        exact op_cat pins s σ H _ _ v u Q I rx ry ⟨a, b, vs, us, rfl, rfl, s1, s2, by omega, fun p hp => fin_new R k hp (w1.append w2)⟩
      · cases q
    · cases q
  · cases q
theorem DVs.rep {K : Kx} {H : Hp} {ρ : List Addr} {ds : List D} {vs : List V} (w : DVs K H ρ ds vs) : ∀ n : Nat, DVs K H ρ (List.replicate n ds).flatten (List.replicate n vs).flatten
  | 0 => by simp; exact DVs.nil
  | n + 1 => by
    simp only [List.replicate_succ, List.flatten_cons]
    exact w.append (DVs.rep w n)
end
end DL
set_option Elab.async false
set_option linter.all false
set_option maxRecDepth 100000
/-! DL.Stm: tests, statements, targets, loops, defs. -/
namespace DL
open PySem PySem.Spec PyProof.Rows L2

/-! ### tests -/
def dTru : D → Hm → Option Bool
  | .non, _ => some false
  | .bl b, _ => some b
  | .int i, _ => some (i != 0)
  | .str y, _ => if y.length ≤ sizeLine then some ((y.length : Int) != 0) else none
  | .tup xs, _ => some (!xs.isEmpty)
  | .rol xs, _ => some (!xs.isEmpty)
  | .ref i, h => (getL h i).map fun xs => !xs.isEmpty
  | .ty _, _ => none
def tOf (m : ME) : MT := fun δ h => (m δ h).bind fun p => match p.1 with
  | .bl b => some (b, p.2)
  | _ => none
def tTru (m : ME) : MT := fun δ h => (m δ h).bind fun p => (dTru p.1 p.2).map fun b => (b, p.2)
def tAndM (a b : MT) : MT := fun δ h => (a δ h).bind fun p => if p.1 then b δ p.2 else some (false, p.2)
def tOrM (a b : MT) : MT := fun δ h => (a δ h).bind fun p => if p.1 then some (true, p.2) else b δ p.2
def tNotM (a : MT) : MT := fun δ h => (a δ h).bind fun p => some (!p.1, p.2)
def mIf (c : MT) (a b : ME) : ME := fun δ h => (c δ h).bind fun p => if p.1 then a δ p.2 else b δ p.2
section
variable {X : Cx} {τ : Tb} {a b c e : Expr} {es : List Expr} {ma mb mc : ME} {ta tb : MT} {pos : Pos} {rest : List Expr}
theorem DVs.isEmpty {K : Kx} {H : Hp} {ρ : List Addr} {ds : List D} {vs : List V} (w : DVs K H ρ ds vs) : vs.isEmpty = ds.isEmpty := by
  have l := w.length
  cases ds <;> cases vs <;> simp_all
theorem truV_of {K : Kx} {H : Hp} {ρ : List Addr} {h : Hm} {d : D} {v : V} {k : Bool} (R : Rp K H ρ h) (q : DV K H ρ d v) (e : dTru d h = some k) : TruV K.K v H k := by
  cases d with
  | non => simp only [DV] at q; subst q; simp only [dTru] at e; cases e; rfl
  | bl b => simp only [DV] at q; subst q; simp only [dTru] at e; cases e; rfl
  | int i => simp only [DV] at q; subst q; simp only [dTru] at e; cases e; rfl
  | str y =>
    simp only [DV] at q; subst q
    simp only [dTru] at e
    split at e
    · cases e; exact ⟨by assumption, rfl⟩
    · cases e
  | ty n => simp only [dTru] at e; cases e
  | tup xs =>
    obtain ⟨p, vs, rfl, s, w⟩ := q.tupI
    simp only [dTru] at e; cases e
    exact .inr (.inl ⟨vs, SqT.of s, by rw [w.isEmpty]⟩)
  | rol xs =>
    obtain ⟨p, vs, rfl, s, w⟩ := q.rolI
    simp only [dTru] at e; cases e
    exact .inl ⟨vs, s, by rw [w.isEmpty]⟩
  | ref i =>
    obtain ⟨p, ha, rfl⟩ := q.refI
    simp only [dTru] at e
    obtain ⟨xs, z, e⟩ := Option.map_eq_some_iff.mp e
    subst e
    obtain ⟨vs, s, w⟩ := R.rd z ha
    exact .inl ⟨vs, s, by rw [w.isEmpty]⟩
theorem T_val (h : PE X e (LE (X.kt τ) ma)) (he : ∀ whole, isTrue e X.env whole = (do let v ← whole; standAt e.pos; holding [v] (truthy v)) := by intro _; rfl) : PT X e (LT (X.kt τ) (tTru ma)) := by
  refine (pt_truth h he).imp fun σ H Q ⟨δ, ρ, h0, d, h', s, R, q, k⟩ => ?_
  unfold tTru at q
  obtain ⟨⟨d1, h1⟩, e1, q⟩ := Option.bind_eq_some_iff.mp q
  obtain ⟨b, e2, q⟩ := Option.map_eq_some_iff.mp q
  cases q
  exact ⟨δ, ρ, h0, _, _, s, R, e1, fun v H1 ρ1 x1 R1 v1 => ⟨_, truV_of R1 v1 e2, k H1 ρ1 x1 R1⟩⟩
theorem LT.tru {K : Kx} {σ : L2.St} {H : Hp} {Q : Bool → Hp → Prop} {t : TE} (i : ∀ σ H Q, LE K ma σ H Q → t σ H Q) (h : LT K (tOf ma) σ H Q) : tTest t σ H Q := by
  obtain ⟨δ, ρ, h0, d, h', s, R, q, k⟩ := h
  unfold tOf at q
  obtain ⟨⟨d1, h1⟩, e1, q⟩ := Option.bind_eq_some_iff.mp q
  cases d1 with
  | bl b =>
    cases q
    refine i _ _ _ ⟨δ, ρ, h0, _, _, s, R, e1, fun v H1 ρ1 x1 R1 v1 => ?_⟩
    simp only [DV] at v1
    exact ⟨_, v1, k H1 ρ1 x1 R1⟩
  | _ => simp at q
theorem T_cmp {op : CmpOp} {f : F2} (ho : OpD X τ (compareOp op) f) (ha : PE X a (LE (X.kt τ) ma)) (hb : PE X b (LE (X.kt τ) mb)) (hm : behindInMarks op b = false) : PT X (.Compare a [op] [b] pos) (LT (X.kt τ) (tOf (m2 f ma mb))) :=
  (pt_cmpR ho ha hb hm).imp fun σ H Q h => LT.tru (fun _ _ _ h => h.two) h
theorem LT.and {K : Kx} {σ : L2.St} {H : Hp} {Q : Bool → Hp → Prop} (h : LT K (tAndM ta tb) σ H Q) : tAnd (LT K ta) (LT K tb) σ H Q := by
  obtain ⟨δ, ρ, h0, d, h', s, R, q, k⟩ := h
  unfold tAndM at q
  obtain ⟨⟨b1, h1⟩, e1, q⟩ := Option.bind_eq_some_iff.mp q
  refine ⟨δ, ρ, h0, b1, h1, s, R, e1, fun H1 ρ1 x1 R1 => ?_⟩
  cases b1 with
  | true => exact iteT ⟨δ, ρ1, h1, d, h', s.mono x1, R1, q, fun H2 ρ2 x2 R2 => k H2 ρ2 (x1.trans x2) R2⟩
  | false => cases q; exact iteF (k H1 ρ1 x1 R1)
theorem LT.or {K : Kx} {σ : L2.St} {H : Hp} {Q : Bool → Hp → Prop} (h : LT K (tOrM ta tb) σ H Q) : tOr (LT K ta) (LT K tb) σ H Q := by
  obtain ⟨δ, ρ, h0, d, h', s, R, q, k⟩ := h
  unfold tOrM at q
  obtain ⟨⟨b1, h1⟩, e1, q⟩ := Option.bind_eq_some_iff.mp q
  refine ⟨δ, ρ, h0, b1, h1, s, R, e1, fun H1 ρ1 x1 R1 => ?_⟩
  cases b1 with
  | false => exact iteF ⟨δ, ρ1, h1, d, h', s.mono x1, R1, q, fun H2 ρ2 x2 R2 => k H2 ρ2 (x1.trans x2) R2⟩
  | true => cases q; exact iteT (k H1 ρ1 x1 R1)
theorem W_and (ha : PT X a (LT (X.kt τ) ta)) (hb : PW X (.BoolOp .And (b :: rest) pos) (LT (X.kt τ) tb)) : PW X (.BoolOp .And (a :: b :: rest) pos) (LT (X.kt τ) (tAndM ta tb)) := (pw_and ha hb).imp fun _ _ _ h => h.and
theorem W_or (ha : PT X a (LT (X.kt τ) ta)) (hb : PW X (.BoolOp .Or (b :: rest) pos) (LT (X.kt τ) tb)) : PW X (.BoolOp .Or (a :: b :: rest) pos) (LT (X.kt τ) (tOrM ta tb)) := (pw_or ha hb).imp fun _ _ _ h => h.or
theorem T_not (ha : PT X a (LT (X.kt τ) ta)) : PT X (.UnaryOp .Not a pos) (LT (X.kt τ) (tNotM ta)) := by
  refine (pt_not ha).imp fun σ H Q ⟨δ, ρ, h0, d, h', s, R, q, k⟩ => ?_
  unfold tNotM at q
  obtain ⟨⟨b1, h1⟩, e1, q⟩ := Option.bind_eq_some_iff.mp q
  cases q
  exact ⟨δ, ρ, h0, b1, h1, s, R, e1, fun H1 ρ1 x1 R1 => k H1 ρ1 x1 R1⟩
theorem L_if (hc : PT X c (LT (X.kt τ) ta)) (ha : PE X a (LE (X.kt τ) ma)) (hb : PE X b (LE (X.kt τ) mb)) : PE X (.IfExp c a b pos) (LE (X.kt τ) (mIf ta ma mb)) := by
  refine (pe_ifExp hc ha hb).imp fun σ H Q ⟨δ, ρ, h0, d, h', s, R, q, k⟩ => ?_
  unfold mIf at q
  obtain ⟨⟨b1, h1⟩, e1, q⟩ := Option.bind_eq_some_iff.mp q
  refine ⟨δ, ρ, h0, b1, h1, s, R, e1, fun H1 ρ1 x1 R1 => ?_⟩
  cases b1 with
  | true => exact iteT ⟨δ, ρ1, h1, d, h', s.mono x1, R1, q, fun v H2 ρ2 x2 R2 => k v H2 ρ2 (x1.trans x2) R2⟩
  | false => exact iteF ⟨δ, ρ1, h1, d, h', s.mono x1, R1, q, fun v H2 ρ2 x2 R2 => k v H2 ρ2 (x1.trans x2) R2⟩
/-! ### and, or, not as values (bools) -/
def mAndV (a b : ME) : ME := fun δ h => (a δ h).bind fun p => match p.1 with
  | .bl true => b δ p.2
  | .bl false => some (.bl false, p.2)
  | _ => none
def mOrV (a b : ME) : ME := fun δ h => (a δ h).bind fun p => match p.1 with
  | .bl false => b δ p.2
  | .bl true => some (.bl true, p.2)
  | _ => none
def mNotV (a : ME) : ME := fun δ h => (a δ h).bind fun p => match p.1 with
  | .bl b => some (.bl (!b), p.2)
  | _ => none
theorem L_one {op} (h : PE X a (LE (X.kt τ) ma)) : PE X (.BoolOp op [a] pos) (LE (X.kt τ) ma) := pe_one h
theorem L_and (ha : PE X a (LE (X.kt τ) ma)) (hb : PE X (.BoolOp .And (b :: rest) pos) (LE (X.kt τ) mb)) : PE X (.BoolOp .And (a :: b :: rest) pos) (LE (X.kt τ) (mAndV ma mb)) := by
  refine (pe_and ha hb).imp fun σ H Q ⟨δ, ρ, h0, d, h', s, R, q, k⟩ => ?_
  unfold mAndV at q
  obtain ⟨⟨b1, h1⟩, e1, q⟩ := Option.bind_eq_some_iff.mp q
  refine ⟨δ, ρ, h0, b1, h1, s, R, e1, fun v H1 ρ1 x1 R1 v1 => ?_⟩
  simp only at q
  split at q
  · simp only [DV] at v1
    exact ⟨true, v1, iteT ⟨δ, ρ1, h1, d, h', s.mono x1, R1, q, fun v H2 ρ2 x2 R2 => k v H2 ρ2 (x1.trans x2) R2⟩⟩
  · cases q
    simp only [DV] at v1
    exact ⟨false, v1, iteF (k _ H1 ρ1 x1 R1 (by simp [DV]))⟩
  · cases q
theorem L_or (ha : PE X a (LE (X.kt τ) ma)) (hb : PE X (.BoolOp .Or (b :: rest) pos) (LE (X.kt τ) mb)) : PE X (.BoolOp .Or (a :: b :: rest) pos) (LE (X.kt τ) (mOrV ma mb)) := by
  refine (pe_or ha hb).imp fun σ H Q ⟨δ, ρ, h0, d, h', s, R, q, k⟩ => ?_
  unfold mOrV at q
  obtain ⟨⟨b1, h1⟩, e1, q⟩ := Option.bind_eq_some_iff.mp q
  refine ⟨δ, ρ, h0, b1, h1, s, R, e1, fun v H1 ρ1 x1 R1 v1 => ?_⟩
  simp only at q
  split at q
  · simp only [DV] at v1
    exact ⟨false, v1, iteF ⟨δ, ρ1, h1, d, h', s.mono x1, R1, q, fun v H2 ρ2 x2 R2 => k v H2 ρ2 (x1.trans x2) R2⟩⟩
  · cases q
    simp only [DV] at v1
    exact ⟨true, v1, iteT (k _ H1 ρ1 x1 R1 (by simp [DV]))⟩
  · cases q
theorem L_not (ha : PE X a (LE (X.kt τ) ma)) : PE X (.UnaryOp .Not a pos) (LE (X.kt τ) (mNotV ma)) := by
  refine (pe_not ha).imp fun σ H Q ⟨δ, ρ, h0, d, h', s, R, q, k⟩ => ?_
  unfold mNotV at q
  obtain ⟨⟨b1, h1⟩, e1, q⟩ := Option.bind_eq_some_iff.mp q
  refine ⟨δ, ρ, h0, b1, h1, s, R, e1, fun v H1 ρ1 x1 R1 v1 => ?_⟩
  simp only at q
  split at q
  · cases q
    simp only [DV] at v1
    exact ⟨_, v1, k _ H1 ρ1 x1 R1 (by simp [DV])⟩
  · cases q
/-! ### arguments, displays -/
def aNil : MA := fun _ h => some ([], h)
def aCons (m : ME) (r : MA) : MA := fun δ h => (m δ h).bind fun p => (r δ p.2).bind fun q => some (p.1 :: q.1, q.2)
def mTup (r : MA) : ME := fun δ h => (r δ h).bind fun p => if p.1.length ≤ sizeLine then some (.tup p.1, p.2) else none
def mLst (r : MA) : ME := fun δ h => (r δ h).bind fun p => if p.1.length ≤ sizeLine then some (newL p.2 p.1) else none
variable {mr : MA}
theorem A_nil : PA X [] (LA (X.kt τ) aNil) := pa_nil.imp fun σ H Q ⟨δ, ρ, h0, d, h', s, R, q, k⟩ => by
  cases q
  exact k [] H ρ Ext.refl R DVs.nil
theorem LA.cons {K : Kx} {σ : L2.St} {H : Hp} {Q : List V → Hp → Prop} (h : LA K (aCons ma mr) σ H Q) : tCons (LE K ma) (LA K mr) σ H Q := by
  obtain ⟨δ, ρ, h0, d, h', s, R, q, k⟩ := h
  unfold aCons at q
  obtain ⟨⟨d1, h1⟩, e1, q⟩ := Option.bind_eq_some_iff.mp q
  obtain ⟨⟨ds, h2⟩, e2, q⟩ := Option.bind_eq_some_iff.mp q
  cases q
  refine ⟨δ, ρ, h0, d1, h1, s, R, e1, fun v H1 ρ1 x1 R1 v1 => ?_⟩
  refine ⟨δ, ρ1, h1, ds, h2, s.mono x1, R1, e2, fun vs H2 ρ2 x2 R2 v2 => ?_⟩
  exact k _ H2 ρ2 (x1.trans x2) R2 (DVs.cons (v1.mono x2) v2)
theorem A_cons (ha : PE X e (LE (X.kt τ) ma)) (hr : PA X es (LA (X.kt τ) mr)) (hs : starEach (e :: es) X.env = (false, eval e X.env) :: starEach es X.env := by rfl) : PA X (e :: es) (LA (X.kt τ) (aCons ma mr)) :=
  (pa_cons ha hr hs).imp fun _ _ _ h => h.cons
theorem L_tup {x1} (h : PA X es (LA (X.kt τ) mr)) : PE X (.Tuple es x1 pos) (LE (X.kt τ) (mTup mr)) := by
  refine (pe_tup h).imp fun σ H Q ⟨δ, ρ, h0, d, h', s, R, q, k⟩ => ?_
  unfold mTup at q
  obtain ⟨⟨ds, h1⟩, e1, q⟩ := Option.bind_eq_some_iff.mp q
  split at q
  · rename_i hz
    cases q
    refine ⟨δ, ρ, h0, ds, h1, s, R, e1, fun vs H1 ρ1 x1 R1 v1 => ⟨by rw [← v1.length]; exact hz, fun p hp => ?_⟩⟩
    exact fin_tup R1 (fun v H2 ρ2 x2 R2 v2 => k v H2 ρ2 (x1.trans x2) R2 v2) hp v1
  · cases q
theorem L_lst (h : PA X es (LA (X.kt τ) mr)) : PE X (.List es pos) (LE (X.kt τ) (mLst mr)) := by
  refine (pe_lst h).imp fun σ H Q ⟨δ, ρ, h0, d, h', s, R, q, k⟩ => ?_
  unfold mLst at q
  obtain ⟨⟨ds, h1⟩, e1, q⟩ := Option.bind_eq_some_iff.mp q
  split at q
  · rename_i hz
    cases q
    refine ⟨δ, ρ, h0, ds, h1, s, R, e1, fun vs H1 ρ1 x1 R1 v1 => ⟨by rw [← v1.length]; exact hz, fun p hp => ?_⟩⟩
    exact fin_new R1 (fun v H2 ρ2 x2 R2 v2 => k v H2 ρ2 (x1.trans x2) R2 v2) hp v1
  · cases q
end

/-! ### statements -/
inductive Fl where
  | nx | brk | ct | rt (d : D) | ex (c : Str) (fs : List (Str × D))
abbrev MS := Lo → Hm → Option (Fl × Lo × Hm)
/-- the fields of an exception -/
def DFs (K : Kx) (H : Hp) (ρ : List Addr) : List (Str × D) → List (Str × V) → Prop
  | [], gs => gs = []
  | p :: fs, gs => ∃ v r, gs = (p.1, v) :: r ∧ DV K H ρ p.2 v ∧ DFs K H ρ fs r
theorem DFs.mono {K : Kx} {H H' : Hp} {ρ ρ' : List Addr} (e : Ext K H ρ H' ρ') : ∀ (fs : List (Str × D)) (gs : List (Str × V)), DFs K H ρ fs gs → DFs K H' ρ' fs gs
  | [], _, h => h
  | p :: fs, gs, h => by
    simp only [DFs] at h ⊢
    obtain ⟨v, r, h1, h2, h3⟩ := h
    exact ⟨v, r, h1, DV.mono e _ _ h2, DFs.mono e fs r h3⟩
/-- an exception: its class by name, its dict -/
def ExAt (K : Kx) (H : Hp) (ρ : List Addr) (c : Str) (fs : List (Str × D)) (cls : Value) (d : Option Addr) : Prop :=
  K.mg c = some cls ∧ ((fs = [] ∧ d = none) ∨ ∃ dd gs, d = some dd ∧ H dd = some (.xd gs) ∧ dd ∉ ρ ∧ DFs K H ρ fs gs)
theorem ExAt.mono {K : Kx} {H H' : Hp} {ρ ρ' : List Addr} {c : Str} {fs : List (Str × D)} {cls : Value} {d : Option Addr} (e : Ext K H ρ H' ρ') (x : ExAt K H ρ c fs cls d) : ExAt K H' ρ' c fs cls d := by
  obtain ⟨m, x | ⟨dd, gs, e1, e2, e3, e4⟩⟩ := x
  · exact ⟨m, .inl x⟩
  · obtain ⟨k1, k2⟩ := e.keep dd _ e2 (fun _ z => nomatch z) e3
    exact ⟨m, .inr ⟨dd, gs, e1, k1, k2, DFs.mono e _ _ e4⟩⟩
def LEnd (K : Kx) (W : WX) (Z : Ends) (H : Hp) (ρ : List Addr) (δ' : Lo) (h' : Hm) : Fl → Prop
  | .nx => ∀ σ' H' ρ', Ext K H ρ H' ρ' → Rp K H' ρ' h' → SV K H' ρ' δ' σ' → Z.nx σ' H'
  | .brk => ∀ σ' H' ρ', Ext K H ρ H' ρ' → Rp K H' ρ' h' → SV K H' ρ' δ' σ' → Z.bk σ' H'
  | .ct => ∀ σ' H' ρ', Ext K H ρ H' ρ' → Rp K H' ρ' h' → SV K H' ρ' δ' σ' → Z.ct σ' H'
  | .rt d => ∀ v H' ρ', Ext K H ρ H' ρ' → Rp K H' ρ' h' → DV K H' ρ' d v → Z.rt v H'
  | .ex c fs => ∀ σ' H' ρ' cls dd, Ext K H ρ H' ρ' → Rp K H' ρ' h' → SV K H' ρ' δ' σ' → ExAt K H' ρ' c fs cls dd → W cls dd σ' H'
def LS (K : Kx) (W : WX) (m : MS) : TS := fun Z σ H => ∃ δ ρ h f δ' h', SV K H ρ δ σ ∧ Rp K H ρ h ∧ m δ h = some (f, δ', h') ∧ LEnd K W Z H ρ δ' h' f
theorem LEnd.mono {K : Kx} {W : WX} {Z : Ends} {H H1 : Hp} {ρ ρ1 : List Addr} {δ' : Lo} {h' : Hm} {f : Fl} (x : Ext K H ρ H1 ρ1) (e : LEnd K W Z H ρ δ' h' f) : LEnd K W Z H1 ρ1 δ' h' f := by
  cases f with
  | nx => exact fun σ' H' ρ' y => e σ' H' ρ' (x.trans y)
  | brk => exact fun σ' H' ρ' y => e σ' H' ρ' (x.trans y)
  | ct => exact fun σ' H' ρ' y => e σ' H' ρ' (x.trans y)
  | rt d => exact fun v H' ρ' y => e v H' ρ' (x.trans y)
  | ex c fs => exact fun σ' H' ρ' cls dd y => e σ' H' ρ' cls dd (x.trans y)
def sNil : MS := fun δ h => some (.nx, δ, h)
def sSeq (a b : MS) : MS := fun δ h => (a δ h).bind fun p => match p.1 with
  | .nx => b p.2.1 p.2.2
  | _ => some p
def sRet (m : ME) : MS := fun δ h => (m δ h).bind fun p => some (.rt p.1, δ, p.2)
def sRetN : MS := fun δ h => some (.rt .non, δ, h)
def sDrop (m : ME) : MS := fun δ h => (m δ h).bind fun p => some (.nx, δ, p.2)
def sIf (c : MT) (a b : MS) : MS := fun δ h => (c δ h).bind fun p => if p.1 then a δ p.2 else b δ p.2
def sBrk : MS := fun δ h => some (.brk, δ, h)
def sCt : MS := fun δ h => some (.ct, δ, h)
section
variable {X : Cx} {τ : Tb} {st : Stmt} {rest sa sb : List Stmt} {ms mt : MS} {me : ME} {tc : MT} {e c : Expr} {pos : Pos} {W : WX}
theorem S_nil : PSs X [] (LS (X.kt τ) W sNil) := pss_nil.imp fun Z σ H ⟨δ, ρ, h0, f, δ', h', s, R, q, k⟩ => by
  cases q
  exact k σ H ρ Ext.refl R s
theorem LS.seq {K : Kx} {W : WX} {Z : Ends} {σ : L2.St} {H : Hp} (h : LS K W (sSeq ms mt) Z σ H) : tSeq (LS K W ms) (LS K W mt) Z σ H := by
  obtain ⟨δ, ρ, h0, f, δ', h', s, R, q, k⟩ := h
  unfold sSeq at q
  obtain ⟨⟨f1, δ1, h1⟩, e1, q⟩ := Option.bind_eq_some_iff.mp q
  refine ⟨δ, ρ, h0, f1, δ1, h1, s, R, e1, ?_⟩
  cases f1 with
  | nx => exact fun σ' H' ρ' x R' s' => ⟨δ1, ρ', h1, f, δ', h', s', R', q, k.mono x⟩
  | brk => cases q; exact k
  | ct => cases q; exact k
  | rt d => cases q; exact k
  | ex c fs => cases q; exact k
theorem S_cons (h1 : PS X st (LS (X.kt τ) W ms)) (h2 : PSs X rest (LS (X.kt τ) W mt)) : PSs X (st :: rest) (LS (X.kt τ) W (sSeq ms mt)) := (pss_cons h1 h2).imp fun _ _ _ h => h.seq
theorem S_one (h1 : PS X st (LS (X.kt τ) W ms)) : PSs X [st] (LS (X.kt τ) W ms) := pss_one h1
theorem S_ret (h : PE X e (LE (X.kt τ) me)) : PS X (.Return (some e) pos) (LS (X.kt τ) W (sRet me)) := (ps_ret h).imp fun Z σ H ⟨δ, ρ, h0, f, δ', h', s, R, q, k⟩ => by
  unfold sRet at q
  obtain ⟨⟨d1, h1⟩, e1, q⟩ := Option.bind_eq_some_iff.mp q
  cases q
  exact ⟨δ, ρ, h0, d1, h1, s, R, e1, k⟩
theorem S_retN : PS X (.Return none pos) (LS (X.kt τ) W sRetN) := ps_retN.imp fun Z σ H ⟨δ, ρ, h0, f, δ', h', s, R, q, k⟩ => by
  cases q
  exact k .non H ρ Ext.refl R (by simp [DV])
theorem S_expr (h : PE X e (LE (X.kt τ) me)) (hs : swapsWith e none pos.line X.env = pure false := by rfl) : PS X (.Expr e pos) (LS (X.kt τ) W (sDrop me)) := (ps_expr h hs).imp fun Z σ H ⟨δ, ρ, h0, f, δ', h', s, R, q, k⟩ => by
  unfold sDrop at q
  obtain ⟨⟨d1, h1⟩, e1, q⟩ := Option.bind_eq_some_iff.mp q
  cases q
  exact ⟨δ, ρ, h0, d1, h1, s, R, e1, fun v H' ρ' x R' _ => k σ H' ρ' x R' (s.mono x)⟩
theorem S_if (hc : PT X c (LT (X.kt τ) tc)) (ha : PSs X sa (LS (X.kt τ) W ms)) (hb : PSs X sb (LS (X.kt τ) W mt)) : PS X (.If c sa sb pos) (LS (X.kt τ) W (sIf tc ms mt)) := (ps_if hc ha hb).imp fun Z σ H ⟨δ, ρ, h0, f, δ', h', s, R, q, k⟩ => by
  unfold sIf at q
  obtain ⟨⟨b1, h1⟩, e1, q⟩ := Option.bind_eq_some_iff.mp q
  refine ⟨δ, ρ, h0, b1, h1, s, R, e1, fun H1 ρ1 x1 R1 => ?_⟩
  cases b1 with
  | true => exact iteT ⟨δ, ρ1, h1, f, δ', h', s.mono x1, R1, q, k.mono x1⟩
  | false => exact iteF ⟨δ, ρ1, h1, f, δ', h', s.mono x1, R1, q, k.mono x1⟩
theorem S_pass : PS X (.Pass pos) (LS (X.kt τ) W sNil) := ps_pass.imp fun Z σ H ⟨δ, ρ, h0, f, δ', h', s, R, q, k⟩ => by
  cases q
  exact k σ H ρ Ext.refl R s
theorem S_break : PS X (.Break pos) (LS (X.kt τ) W sBrk) := ps_break.imp fun Z σ H ⟨δ, ρ, h0, f, δ', h', s, R, q, k⟩ => by
  cases q
  exact k σ H ρ Ext.refl R s
theorem S_continue : PS X (.Continue pos) (LS (X.kt τ) W sCt) := ps_continue.imp fun Z σ H ⟨δ, ρ, h0, f, δ', h', s, R, q, k⟩ => by
  cases q
  exact k σ H ρ Ext.refl R s
end

/-! ### targets -/
abbrev MG := D → Lo → Hm → Option (Lo × Hm)
abbrev MGs := List D → Lo → Hm → Option (Lo × Hm)
/-- only the slots of vs may differ -/
def Out (vs : List Nat) (σ σ' : L2.St) : Prop := σ'.length = σ.length ∧ ∀ i, i ∉ vs → σ'[i]? = σ[i]?
def LG (K : Kx) (vs : List Nat) (g : MG) : TG := fun v σ H Q => ∃ d δ ρ h δ' h', DV K H ρ d v ∧ SV K H ρ δ σ ∧ Rp K H ρ h ∧ g d δ h = some (δ', h') ∧ ∀ σ' H' ρ', Ext K H ρ H' ρ' → Rp K H' ρ' h' → SV K H' ρ' δ' σ' → Out vs σ σ' → Q σ' H'
def LGs (K : Kx) (ws : List Nat) (g : MGs) : TGs := fun vs σ H Q => ∃ ds δ ρ h δ' h', DVs K H ρ ds vs ∧ SV K H ρ δ σ ∧ Rp K H ρ h ∧ g ds δ h = some (δ', h') ∧ ∀ σ' H' ρ', Ext K H ρ H' ρ' → Rp K H' ρ' h' → SV K H' ρ' δ' σ' → Out ws σ σ' → Q σ' H'
theorem Out.refl {vs : List Nat} {σ : L2.St} : Out vs σ σ := ⟨rfl, fun _ _ => rfl⟩
theorem Out.set {i : Nat} {σ : L2.St} {v : Option V} : Out [i] σ (σ.set i v) := ⟨by simp, fun j h => by
  rw [List.getElem?_set_ne]
  intro z
  exact h (by simp [z])⟩
theorem Out.trans {vs ws : List Nat} {σ σ1 σ2 : L2.St} (a : Out vs σ σ1) (b : Out ws σ1 σ2) : Out (vs ++ ws) σ σ2 := ⟨b.1.trans a.1, fun i h => by
  rw [List.mem_append, not_or] at h
  exact (b.2 i h.2).trans (a.2 i h.1)⟩
def gN (i : Nat) : MG := fun d δ h => some (δ.set i (some d), h)
def gNilM : MGs := fun ds δ h => match ds with
  | [] => some (δ, h)
  | _ => none
def gConsM (g : MG) (r : MGs) : MGs := fun ds δ h => match ds with
  | d :: ds => (g d δ h).bind fun p => r ds p.1 p.2
  | [] => none
def gTupM (n : Nat) (r : MGs) : MG := fun d δ h => match d with
  | .tup ds => if ds.length = n then r ds δ h else none
  | _ => none
section
variable {X : Cx} {τ : Tb} {e tg : Expr} {es : List Expr} {pos : Pos} {g : MG} {gs : MGs} {me : ME} {vs ws : List Nat} {W : WX}
theorem _root_.L2.PG.imp {X : Cx} {tg : Expr} {t t' : TG} (h : PG X tg t) (i : ∀ v σ H Q, t' v σ H Q → t v σ H Q) : PG X tg t' := ⟨fun pins s σ H v u Q I r q => h.run pins s σ H v u Q I r (i v σ H Q q)⟩
theorem _root_.L2.PGs.imp {X : Cx} {ts : List Expr} {t t' : TGs} (h : PGs X ts t) (i : ∀ v σ H Q, t' v σ H Q → t v σ H Q) : PGs X ts t' := ⟨fun pins s σ H v u Q I r q => h.run pins s σ H v u Q I r (i v σ H Q q)⟩
theorem G_name {i : Nat} {x : Str} (hN : X.N.Nodup) (hi : X.N[i]? = some x) (hx : Loc X.env.scope x) (hf : X.fn x = true ∨ X.env.scope.names.lookup x = some .local := by first | exact .inl rfl | exact .inr rfl | assumption) : PG X (.Name x pos) (LG (X.kt τ) [i] (gN i)) :=
  (pg_name hN hi hx hf).imp fun v σ H Q ⟨d, δ, ρ, h, δ', h', dv, s, R, q, k⟩ => by
    cases q
    exact k _ H ρ Ext.refl R (s.set dv) Out.set
theorem Gs_nil : PGs X [] (LGs (X.kt τ) [] gNilM) := pgs_nil.imp fun vs σ H Q ⟨ds, δ, ρ, h, δ', h', dv, s, R, q, k⟩ => by
  unfold gNilM at q
  split at q
  · cases q
    simp only [DVs] at dv
    exact ⟨dv, k σ H ρ Ext.refl R s Out.refl⟩
  · cases q
theorem Gs_cons (hg1 : PG X e (LG (X.kt τ) vs g)) (hg2 : PGs X es (LGs (X.kt τ) ws gs)) (hs : (assignEach (e :: es) X.env).map (·.2) = assign e X.env :: (assignEach es X.env).map (·.2) := by rfl) : PGs X (e :: es) (LGs (X.kt τ) (vs ++ ws) (gConsM g gs)) :=
  (pgs_cons hg1 hg2 hs).imp fun us σ H Q ⟨ds, δ, ρ, h, δ', h', dv, s, R, q, k⟩ => by
    unfold gConsM at q
    cases ds with
    | cons d ds =>
      obtain ⟨⟨δ1, h1⟩, e1, q⟩ := Option.bind_eq_some_iff.mp q
      simp only [DVs] at dv
      obtain ⟨v, r, rfl, w1, w2⟩ := dv
      refine ⟨v, r, rfl, d, δ, ρ, h, δ1, h1, w1, s, R, e1, fun σ1 H1 ρ1 x1 R1 s1 o1 => ?_⟩
      exact ⟨ds, δ1, ρ1, h1, δ', h', w2.mono x1, s1, R1, q, fun σ2 H2 ρ2 x2 R2 s2 o2 => k σ2 H2 ρ2 (x1.trans x2) R2 s2 (o1.trans o2)⟩
    | nil => simp at q
theorem G_tup {k0 : Nat} {n : Nat} (hc : X.calm = true) (h : PGs X es (LGs (X.kt τ) ws gs)) (hn : (assignEach es X.env).length = n := by rfl) (hst : (assignEach es X.env).findIdx? (·.1) = none := by rfl) : PG X (.Tuple es k0 pos) (LG (X.kt τ) ws (gTupM n gs)) :=
  (pg_tup hc h hn hst).imp fun v σ H Q ⟨d, δ, ρ, h, δ', h', dv, s, R, q, k⟩ => by
    unfold gTupM at q
    split at q
    · rename_i ds
      split at q
      · rename_i hl
        obtain ⟨a, xs, rfl, sq, w⟩ := dv.tupI
        exact ⟨a, xs, rfl, SqT.of sq, by rw [← w.length]; exact hl, ds, δ, ρ, h, δ', h', w, s, R, q, k⟩
      · cases q
    · cases q
def sAsg (m : ME) (g : MG) : MS := fun δ h => (m δ h).bind fun p => (g p.1 δ p.2).bind fun q => some (.nx, q.1, q.2)
theorem LS.asg {K : Kx} {W : WX} {Z : Ends} {σ : L2.St} {H : Hp} (h : LS K W (sAsg me g) Z σ H) : tAsg (LE K me) (LG K vs g) Z σ H := by
  obtain ⟨δ, ρ, h0, f, δ', h', s, R, q, k⟩ := h
  unfold sAsg at q
  obtain ⟨⟨d1, h1⟩, e1, q⟩ := Option.bind_eq_some_iff.mp q
  obtain ⟨⟨δ2, h2⟩, e2, q⟩ := Option.bind_eq_some_iff.mp q
  cases q
  refine ⟨δ, ρ, h0, d1, h1, s, R, e1, fun v H1 ρ1 x1 R1 v1 => ?_⟩
  exact ⟨d1, δ, ρ1, h1, δ2, h2, v1, s.mono x1, R1, e2, fun σ2 H2 ρ2 x2 R2 s2 _ => k σ2 H2 ρ2 (x1.trans x2) R2 s2⟩
theorem S_asg (he : PE X e (LE (X.kt τ) me)) (hg : PG X tg (LG (X.kt τ) vs g)) (hs : swapsWithSole [tg] e pos.line X.env = pure false := by rfl) (hw : swappedStores [tg] e X.env = pure none := by rfl)
    (h1 : (assignEach [tg] X.env).map (·.2) = [assign tg X.env] := by rfl) : PS X (.Assign [tg] e pos) (LS (X.kt τ) W (sAsg me g)) := (ps_asg he hg hs hw h1).imp fun _ _ _ h => h.asg
def sSet (i : Nat) (m : ME) : MS := fun δ h => (m δ h).bind fun p => some (.nx, δ.set i (some p.1), p.2)
theorem S_set {i : Nat} {x : Str} {pos' : Pos} (hN : X.N.Nodup) (hi : X.N[i]? = some x) (hx : Loc X.env.scope x) (he : PE X e (LE (X.kt τ) me)) (hs : swapsWith e (some (.Name x pos')) pos.line X.env = pure false := by rfl) (hf : X.fn x = true ∨ X.env.scope.names.lookup x = some .local := by first | exact .inl rfl | exact .inr rfl | assumption) :
    PS X (.Assign [.Name x pos'] e pos) (LS (X.kt τ) W (sSet i me)) := (ps_set hN hi hx he hs hf).imp fun Z σ H ⟨δ, ρ, h0, f, δ', h', s, R, q, k⟩ => by
  unfold sSet at q
  obtain ⟨⟨d1, h1⟩, e1, q⟩ := Option.bind_eq_some_iff.mp q
  cases q
  exact ⟨δ, ρ, h0, d1, h1, s, R, e1, fun v H1 ρ1 x1 R1 v1 => k _ H1 ρ1 x1 R1 ((s.mono x1).set v1)⟩
def sPar (i j : Nat) (m : MA) : MS := fun δ h => (m δ h).bind fun p => match p.1 with
  | [a, b] => some (.nx, (δ.set i (some a)).set j (some b), p.2)
  | _ => none
theorem S_par {mr : MA} {i j : Nat} {x y : Str} {a b : Expr} {px py pt : Pos} {kt k2 pt2} (hc : X.calm = true) (hN : X.N.Nodup) (hi : X.N[i]? = some x) (hj : X.N[j]? = some y) (hij : i ≠ j)
    (hx : X.env.scope.names.lookup x = some .local) (hy : X.env.scope.names.lookup y = some .local) (ha : PA X [a, b] (LA (X.kt τ) mr))
    (hw : swappedStores [.Tuple [.Name x px, .Name y py] kt pt] (.Tuple [a, b] k2 pt2) X.env = pure (some [x, y]))
    (hs : swapsWithSole [.Tuple [.Name x px, .Name y py] kt pt] (.Tuple [a, b] k2 pt2) pos.line X.env = pure false := by rfl) :
    PS X (.Assign [.Tuple [.Name x px, .Name y py] kt pt] (.Tuple [a, b] k2 pt2) pos) (LS (X.kt τ) W (sPar i j mr)) := (ps_par hc hN hi hj hij hx hy ha hw hs).imp fun Z σ H ⟨δ, ρ, h0, f, δ', h', s, R, q, k⟩ => by
  unfold sPar at q
  obtain ⟨⟨ds, h1⟩, e1, q⟩ := Option.bind_eq_some_iff.mp q
  simp only at q
  split at q
  · rename_i d1 d2
    cases q
    refine ⟨δ, ρ, h0, _, _, s, R, e1, fun vs H1 ρ1 x1 R1 v1 => ?_⟩
    simp only [DVs] at v1
    obtain ⟨v, r, rfl, w1, u, r2, rfl, w2, rfl⟩ := v1
    exact ⟨v, u, rfl, k _ H1 ρ1 x1 R1 (((s.mono x1).set w1).set w2)⟩
  · cases q
/-- xs[i] = v -/
def setAt (h : Hm) (o i v : D) : Option Hm := match o, i with
  | .ref r, .int k => match getL h r with
    | some xs => match ixN xs.length k with
      | some j => some (h.set r (.lst (xs.set j v)))
      | none => none
    | none => none
  | _, _ => none
def gSubM (mo mi : ME) : MG := fun v δ h => (mo δ h).bind fun p => (mi δ p.2).bind fun q => (setAt q.2 p.1 q.1 v).map fun h' => (δ, h')
theorem set_lst {K : Kx} {H : Hp} {ρ : List Addr} {h : Hm} {r : Nat} {xs ds' : List D} {a : Addr} {vs' : List V} (R : Rp K H ρ h) (e : getL h r = some xs) (ha : ρ[r]? = some a) (w : DVs K H ρ ds' vs') :
    Ext K H ρ (upd H a (.lst vs')) ρ ∧ Rp K (upd H a (.lst vs')) ρ (h.set r (.lst ds')) := by
  have hm : Mut (H a) := by
    obtain ⟨vs, h1, _⟩ := R.lst e ha
    rw [h1]
    trivial
  exact R.set (getL_at e) ha ⟨vs', upd_same, DVs.mono (Ext.mut hm ha) _ _ w⟩
theorem G_sub {o i : Expr} {mo mi : ME} (ho : PE X o (LE (X.kt τ) mo)) (hi : PE X i (LE (X.kt τ) mi)) (ha : ∀ v, assign (.Subscript o i pos) X.env v = (do
      let ov ← holding [v] (eval o X.env)
      let iv ← holding [v, ov] (eval i X.env)
      standAt pos
      holding [v, ov, iv] (setItem ov iv v)
      release [v, ov, iv] []) := by intro _; rfl) : PG X (.Subscript o i pos) (LG (X.kt τ) [] (gSubM mo mi)) := (pg_sub ho hi set_list ha).imp fun v σ H Q ⟨d, δ, ρ, h, δ', h', dv, s, R, q, k⟩ => by
  unfold gSubM at q
  obtain ⟨⟨d1, h1⟩, e1, q⟩ := Option.bind_eq_some_iff.mp q
  obtain ⟨⟨d2, h2⟩, e2, q⟩ := Option.bind_eq_some_iff.mp q
  obtain ⟨h3, e3, q⟩ := Option.map_eq_some_iff.mp q
  cases q
  refine ⟨δ, ρ, h, d1, h1, s, R, e1, fun ov H1 ρ1 x1 R1 v1 => ?_⟩
  refine ⟨δ, ρ1, h1, d2, h2, s.mono x1, R1, e2, fun iv H2 ρ2 x2 R2 v2 => ?_⟩
  cases d1 with
  | ref r =>
    cases d2 with
    | int kk =>
      unfold setAt at e3
      simp only at e3
      split at e3
      · rename_i xs ex
        split at e3
        · rename_i j ej
          cases e3
          obtain ⟨a, ra, rfl⟩ := (DV.mono x2 _ _ v1).refI
          simp only [DV] at v2
          obtain ⟨vs, hv, w⟩ := R2.lst ex ra
          obtain ⟨x3, R3⟩ := set_lst R2 ex ra (w.set (DV.mono x2 _ _ (DV.mono x1 _ _ dv)) j)
          have x := (x1.trans x2).trans x3
          exact ⟨a, vs, kk, j, rfl, v2, hv, by rw [← w.length]; exact ej, k _ _ _ x R3 (s.mono x) Out.refl⟩
        · cases e3
      · cases e3
    | _ => simp [setAt] at e3
  | _ => simp [setAt] at e3
end
end DL
set_option Elab.async false
set_option linter.all false
set_option maxRecDepth 100000
/-! DL.Loop: what is walked, for, while, comprehensions. -/
namespace DL
open PySem PySem.Spec PyProof.Rows L2
open Classical

structure Src where
  items : List D
  guard : Hm → Prop
abbrev MI := Lo → Hm → Option (Src × Hm)
def ItOk (K : Kx) (H0 : Hp) (ρ0 : List Addr) (J : It) (S : Src) : Prop :=
  ∀ (k : Nat) (H : Hp) (ρ : List Addr) (h : Hm), Ext K H0 ρ0 H ρ → Rp K H ρ h → S.guard h →
    (∀ d, S.items[k]? = some d → J.go k H ∧ ∀ x H', J.yld k H x H' → ∃ ρ', Ext K H ρ H' ρ' ∧ Rp K H' ρ' h ∧ DV K H' ρ' d x) ∧ (k = S.items.length → J.stop k H)
def LI (K : Kx) (mi : MI) : TI := fun σ H R => ∃ δ ρ h S h', SV K H ρ δ σ ∧ Rp K H ρ h ∧ mi δ h = some (S, h') ∧ ∀ J H' ρ', Ext K H ρ H' ρ' → Rp K H' ρ' h' → ItOk K H' ρ' J S → R J H'

noncomputable section
def forGo (gd : Hm → Prop) (g : MG) (b : MS) : List D → Lo → Hm → Option (Fl × Lo × Hm)
  | [], δ, h => if gd h then some (.nx, δ, h) else none
  | d :: ds, δ, h => if gd h then (g d δ h).bind fun p => (b p.1 p.2).bind fun q => match q.1 with
      | .nx => forGo gd g b ds q.2.1 q.2.2
      | .ct => forGo gd g b ds q.2.1 q.2.2
      | .brk => some (.nx, q.2)
      | .rt d => some (.rt d, q.2)
      | .ex c fs => some (.ex c fs, q.2)
    else none
def sFor (mi : MI) (g : MG) (b : MS) : MS := fun δ h => (mi δ h).bind fun p => forGo p.1.guard g b p.1.items δ p.2
def whileGo (c : MT) (b : MS) : Nat → Lo → Hm → Option (Fl × Lo × Hm)
  | 0, _, _ => none
  | n + 1, δ, h => (c δ h).bind fun p => if p.1 then (b δ p.2).bind fun q => match q.1 with
      | .nx => whileGo c b n q.2.1 q.2.2
      | .ct => whileGo c b n q.2.1 q.2.2
      | .brk => some (.nx, q.2)
      | .rt d => some (.rt d, q.2)
      | .ex c fs => some (.ex c fs, q.2)
    else some (.nx, δ, p.2)
def sWhile (n : Nat) (c : MT) (b : MS) : MS := whileGo c b n
def wipeL (δ : Lo) : List Nat → Lo
  | [] => δ
  | v :: vs => (wipeL δ vs).set v none
def compGo (gd : Hm → Prop) (g : MG) (t : MT) (e : ME) (ix : Nat) (δ : Lo) : List D → Hm → Option Hm
  | [], h => if gd h then some h else none
  | d :: ds, h => if gd h then (g d δ h).bind fun p => (t p.1 p.2).bind fun q =>
      if q.1 then (e p.1 q.2).bind fun y => match getL y.2 ix with
        | some acc => if acc.length < sizeLine then compGo gd g t e ix δ ds (y.2.set ix (.lst (acc ++ [y.1]))) else none
        | none => none
      else compGo gd g t e ix δ ds q.2
    else none
def mComp (mi : MI) (g : MG) (t : MT) (e : ME) (vs : List Nat) : ME := fun δ h => (mi δ h).bind fun p =>
  (compGo p.1.guard g t e p.2.length (wipeL δ vs) p.1.items (p.2 ++ [.lst []])).map fun h' => (.ref p.2.length, h')
def tYesM : MT := fun _ h => some (true, h)

theorem SV.wipe {K : Kx} {H : Hp} {ρ : List Addr} {δ : Lo} {σ : L2.St} (s : SV K H ρ δ σ) : ∀ vs : List Nat, SV K H ρ (wipeL δ vs) (wipe σ vs)
  | [] => s
  | v :: vs => by
    have r := SV.wipe s vs
    refine ⟨by simp [wipeL, L2.wipe, r.1], fun i d h => ?_⟩
    unfold wipeL at h
    by_cases hi : i = v
    · subst hi
      have hl : i < (wipeL δ vs).length := by
        have := (List.getElem?_eq_some_iff.mp h).1
        simpa using this
      rw [List.getElem?_set_self hl] at h
      cases h
    · rw [List.getElem?_set_ne (Ne.symm hi)] at h
      obtain ⟨u, h1, h2⟩ := r.2 i d h
      exact ⟨u, by unfold L2.wipe; rw [List.getElem?_set_ne (Ne.symm hi)]; exact h1, h2⟩
theorem wipe_in {σ : L2.St} {i : Nat} : ∀ {vs : List Nat}, i ∈ vs → i < σ.length → (wipe σ vs)[i]? = some none
  | [], h, _ => by cases h
  | v :: vs, h, hl => by
    unfold wipe
    by_cases hi : v = i
    · subst hi
      rw [List.getElem?_set_self (by rw [wipe_length]; exact hl)]
    · rw [List.getElem?_set_ne hi]
      refine wipe_in ?_ hl
      rcases List.mem_cons.mp h with z | z
      · exact absurd z.symm hi
      · exact z
theorem wipe_eq {σ σ' : L2.St} {vs ws : List Nat} (o : Out ws (wipe σ vs) σ') (hs : ∀ i ∈ ws, i ∈ vs) : wipe σ' vs = wipe σ vs := by
  refine List.ext_getElem? fun i => ?_
  by_cases hi : i ∈ vs
  · by_cases hl : i < σ.length
    · rw [wipe_in hi (by rw [o.1, wipe_length]; exact hl), wipe_in hi hl]
    · rw [List.getElem?_eq_none (by rw [wipe_length, o.1, wipe_length]; omega), List.getElem?_eq_none (by rw [wipe_length]; omega)]
  · rw [wipe_out hi, o.2 i (fun z => hi (hs i z))]

section
variable {X : Cx} {τ : Tb} {tg iter e elt c : Expr} {body : List Stmt} {mi : MI} {g : MG} {b : MS} {me ml : ME} {t : MT} {pos : Pos} {vs ws : List Nat} {W : WX}
theorem _root_.L2.PI.imp {X : Cx} {tg iter : Expr} {w w' : TI} (h : PI X tg iter w) (i : ∀ σ H R, w' σ H R → w σ H R) : PI X tg iter w' := ⟨fun pins s σ H R I q => h.run pins s σ H R I (i σ H R q)⟩
theorem _root_.L2.PI.or {X : Cx} {tg iter : Expr} {w w' : TI} (h : PI X tg iter w) (h' : PI X tg iter w') : PI X tg iter (fun σ H R => w σ H R ∨ w' σ H R) := ⟨fun pins s σ H R I q => q.elim (h.run pins s σ H R I) (h'.run pins s σ H R I)⟩

theorem itOk_list {K : Kx} {H0 : Hp} {ρ0 : List Addr} {i : Nat} {a : Addr} {ds : List D} (ha : ρ0[i]? = some a) : ItOk K H0 ρ0 (Itl K.K a) ⟨ds, fun h => getL h i = some ds⟩ := by
  intro k H ρ h x R hg
  obtain ⟨xs, s, w⟩ := R.rd hg (x.get ha)
  refine ⟨fun d hd => ?_, fun hk => ⟨xs, s, by rw [← w.length, hk]; exact Nat.le_refl _⟩⟩
  obtain ⟨v, hv, dv⟩ := w.get hd
  refine ⟨⟨xs, v, s, hv⟩, fun y H' ⟨e, hy⟩ => ?_⟩
  subst e
  have := hy xs s
  rw [hv] at this
  cases this
  exact ⟨ρ, Ext.refl, R, dv⟩
theorem itOk_tup {K : Kx} {H0 : Hp} {ρ0 : List Addr} {a : Addr} {ds : List D} {xs : List V} (s0 : H0 a = some (.tup xs)) (w0 : DVs K H0 ρ0 ds xs) : ItOk K H0 ρ0 (Itt K.K a) ⟨ds, fun _ => True⟩ := by
  intro k H ρ h x R hg
  have s := SqT.of (K := K.K) (x.tups _ _ s0)
  have w := w0.mono x
  refine ⟨fun d hd => ?_, fun hk => ⟨xs, s, by rw [← w.length, hk]; exact Nat.le_refl _⟩⟩
  obtain ⟨v, hv, dv⟩ := w.get hd
  refine ⟨⟨xs, v, s, hv⟩, fun y H' ⟨e, hy⟩ => ?_⟩
  subst e
  have := hy xs s
  rw [hv] at this
  cases this
  exact ⟨ρ, Ext.refl, R, dv⟩
theorem itOk_rol {K : Kx} {H0 : Hp} {ρ0 : List Addr} {a : Addr} {ds : List D} {xs : List V} (s0 : RoL K H0 a xs) (w0 : DVs K H0 ρ0 ds xs) : ItOk K H0 ρ0 (Itl K.K a) ⟨ds, fun _ => True⟩ := by
  intro k H ρ h x R hg
  have s := (x.rols _ _ s0).sq
  have w := w0.mono x
  refine ⟨fun d hd => ?_, fun hk => ⟨xs, s, by rw [← w.length, hk]; exact Nat.le_refl _⟩⟩
  obtain ⟨v, hv, dv⟩ := w.get hd
  refine ⟨⟨xs, v, s, hv⟩, fun y H' ⟨e, hy⟩ => ?_⟩
  subst e
  have := hy xs s
  rw [hv] at this
  cases this
  exact ⟨ρ, Ext.refl, R, dv⟩
def rngD (lo : Int) (n : Nat) : List D := (List.range n).map fun k => .int (lo + (k : Nat))
theorem itOk_rng {K : Kx} {H0 : Hp} {ρ0 : List Addr} {lo : Int} {n : Nat} : ItOk K H0 ρ0 (Itr lo n) ⟨rngD lo n, fun _ => True⟩ := by
  intro k H ρ h x R hg
  refine ⟨fun d hd => ?_, fun hk => by
    have : k = n := by simpa [rngD] using hk
    subst this
    exact Nat.le_refl _⟩
  have hk : k < n := by
    have := (List.getElem?_eq_some_iff.mp hd).1
    simpa [rngD] using this
  refine ⟨hk, fun y H' ⟨e1, e2⟩ => ?_⟩
  subst e1 e2
  refine ⟨ρ, Ext.refl, R, ?_⟩
  simp only [rngD, List.getElem?_map, List.getElem?_range hk, Option.map_some, Option.some.injEq] at hd
  subst hd
  simp [DV]
/-- a list or a tuple -/
def iSeq (m : ME) : MI := fun δ h => (m δ h).bind fun p => match p.1 with
  | .ref i => (getL p.2 i).map fun ds => (⟨ds, fun h => getL h i = some ds⟩, p.2)
  | .tup ds => some (⟨ds, fun _ => True⟩, p.2)
  | .rol ds => some (⟨ds, fun _ => True⟩, p.2)
  | _ => none
theorem I_seq (hl : PE X e (LE (X.kt τ) ml)) : PI X tg e (LI (X.kt τ) (iSeq ml)) := by
  refine ((pi_list hl).or (pi_tup hl)).imp fun σ H R ⟨δ, ρ, h, S, h', s, R0, q, k⟩ => ?_
  unfold iSeq at q
  obtain ⟨⟨d1, h1⟩, e1, q⟩ := Option.bind_eq_some_iff.mp q
  cases d1 with
  | ref i =>
    obtain ⟨ds, e2, q⟩ := Option.map_eq_some_iff.mp q
    cases q
    refine .inl ⟨δ, ρ, h, _, _, s, R0, e1, fun v H1 ρ1 x1 R1 v1 => ?_⟩
    obtain ⟨a, ra, rfl⟩ := v1.refI
    obtain ⟨xs, sx, w⟩ := R1.rd e2 ra
    exact ⟨a, rfl, ⟨xs, sx⟩, k _ H1 ρ1 x1 R1 (itOk_list ra)⟩
  | tup ds =>
    cases q
    refine .inr ⟨δ, ρ, h, _, _, s, R0, e1, fun v H1 ρ1 x1 R1 v1 => ?_⟩
    obtain ⟨a, xs, rfl, sx, w⟩ := v1.tupI
    exact ⟨a, rfl, ⟨xs, SqT.of sx⟩, k _ H1 ρ1 x1 R1 (itOk_tup sx w)⟩
  | rol ds =>
    cases q
    refine .inl ⟨δ, ρ, h, _, _, s, R0, e1, fun v H1 ρ1 x1 R1 v1 => ?_⟩
    simp only [DV] at v1
    obtain ⟨a, xs, rfl, sx, w⟩ := v1
    exact ⟨a, rfl, ⟨xs, sx.sq⟩, k _ H1 ρ1 x1 R1 (itOk_rol sx w)⟩
  | _ => simp at q
def iRng1 (m : ME) : MI := fun δ h => (m δ h).bind fun p => match p.1 with
  | .int n => if -(2 ^ 62) ≤ n ∧ n < 2 ^ 62 then some (⟨rngD 0 n.toNat, fun _ => True⟩, p.2) else none
  | _ => none
def iRng2 (a b : ME) : MI := fun δ h => (a δ h).bind fun p => (b δ p.2).bind fun q => match p.1, q.1 with
  | .int i, .int j => if (-(2 ^ 62) ≤ i ∧ i < 2 ^ 62) ∧ -(2 ^ 62) ≤ j ∧ j < 2 ^ 62 then some (⟨rngD i (j - i).toNat, fun _ => True⟩, q.2) else none
  | _, _ => none

theorem S_for (hp : PassesOwn (model X.prog X.w) X.A X.env X.xe) (hc : X.calm = true) (hi : PI X tg iter (LI (X.kt τ) mi)) (hg : PG X tg (LG (X.kt τ) ws g)) (hb : PSs X body (LS (X.kt τ) W b))
    (hs : ∀ x, foldedSetIterable iter X.env x = pure x := by intro _; rfl) : PS X (.For tg iter body [] pos) (LS (X.kt τ) W (sFor mi g b)) := by
  refine (ps_for hp hc hi hg hb hs).imp fun Z σ H ⟨δ, ρ, h, f, δ', h', s, R, q, k⟩ => ?_
  unfold sFor at q
  obtain ⟨⟨S, h1⟩, e1, q⟩ := Option.bind_eq_some_iff.mp q
  simp only at q
  refine ⟨δ, ρ, h, S, h1, s, R, e1, fun J H1 ρ1 x1 R1 ok => ?_⟩
  refine ⟨fun i m σ H => ∃ δi ρi hi, m = S.items.length - i ∧ i ≤ S.items.length ∧ SV (X.kt τ) H ρi δi σ ∧ Rp (X.kt τ) H ρi hi ∧ Ext (X.kt τ) H1 ρ1 H ρi ∧ forGo S.guard g b (S.items.drop i) δi hi = some (f, δ', h'),
    ⟨S.items.length, δ, ρ1, h1, by simp, Nat.zero_le _, s.mono x1, R1, Ext.refl, by simpa using q⟩, ?_⟩
  rintro i m σ2 H2 ⟨δi, ρi, hi, rfl, hle, s2, R2, x2, q2⟩
  by_cases hlt : i < S.items.length
  · have ed : S.items.drop i = S.items[i] :: S.items.drop (i + 1) := List.drop_eq_getElem_cons hlt
    rw [ed, forGo] at q2
    split at q2
    · rename_i hgd
      obtain ⟨⟨δ3, h3⟩, e3, q2⟩ := Option.bind_eq_some_iff.mp q2
      obtain ⟨⟨f4, δ4, h4⟩, e4, q2⟩ := Option.bind_eq_some_iff.mp q2
      obtain ⟨go, yl⟩ := (ok i H2 ρi hi x2 R2 hgd).1 _ (List.getElem?_eq_getElem hlt)
      refine .inr ⟨go, fun σ' H' => ∃ m', m' < S.items.length - i ∧ ∃ δi ρi hi, m' = S.items.length - (i + 1) ∧ i + 1 ≤ S.items.length ∧ SV (X.kt τ) H' ρi δi σ' ∧ Rp (X.kt τ) H' ρi hi ∧ Ext (X.kt τ) H1 ρ1 H' ρi ∧ forGo S.guard g b (S.items.drop (i + 1)) δi hi = some (f, δ', h'),
        fun σ' H' n => n, fun x H3 hy => ?_⟩
      obtain ⟨ρ3, x3, R3, dv⟩ := yl x H3 hy
      refine ⟨_, δi, ρ3, hi, δ3, h3, dv, s2.mono x3, R3, e3, fun σ5 H5 ρ5 x5 R5 s5 _ => ?_⟩
      refine ⟨δ3, ρ5, h3, f4, δ4, h4, s5, R5, e4, ?_⟩
      have x15 : Ext (X.kt τ) H1 ρ1 H5 ρ5 := (x2.trans x3).trans x5
      cases f4 with
      | nx => exact fun σ6 H6 ρ6 x6 R6 s6 => ⟨_, by omega, δ4, ρ6, h4, rfl, hlt, s6, R6, x15.trans x6, q2⟩
      | ct => exact fun σ6 H6 ρ6 x6 R6 s6 => ⟨_, by omega, δ4, ρ6, h4, rfl, hlt, s6, R6, x15.trans x6, q2⟩
      | brk =>
        cases q2
        exact fun σ6 H6 ρ6 x6 R6 s6 => k σ6 H6 ρ6 (x1.trans (x15.trans x6)) R6 s6
      | rt d =>
        cases q2
        exact fun v H6 ρ6 x6 R6 s6 => k v H6 ρ6 (x1.trans (x15.trans x6)) R6 s6
      | ex c fs =>
        cases q2
        exact fun σ6 H6 ρ6 cls dd x6 R6 s6 => k σ6 H6 ρ6 cls dd (x1.trans (x15.trans x6)) R6 s6
    · cases q2
  · have hi0 : i = S.items.length := by omega
    rw [List.drop_eq_nil_of_le (by omega), forGo] at q2
    split at q2
    · rename_i hgd
      cases q2
      exact .inl ⟨(ok i H2 ρi _ x2 R2 hgd).2 hi0, k σ2 H2 ρi (x1.trans x2) R2 s2⟩
    · cases q2

theorem S_while {n : Nat} (hp : PassesOwn (model X.prog X.w) X.A X.env X.xe) (hc : PT X c (LT (X.kt τ) t)) (hb : PSs X body (LS (X.kt τ) W b)) : PS X (.While c body [] pos) (LS (X.kt τ) W (sWhile n t b)) := by
  refine (ps_while hp hc hb).imp fun Z σ H ⟨δ, ρ, h, f, δ', h', s, R, q, k⟩ => ?_
  unfold sWhile at q
  refine ⟨fun m σ2 H2 => ∃ δi ρi hi, SV (X.kt τ) H2 ρi δi σ2 ∧ Rp (X.kt τ) H2 ρi hi ∧ Ext (X.kt τ) H ρ H2 ρi ∧ whileGo t b m δi hi = some (f, δ', h'), ⟨n, δ, ρ, h, s, R, Ext.refl, q⟩, ?_⟩
  rintro m σ2 H2 ⟨δi, ρi, hi, s2, R2, x2, q2⟩
  cases m with
  | zero => cases q2
  | succ m =>
    rw [whileGo] at q2
    obtain ⟨⟨b1, h3⟩, e3, q2⟩ := Option.bind_eq_some_iff.mp q2
    refine ⟨δi, ρi, hi, b1, h3, s2, R2, e3, fun H3 ρ3 x3 R3 => ?_⟩
    cases b1 with
    | true =>
      simp only [if_true] at q2
      obtain ⟨⟨f4, δ4, h4⟩, e4, q2⟩ := Option.bind_eq_some_iff.mp q2
      refine iteT ⟨fun σ' H' => ∃ m', m' < m + 1 ∧ ∃ δi ρi hi, SV (X.kt τ) H' ρi δi σ' ∧ Rp (X.kt τ) H' ρi hi ∧ Ext (X.kt τ) H ρ H' ρi ∧ whileGo t b m' δi hi = some (f, δ', h'), fun _ _ n => n, ?_⟩
      refine ⟨δi, ρ3, h3, f4, δ4, h4, s2.mono x3, R3, e4, ?_⟩
      have x13 := x2.trans x3
      cases f4 with
      | nx => exact fun σ6 H6 ρ6 x6 R6 s6 => ⟨m, by omega, δ4, ρ6, h4, s6, R6, x13.trans x6, q2⟩
      | ct => exact fun σ6 H6 ρ6 x6 R6 s6 => ⟨m, by omega, δ4, ρ6, h4, s6, R6, x13.trans x6, q2⟩
      | brk =>
        cases q2
        exact fun σ6 H6 ρ6 x6 R6 s6 => k σ6 H6 ρ6 (x13.trans x6) R6 s6
      | rt d =>
        cases q2
        exact fun v H6 ρ6 x6 R6 s6 => k v H6 ρ6 (x13.trans x6) R6 s6
      | ex c fs =>
        cases q2
        exact fun σ6 H6 ρ6 cls dd x6 R6 s6 => k σ6 H6 ρ6 cls dd (x13.trans x6) R6 s6
    | false =>
      cases q2
      exact iteF (k σ2 H3 ρ3 (x2.trans x3) R3 (s2.mono x3))

/-! ### comprehensions -/
def LTs (K : Kx) (t : MT) : TT := LT K t
theorem Pts_nil : PTs X [] (LT (X.kt τ) tYesM) := by
  refine ⟨fun pins s σ H Q I ⟨δ, ρ, h, d, h', s0, R, q, k⟩ => ?_⟩
  cases q
  exact pts_nil.run pins s σ H Q I (k H ρ Ext.refl R)
theorem Pts_one (h : PT X c (LT (X.kt τ) t)) : PTs X [c] (LT (X.kt τ) t) := pts_one h
theorem LE.comp {K : Kx} {σ : L2.St} {H : Hp} {Q : VK} (hsub : ∀ i ∈ ws, i ∈ vs) (hq : LE K (mComp mi g t me vs) σ H Q) : tLc (LI K mi) (LG K ws g) (LT K t) (LE K me) vs σ H Q := by
  obtain ⟨δ, ρ, h, d, h', s, R, q, k⟩ := hq
  unfold mComp at q
  obtain ⟨⟨S, h1⟩, e1, q⟩ := Option.bind_eq_some_iff.mp q
  obtain ⟨h2, e2, q⟩ := Option.map_eq_some_iff.mp q
  cases q
  refine ⟨δ, ρ, h, S, h1, s, R, e1, fun J H1 ρ1 x1 R1 ok D hD => ?_⟩
  have x1' : Ext K H1 ρ1 (upd H1 D (.lst [])) (ρ1 ++ [D]) := Ext.new R1 hD
  have R1' : Rp K (upd H1 D (.lst [])) (ρ1 ++ [D]) (h1 ++ [.lst []]) := R1.new hD ⟨[], upd_same, DVs.nil⟩
  have rD0 : (ρ1 ++ [D])[h1.length]? = some D := R1.newRef
  refine ⟨fun i m H => ∃ ρi hi, m = S.items.length - i ∧ i ≤ S.items.length ∧ Rp K H ρi hi ∧ Ext K (upd H1 D (.lst [])) (ρ1 ++ [D]) H ρi ∧ compGo S.guard g t me h1.length (wipeL δ vs) (S.items.drop i) hi = some h',
    ⟨S.items.length, ρ1 ++ [D], h1 ++ [.lst []], by simp, Nat.zero_le _, R1', Ext.refl, by simpa using e2⟩, ?_⟩
  rintro i m H2 ⟨ρi, hi, rfl, hle, R2, x2, q2⟩
  have xx := x1'.trans x2
  have rD : ρi[h1.length]? = some D := x2.get rD0
  by_cases hlt : i < S.items.length
  · have ed : S.items.drop i = S.items[i] :: S.items.drop (i + 1) := List.drop_eq_getElem_cons hlt
    rw [ed, compGo] at q2
    split at q2
    · rename_i hgd
      obtain ⟨⟨δ3, h3⟩, e3, q2⟩ := Option.bind_eq_some_iff.mp q2
      obtain ⟨⟨b4, h4⟩, e4, q2⟩ := Option.bind_eq_some_iff.mp q2
      obtain ⟨go, yl⟩ := (ok i H2 ρi hi xx R2 hgd).1 _ (List.getElem?_eq_getElem hlt)
      refine .inr ⟨go, fun H' => ∃ m', m' < S.items.length - i ∧ ∃ ρi hi, m' = S.items.length - (i + 1) ∧ i + 1 ≤ S.items.length ∧ Rp K H' ρi hi ∧ Ext K (upd H1 D (.lst [])) (ρ1 ++ [D]) H' ρi ∧ compGo S.guard g t me h1.length (wipeL δ vs) (S.items.drop (i + 1)) hi = some h',
        fun H' n => n, fun x H3 hy => ?_⟩
      obtain ⟨ρ3, x3, R3, dv⟩ := yl x H3 hy
      have s3 : SV K H3 ρ3 (wipeL δ vs) (wipe σ vs) := ((s.mono x1).mono (xx.trans x3)).wipe vs
      refine ⟨_, _, ρ3, hi, δ3, h3, dv, s3, R3, e3, fun σ5 H5 ρ5 x5 R5 s5 o5 => ⟨wipe_eq o5 hsub, ?_⟩⟩
      refine ⟨δ3, ρ5, h3, b4, h4, s5, R5, e4, fun H6 ρ6 x6 R6 => ?_⟩
      have x26 : Ext K (upd H1 D (.lst [])) (ρ1 ++ [D]) H6 ρ6 := ((x2.trans x3).trans x5).trans x6
      cases b4 with
      | true =>
        simp only [if_true] at q2
        obtain ⟨⟨d7, h7⟩, e7, q2⟩ := Option.bind_eq_some_iff.mp q2
        refine iteT ⟨δ3, ρ6, h4, d7, h7, s5.mono x6, R6, e7, fun y H8 ρ8 x8 R8 v8 => ?_⟩
        simp only at q2
        split at q2
        · rename_i acc ea
          split at q2
          · rename_i hz
            have x28 := x26.trans x8
            have rD8 : ρ8[h1.length]? = some D := x28.get rD0
            obtain ⟨us, hu, wu⟩ := R8.lst ea rD8
            obtain ⟨x9, R9⟩ := set_lst R8 ea rD8 (wu.append (DVs.cons v8 DVs.nil))
            refine ⟨us, hu, by rw [← wu.length]; exact hz, _, by omega, ρ8, _, rfl, hlt, R9, x28.trans x9, q2⟩
          · cases q2
        · cases q2
      | false => exact iteF ⟨_, by omega, ρ6, h4, rfl, hlt, R6, x26, by simpa using q2⟩
    · cases q2
  · have hi0 : i = S.items.length := by omega
    rw [List.drop_eq_nil_of_le (by omega), compGo] at q2
    split at q2
    · rename_i hgd
      cases q2
      exact .inl ⟨(ok i H2 ρi _ xx R2 hgd).2 hi0, k _ H2 ρi (x1.trans xx) R2 (by simp only [DV]; exact ⟨D, rD, rfl⟩)⟩
    · cases q2
theorem L_comp {ifs : List Expr} {scope : Scope} {own : List (Str × Nat)} (hc : X.calm = true) (hN : X.N.Nodup) (hi : PI X tg iter (LI (X.kt τ) mi)) (ok : BlkOk X.N X.env.scope scope own)
    (hg : ∀ (s : Shared) (H : Hp) (C : Addr) (cl : List (Str × Addr)) (fp : List Addr), PG (X.blk s H scope (compEnvC scope cl C X.env) fp) tg (LG (X.kt τ) ws g)) (ht : ∀ (s : Shared) (H : Hp) (C : Addr) (cl : List (Str × Addr)) (fp : List Addr), PTs (X.blk s H scope (compEnvC scope cl C X.env) fp) ifs (LT (X.kt τ) t))
    (he : ∀ (s : Shared) (H : Hp) (C : Addr) (cl : List (Str × Addr)) (fp : List Addr), PE (X.blk s H scope (compEnvC scope cl C X.env) fp) elt (LE (X.kt τ) me)) (hsub : ∀ i ∈ ws, i ∈ own.map (·.2) := by decide) (hs : ∀ x, foldedSetIterable iter X.env x = pure x := by intro _; rfl) :
    PE X (.ListComp elt [⟨tg, iter, ifs, 0⟩] scope pos) (LE (X.kt τ) (mComp mi g t me (own.map (·.2)))) :=
  (pe_lc hc hN hi ok hg ht he hs).imp fun _ _ _ h => h.comp hsub
theorem S_setComp {i : Nat} {y : Str} {py : Pos} {ifs : List Expr} {scope : Scope} {own : List (Str × Nat)} {spos : Pos} (hc : X.calm = true) (hN : X.N.Nodup) (hy : X.N[i]? = some y) (hyl : X.env.scope.names.lookup y = some .local)
    (hsw : swapsWith (.ListComp elt [⟨tg, iter, ifs, 0⟩] scope pos) (some (.Name y py)) spos.line X.env = pure true) (hi : PI X tg iter (LI (X.kt τ) mi)) (ok : BlkOk X.N X.env.scope scope own)
    (hg : ∀ (s : Shared) (H : Hp) (C : Addr) (cl : List (Str × Addr)) (fp : List Addr), PG (X.blk s H scope (compEnvC scope cl C X.env) fp) tg (LG (X.kt τ) ws g)) (ht : ∀ (s : Shared) (H : Hp) (C : Addr) (cl : List (Str × Addr)) (fp : List Addr), PTs (X.blk s H scope (compEnvC scope cl C X.env) fp) ifs (LT (X.kt τ) t))
    (he : ∀ (s : Shared) (H : Hp) (C : Addr) (cl : List (Str × Addr)) (fp : List Addr), PE (X.blk s H scope (compEnvC scope cl C X.env) fp) elt (LE (X.kt τ) me)) (hsub : ∀ i ∈ ws, i ∈ own.map (·.2) := by decide) (hs : ∀ x, foldedSetIterable iter X.env x = pure x := by intro _; rfl) :
    PS X (.Assign [.Name y py] (.ListComp elt [⟨tg, iter, ifs, 0⟩] scope pos) spos) (LS (X.kt τ) W (sSet i (mComp mi g t me (own.map (·.2))))) :=
  (ps_setLc hc hN hy hyl hsw hi ok hg ht he hs).imp fun Z σ H ⟨δ, ρ, h0, f, δ', h', s, R, q, k⟩ => by
    unfold sSet at q
    obtain ⟨⟨d1, h1⟩, e1, q⟩ := Option.bind_eq_some_iff.mp q
    cases q
    have := LE.comp (K := (X.kt τ)) (Q := fun v H1 => gName i v σ H1 Z.nx) hsub ⟨δ, ρ, h0, d1, h1, s, R, e1, fun v H1 ρ1 x1 R1 v1 => k _ H1 ρ1 x1 R1 ((s.mono x1).set v1)⟩
    exact this
end
end
end DL
set_option Elab.async false
set_option linter.all false
set_option maxRecDepth 100000
/-! DL.Fn: what a def does as a function on data; its call; the law's end. As L2.FnOk, but where no guard of repr stands on the stack (GA), so that repr may be asked. -/
namespace DL
open PySem PySem.Spec PyProof.Rows L2

abbrev GA (A : Around) : Prop := A.guards = some []
theorem GA.deeper {A : Around} {env : Env} (h : GA A) : GA (A.deeper env) := h

/-- a def at f: called with values for which sp holds, it ends as sp wants; k calls deep at most -/
structure FnG (P : Program) (w : World) (K : PySem.W.Frag) (mg : Str → Option Value) (base : Heap) (CX : CXT) (k : Nat) (f : Addr) (fd : FuncData) (ps : List Str) (sp : Sp) : Prop where
  many : ∀ vs H Q E, sp vs H Q E → vs.length = ps.length
  goes : ∀ {A : Around} {outer : List Env} {s : Shared} {H : Hp} {args : Args} {us : List Value} {vs : List V} {Q : VK} {E : XK}, GA A → Room k A → Env0 P w K mg base A outer s H → BindsTo s fd args (ps.zip us) → Vals vs us →
    sp vs H Q E → codeAny (model P w) A (.call (.ref f) args) (CR CX outer P w H s Q E) s

/-- from a def's body -/
theorem fnG_of {CX : CXT} {P : Program} {w : World} {K : PySem.W.Frag} {mg : Str → Option Value} {base : Heap} {k : Nat} {f : Addr} {x qual : Str} {st : Stmt} {fd : FuncData} {N ps : List Str} {sp : Sp} (F : Fun K x qual st f fd) (S : FnScope N ps (defScope st))
    (many : ∀ vs H Q E, sp vs H Q E → vs.length = ps.length)
    (body : ∀ (cdv : Value) (A : Around) (outer : List Env) (s : Shared) (H : Hp) (E : XK) (Q : VK) (vs : List V), GA (A.deeper (envOfC qual (defScope st) s.heap.objs.size f cdv)) → Room k (A.deeper (envOfC qual (defScope st) s.heap.objs.size f cdv)) → sp vs H Q E →
      ∃ t, PSs (cxOf CX P w K mg base N qual (defScope st) f cdv A outer s H E) (defBody st) t ∧ t { nx := fun _ H' => Q .non H', rt := Q } (start N vs) H) :
    FnG P w K mg base CX (k + 1) f fd ps sp := by
  obtain ⟨oc, od, kV, doc, pm, an, cdv, ct, osl, rfl, lk, hcd⟩ := F.ex
  constructor
  · exact many
  intro A outer s H args us vs Q E g hr e0 hb rv hsp
  have len := many _ _ _ _ hsp
  have up : ∀ b o, base.get? b = some o → s.heap.get? b = some o := fun b o q => (e0.bs b o q).1
  have inK := e0.mod.kin.keeps up
  refine codeAny_call_function hr.depth (inK _ _ lk) rfl S.co S.gen rfl (PySem.W.codeRec_of inK hcd) (hb _ _ _ _ ?_)
  refine wpAny_newFunctionEnv_cells S.kind ?_ ?_
  · intro y hy
    cases S.par y.1 (List.of_mem_zip hy).1 with
    | inl q => exact Or.inl q
    | inr q => exact Or.inr ⟨q, PySem.W.cellsFrom_some _ _ _ (Or.inl q)⟩
  · intro env he s1 made
    subst he
    have ga : GA (A.deeper (envOfC qual (defScope st) s.heap.objs.size f cdv)) := g
    obtain ⟨t, ht, at0⟩ := body cdv A outer s H E Q vs ga (hr.deeper _) hsp
    have I := inv_start (CX := CX) (E := E) S hr.hd e0 len rv made
    have lim : s.heap.NoLimit := e0.mod.nolimit.keeps up
    refine ⟨lim.keeps made.toInCall.keep, codeAny_func (wpAny_mono (ht.run [] s1 (start N vs) H _ I at0) ?_ (fun _ _ z => z))⟩
    intro fl s' hs
    cases fl with
    | ret u =>
      obtain ⟨v, _, H', J, q1, q2⟩ := hs
      exact ⟨v, H', J.os, J.bare, J.base, J.hok, q1, q2⟩
    | next =>
      obtain ⟨_, H', J, q2⟩ := hs
      exact ⟨.non, H', J.os, J.bare, J.base, J.hok, rfl, q2⟩
    | brk =>
      obtain ⟨_, _, _, q⟩ := hs
      cases q
    | cont =>
      obtain ⟨_, _, _, q⟩ := hs
      cases q

/-! ### a def as a function on data -/
abbrev FD := List D → Hm → Option (D × Hm)
def spF (K : Kx) (n : Nat) (F : FD) : Sp := fun vs H Q _ => vs.length = n ∧ ∃ ds ρ h d h', DVs K H ρ ds vs ∧ Rp K H ρ h ∧ F ds h = some (d, h') ∧ ∀ v H' ρ', Ext K H ρ H' ρ' → Rp K H' ρ' h' → DV K H' ρ' d v → Q v H'
/-- N names, the first ones the parameters -/
def runF (N : Nat) (m : MS) : FD := fun ds h => (m (ds.map some ++ List.replicate (N - ds.length) none) h).bind fun p => match p.1 with
  | .nx => some (.non, p.2.2)
  | .rt d => some (d, p.2.2)
  | _ => none
theorem SV.start {K : Kx} {H : Hp} {ρ : List Addr} {ds : List D} {vs : List V} (w : DVs K H ρ ds vs) (N : List Str) : SV K H ρ (ds.map some ++ List.replicate (N.length - ds.length) none) (start N vs) := by
  unfold L2.start
  rw [w.length]
  refine ⟨by simp [w.length], fun i d h => ?_⟩
  by_cases hi : i < ds.length
  · rw [List.getElem?_append_left (by simpa using hi), List.getElem?_map] at h
    cases e : ds[i]? with
    | none => rw [e] at h; cases h
    | some d' =>
      rw [e] at h
      cases h
      obtain ⟨v, h1, h2⟩ := w.get e
      exact ⟨v, by rw [List.getElem?_append_left (by rw [List.length_map, ← w.length]; exact hi), List.getElem?_map, h1]; rfl, h2⟩
  · rw [List.getElem?_append_right (by simpa using Nat.le_of_not_lt hi), List.getElem?_replicate] at h
    split at h <;> cases h
theorem fn_d {P : Program} {w : World} {K : PySem.W.Frag} {mg : Str → Option Value} {base : Heap} {k : Nat} {f : Addr} {x qual : Str} {st : Stmt} {fd : FuncData} {N ps : List Str} {m : MS} (F : Fun K x qual st f fd) (S : FnScope N ps (defScope st))
    (body : ∀ (cdv : Value) (A : Around) (outer : List Env) (s : Shared) (H : Hp) (E : XK), GA (A.deeper (envOfC qual (defScope st) s.heap.objs.size f cdv)) → Room k (A.deeper (envOfC qual (defScope st) s.heap.objs.size f cdv)) →
      PSs (cxOf CX0 P w K mg base N qual (defScope st) f cdv A outer s H E).nox (defBody st) (LS ⟨K, w, mg, τ⟩ (fun _ _ _ _ => False) m)) :
    FnG P w K mg base CX0 (k + 1) f fd ps (spF ⟨K, w, mg, τ⟩ ps.length (runF N.length m)) := by
  refine fnG_of F S (fun vs H Q E h => h.1) fun cdv A outer s H E Q vs g hr h => ?_
  refine ⟨LS ⟨K, w, mg, τ⟩ (fun _ _ _ _ => False) m, (body cdv A outer s H E g hr).nox, ?_⟩
  obtain ⟨_, ds, ρ, h0, d, h', w, R, q, k2⟩ := h
  unfold runF at q
  obtain ⟨⟨fl, δ', h1⟩, e1, q⟩ := Option.bind_eq_some_iff.mp q
  refine ⟨_, ρ, h0, fl, δ', h1, SV.start w N, R, e1, ?_⟩
  cases fl with
  | nx =>
    cases q
    exact fun σ' H' ρ' x1 R1 _ => k2 .non H' ρ' x1 R1 (by simp [DV])
  | rt d' =>
    cases q
    exact fun v H' ρ' x1 R1 v1 => k2 v H' ρ' x1 R1 v1
  | brk => cases q
  | ct => cases q
  | ex c fs => cases q

section
variable {X : Cx} {τ : Tb} {CX : CXT} {k : Nat} {f : Addr} {fd : FuncData} {ps : List Str} {sp : Sp} {E : XK} {x : Str} {p pos : Pos} {e : Expr} {es : List Expr} {t : TA} {mr : MA} {n : Nat} {F : FD}
theorem callG (hG : GA X.A) (C : FnG X.prog X.w X.K X.mg X.base CX k f fd ps sp) (hr : Room k X.A) (hg : Gl X x) (hm : X.mg x = some (.ref f)) (hk : PySem.W.keepIn X.K (.ref f) = true) (hb : Binds X.K fd ps []) (hx : Passes CX X E)
    (ha : PA X (e :: es) t) (hdb : (x == ("__debug__" : Str)) = false := by decide) (he : starEach (e :: es) X.env = (false, eval e X.env) :: starEach es X.env := by rfl) (hpl : (backTo pos (starEach es X.env)).any (·.1) = false := by rfl) :
    PE X (.Call (.Name x p) (e :: es) [] pos) (fun σ H Q => t σ H fun vs H1 => sp vs H1 Q E) := by
  constructor
  intro pins s σ H Q I h
  refine wpAny_Call_Name_kw (ld_glob I hg hm (PySem.W.callWith_K I.ok.mod.kin hk (thn (ha.run pos pins s σ H _ I h) ?_) he hpl) hdb)
  rintro us s1 ⟨vs, H1, I1, rv, q⟩
  refine ⟨I1.kIn, wpAny_call (codeAny_mono (C.goes hG hr I1.env0 ?_ rv q) ?_)⟩
  · have hl : us.length = ps.length := rv.length.symm.trans (C.many _ _ _ _ q)
    have := hb s1 us I1.kIn (by simpa using hl)
    simpa using this
  · intro r s' z
    match r, z with
    | .error e', z => exact hx pins σ H1 s1 e' s' I1 z
    | .ok (.ret u), z => exact I1.after z
/-- f(..), a def without exceptions -/
def mCall (F : FD) (r : MA) : ME := fun δ h => (r δ h).bind fun p => F p.1 p.2
theorem L_call (hG : GA X.A) (C : FnG X.prog X.w X.K X.mg X.base CX0 k f fd ps (spF (X.kt τ) n F)) (hr : Room k X.A) (hg : Gl X x) (hm : X.mg x = some (.ref f)) (hk : PySem.W.keepIn X.K (.ref f) = true) (hb : Binds X.K fd ps []) (hn : n = ps.length)
    (hl : ps.length = (e :: es).length) (ha : PA X (e :: es) (LA (X.kt τ) mr)) (hal : ∀ δ h ds h', mr δ h = some (ds, h') → ds.length = (e :: es).length) (hdb : (x == ("__debug__" : Str)) = false := by decide) (he : starEach (e :: es) X.env = (false, eval e X.env) :: starEach es X.env := by rfl) (hpl : (backTo pos (starEach es X.env)).any (·.1) = false := by rfl) :
    PE X (.Call (.Name x p) (e :: es) [] pos) (LE (X.kt τ) (mCall F mr)) := by
  refine (callG (E := E0) hG C hr hg hm hk hb pass0 ha hdb he hpl).imp fun σ H Q ⟨δ, ρ, h, d, h', s, R, q, k2⟩ => ?_
  unfold mCall at q
  obtain ⟨⟨ds, h1⟩, e1, q⟩ := Option.bind_eq_some_iff.mp q
  refine ⟨δ, ρ, h, ds, h1, s, R, e1, fun vs H1 ρ1 x1 R1 v1 => ?_⟩
  refine ⟨by rw [← v1.length, hal _ _ _ _ e1, hn, hl], ds, ρ1, h1, d, h', v1, R1, q, fun v H2 ρ2 x2 R2 v2 => k2 v H2 ρ2 (x1.trans x2) R2 v2⟩
end
theorem aLen_nil : ∀ (δ : Lo) (h : Hm) (ds : List D) (h' : Hm), aNil δ h = some (ds, h') → ds.length = ([] : List Expr).length := fun _ _ _ _ q => by cases q; rfl
theorem aLen_cons {m : ME} {r : MA} {e : Expr} {es : List Expr} (hr : ∀ (δ : Lo) (h : Hm) (ds : List D) (h' : Hm), r δ h = some (ds, h') → ds.length = es.length) : ∀ (δ : Lo) (h : Hm) (ds : List D) (h' : Hm), aCons m r δ h = some (ds, h') → ds.length = (e :: es).length := fun δ h ds h' q => by
  unfold aCons at q
  obtain ⟨⟨d1, h1⟩, e1, q⟩ := Option.bind_eq_some_iff.mp q
  obtain ⟨⟨ds2, h2⟩, e2, q⟩ := Option.bind_eq_some_iff.mp q
  cases q
  simp [hr _ _ _ _ e2]

/-! ### the law's end -/
/-- the law's def gives True for every script -/
def spLaw (K : Kx) (n : Nat) (F : FD) : Prop := ∀ ns : List Int, ns.length ≤ n → ∃ h', F [.rol (ns.map D.int)] [] = some (.bl true, h')
theorem end_core {P : Program} {w : World} {K : PySem.W.Frag} {mg mb : Str → Option Value} {k : Nat} {fa a : Addr} {fd : FuncData} {x : Str} {F : FD} {s₁ : Shared} {ns : List Int} {H : Hp} (KX : K.In s₁.heap) (hns : s₁.heap.Ns mainGlobals mg)
    (hb : s₁.heap.Ns builtinsNs mb) (hbb : ∀ x : Str, x ≠ "__name__" → mb x = bootBuiltins x) (hlim : s₁.heap.NoLimit) (hg : s₁.gens = #[]) (hr : Room k callerA)
    (C : ∀ base : Heap, K.In base → base.Ns mainGlobals mg → FnG P w K mg base CX0 k fa fd [x] (spF ⟨K, w, mg, []⟩ 1 F)) (hbind : ∀ (s : Shared) (u : Value), BindsTo s fd ⟨[u], []⟩ [(x, u)]) (law : ∃ h', F [.rol (ns.map D.int)] [] = some (.bl true, h'))
    (hO : ∀ b u, H b = some u → b = a ∧ ∃ o xs, u = .frz o (.lst xs)) (hR : RoL ⟨K, w, mg, []⟩ H a (ns.map V.int)) (hok : HOk P w H s₁.heap) (nd : ∀ o es ep, H a ≠ none → s₁.heap.get? a = some o → o.data ≠ .dict es ep) (nK : H a ≠ none → K.lookup a = none) :
    codeAny (model P w) callerA (.call (.ref fa) ⟨[.ref a], []⟩) (fun r s' => r = .ok (.ret (.bool true)) ∧ OldK s₁.heap s'.heap ∧ s'.os = s₁.os ∧ AllBare s'.gens) s₁ := by
  have out : ∀ {b : Addr}, (b = a → H a = none) → H b = none := fun {b} z => by
    cases q : H b with
    | none => rfl
    | some u =>
      have e := (hO b u q).1
      subst e
      rw [z rfl] at q
      cases q
  have stay : ∀ {b : Addr} {o : Obj}, s₁.heap.get? b = some o → (b = a → H a = none) → (hidT s₁.heap H).get? b = some o := fun q z => hidT_get q (out z)
  have ns2 : ∀ {b : Addr} {m : Str → Option Value}, s₁.heap.Ns b m → (hidT s₁.heap H).Ns b m := fun {b m} q => by
    obtain ⟨o, es, ep, h1, h2, h3⟩ := q
    refine ⟨o, es, ep, stay h1 fun z => ?_, h2, h3⟩
    subst z
    cases q : H b with
    | none => rfl
    | some u => exact absurd h2 (nd o es ep (by rw [q]; simp) h1)
  have inB : K.In (hidT s₁.heap H) := fun b o q => stay (KX b o q) fun z => by
    subst z
    cases q2 : H b with
    | none => rfl
    | some u =>
      rw [nK (by rw [q2]; simp)] at q
      cases q
  obtain ⟨mc, l1, l2⟩ := hlim
  have md : Mod K mg (hidT s₁.heap H) := { kin := inB, glob := ns2 hns, blt := ⟨mb, ns2 hb, hbb⟩, nolimit := ⟨mc, ns2 l1, l2⟩ }
  have e0 : Env0 P w K mg (hidT s₁.heap H) callerA [] s₁ H :=
    { frames := rfl, mod := md, bs := fun b o q => of_hidT q, bsz := Nat.le_of_eq (hidT_size _ _), funs := trivial, frf := fun b z => (List.not_mem_nil z).elim, hok := hok, bare := .of_eq hg }
  obtain ⟨h', e⟩ := law
  have R0 : Rp ⟨K, w, mg, []⟩ H [] [] := ⟨rfl, List.nodup_nil, fun i o q => by simp at q, fun t ht => (nomatch ht)⟩
  have dv : DVs ⟨K, w, mg, []⟩ H [] [.rol (ns.map D.int)] [.ref a] := DVs.cons (by simp only [DV]; exact ⟨a, _, rfl, hR, DVs.ints ns⟩) DVs.nil
  refine codeAny_mono ((C _ inB (ns2 hns)).goes (us := [Value.ref a]) (vs := [V.ref a]) rfl hr e0 (hbind s₁ (.ref a)) (.cons rfl .nil) (Q := fun v _ => v = .bl true) (E := E0) ⟨rfl, _, [], [], _, _, dv, R0, e, fun v H' ρ' _ _ v1 => by simpa [DV] using v1⟩) ?_
  intro r s' z
  match r, z with
  | .ok (.ret u), ⟨v, H', os, bare, un, ok2, rv, q⟩ =>
    subst q
    cases rv
    refine ⟨rfl, OldK.of_keep fun b o q => ?_, os, bare⟩
    cases q2 : H b with
    | none => exact un.keep b o q q2 List.not_mem_nil List.not_mem_nil
    | some t =>
      obtain ⟨_, ob, xs, rfl⟩ := hO b t q2
      have t1 := (hok b _ q2).1
      rw [q] at t1
      cases t1
      exact (ok2 b _ (un.frzs b o _ q2)).1
theorem law_endG {P : Program} {w : World} {K : PySem.W.Frag} {mg mb : Str → Option Value} {k : Nat} {fa a : Addr} {fd : FuncData} {x : Str} {F : FD} {s₁ : Shared} {vs : List Value} {ns : List Int} (KX : K.In s₁.heap) (hns : s₁.heap.Ns mainGlobals mg)
    (hb : s₁.heap.Ns builtinsNs mb) (hbb : ∀ x : Str, x ≠ "__name__" → mb x = bootBuiltins x) (hlim : s₁.heap.NoLimit) (hg : s₁.gens = #[]) (ha : s₁.heap.get? a = some { cls := .type "list", data := .seq vs.toArray }) (hi : IntsAre vs ns) (hl : ns.length ≤ sizeLine) (hr : Room k callerA)
    (C : ∀ base : Heap, K.In base → base.Ns mainGlobals mg → FnG P w K mg base CX0 k fa fd [x] (spF ⟨K, w, mg, []⟩ 1 F)) (hbind : ∀ (s : Shared) (u : Value), BindsTo s fd ⟨[u], []⟩ [(x, u)]) (law : ∃ h', F [.rol (ns.map D.int)] [] = some (.bl true, h')) :
    codeAny (model P w) callerA (.call (.ref fa) ⟨[.ref a], []⟩) (fun r s' => r = .ok (.ret (.bool true)) ∧ OldK s₁.heap s'.heap ∧ s'.os = s₁.os ∧ AllBare s'.gens) s₁ := by
  have rv := vals_ints hi
  by_cases hk : K.lookup a = none
  · let sc : Obj := { cls := .type "list", data := .seq vs.toArray }
    let H : Hp := upd (fun _ => none) a (.frz sc (.lst (ns.map V.int)))
    have Ha : H a = some (.frz sc (.lst (ns.map V.int))) := upd_same
    have Hb : ∀ b u, H b = some u → b = a ∧ u = .frz sc (.lst (ns.map V.int)) := fun b u q => by
      by_cases z : b = a
      · subst z
        rw [Ha] at q
        exact ⟨rfl, (Option.some.inj q).symm⟩
      · have q' : upd (fun _ => none) a (.frz sc (.lst (ns.map V.int))) b = some u := q
        rw [upd_ne z] at q'
        cases q'
    refine end_core (a := a) (H := H) KX hns hb hbb hlim hg hr C hbind law (fun b u q => ⟨(Hb b u q).1, sc, _, (Hb b u q).2⟩) (.inl ⟨sc, Ha⟩) (fun b u q => ?_) (fun o es ep _ q z => ?_) fun _ => hk
    · obtain ⟨rfl, rfl⟩ := Hb b u q
      exact ⟨ha, by simpa using hl, vs, 0, rv, ha⟩
    · rw [ha] at q
      cases q
      cases z
  · obtain ⟨o, ho⟩ := Option.ne_none_iff_exists'.mp hk
    have q := KX a o ho
    rw [ha] at q
    cases q
    refine end_core (a := a) (H := fun _ => none) KX hns hb hbb hlim hg hr C hbind law (fun b u q => by cases q) (.inr (.inr ⟨_, vs.toArray, 0, ho, rfl, rfl, rfl, ?_, by simpa using rv⟩)) (fun b u q => by cases q) (fun o es ep z => absurd rfl z) fun z => absurd rfl z
    have := hi.length
    rw [List.size_toArray]
    omega
theorem walk_law {l : PySem.W.OpenLaw} {n k : Nat} {q : Program} {loose : List Str} {XP : (Str → Option Value) → Heap → Prop} {YP : World → Heap → Prop} {d : DefRec} {K : Params → PySem.W.Frag} {F : FD} {x : Str} (hn : l.most = some n) (hn2 : n ≤ sizeLine) (hdf : d.params.defaults = []) (hr : Room k callerA)
    (hY : ∀ (w : World) (h : Heap), YP w h → (K w.params).In h)
    (C : ∀ (w : World) (mg : Str → Option Value) (fa : Addr) (h : Heap), (K w.params).In h → h.Ns mainGlobals mg → mg d.name = some (.ref fa) →
      ∃ fd : FuncData, (∀ (s : Shared) (u : Value), BindsTo s fd ⟨[u], []⟩ [(x, u)]) ∧ ∀ base : Heap, (K w.params).In base → base.Ns mainGlobals mg → FnG l.prog w (K w.params) mg base CX0 k fa fd [x] (spF ⟨K w.params, w, mg, []⟩ 1 F))
    (law : ∀ ns : List Int, ns.length ≤ n → ∃ h', F [.rol (ns.map D.int)] [] = some (.bl true, h')) : PySem.W.WalkO q loose XP YP l.row.toRowW d [] (fun f vs => PySem.call f vs) := by
  refine Att.attach_call hn hdf ?_
  intro w s₀ s₁ mg mb fa o pm cd doc a vs ns G Y ho hd hcd hmg hobj hints hlen hg
  obtain ⟨fd, b1, b2⟩ := C w mg fa _ (hY w _ Y) G.T.g hmg
  exact law_endG (hY w _ Y) G.T.g G.T.b G.T.builtins G.T.nolimit hg hobj hints (Nat.le_trans hlen hn2) hr b2 b1 (law ns hlen)
end DL
set_option Elab.async false
set_option linter.all false
set_option maxRecDepth 100000
/-! DL.Dct: dicts whose keys are tuples, nested or not. -/
namespace DL
open PySem PySem.Spec PyProof.Rows L2
section
variable {κ : Type} [DecidableEq κ] {α β γ : Type}
theorem Paired.any_find {F : α → β → Prop} {p : α → Bool} {q : β → Bool} : ∀ {l : List α} {m : List β}, Paired F l m → (∀ a b, F a b → p a = q b) → Paired F (l.filter p) (m.filter q)
  | _, _, .nil, _ => .nil
  | _, _, .cons (a := a) (b := b) r t, h => by
    have e := h _ _ r
    have ih := Paired.any_find t h
    rw [List.filter_cons, List.filter_cons, e]
    split
    · exact .cons r ih
    · exact ih
theorem Paired.find {F : α → β → Prop} {p : α → Bool} {q : β → Bool} : ∀ {l : List α} {m : List β}, Paired F l m → (∀ a b, F a b → p a = q b) → (l.find? p = none ∧ m.find? q = none) ∨ ∃ a b, l.find? p = some a ∧ m.find? q = some b ∧ F a b
  | _, _, .nil, _ => .inl ⟨rfl, rfl⟩
  | _, _, .cons (a := a) (b := b) r t, h => by
    have e := h _ _ r
    rw [List.find?_cons, List.find?_cons, e]
    split
    · exact .inr ⟨_, _, rfl, rfl, r⟩
    · exact Paired.find t h
theorem Paired.map2 {F : α → β → Prop} {G : γ → κ → Prop} {f : α → γ} {g : β → κ} : ∀ {l : List α} {m : List β}, Paired F l m → (∀ a b, F a b → G (f a) (g b)) → Paired G (l.map f) (m.map g)
  | _, _, .nil, _ => .nil
  | _, _, .cons r t, h => .cons (h _ _ r) (Paired.map2 t h)
theorem Paired.snoc {F : α → β → Prop} {a : α} {b : β} (r : F a b) : ∀ {l : List α} {m : List β}, Paired F l m → Paired F (l ++ [a]) (m ++ [b])
  | _, _, .nil => .cons r .nil
  | _, _, .cons r' t => .cons r' (Paired.snoc r t)
end
section
variable {X : Cx} {τ : Tb} {pins : List (Addr × Obj)} {σ : L2.St} {H : Hp} {s : Shared} {ρ : List Addr}
mutual
theorem nested_of (I : Inv X pins σ H s) : ∀ (d : D) (k : NestedKey) (v : V) (u : Value), nk d = some k → DV (X.kt τ) H ρ d v → RelV v u → NestedIs s.heap k u
  | .non, k, v, u, h, q, r => by
    simp only [nk, Option.some.injEq] at h; simp only [DV] at q; subst h q; cases r; exact .none
  | .bl b, k, v, u, h, q, r => by
    simp only [nk, Option.some.injEq] at h; simp only [DV] at q; subst h q; cases r; exact .bool rfl
  | .int i, k, v, u, h, q, r => by
    simp only [nk, Option.some.injEq] at h; simp only [DV] at q; subst h q; obtain ⟨t, rfl⟩ := r; exact .int i t
  | .str x, k, v, u, h, q, r => by
    simp only [nk, Option.some.injEq] at h; simp only [DV] at q; subst h q; obtain ⟨t, rfl⟩ := r; exact .text x t
  | .rol _, k, v, u, h, q, r => by simp [nk] at h
  | .ref _, k, v, u, h, q, r => by simp [nk] at h
  | .ty _, k, v, u, h, q, r => by simp [nk] at h
  | .tup ds, k, v, u, h, q, r => by
    simp only [nk] at h
    obtain ⟨ks, e, rfl⟩ := Option.map_eq_some_iff.mp h
    obtain ⟨a, xs, rfl, ha, w⟩ := q.tupI
    cases r
    obtain ⟨its, rv, ⟨o, ho, hc, n, hd⟩, _⟩ := I.tuple (SqT.of ha)
    exact .tup ho hc hd (nestedAll_of I ds ks xs its e w rv)
theorem nestedAll_of (I : Inv X pins σ H s) : ∀ (ds : List D) (ks : List NestedKey) (vs : List V) (us : List Value), nks ds = some ks → DVs (X.kt τ) H ρ ds vs → Vals vs us → NestedAll s.heap ks us
  | [], ks, vs, us, h, q, r => by
    simp only [nks, Option.some.injEq] at h; simp only [DVs] at q; subst h q; cases r; exact .nil
  | d :: ds, ks, vs, us, h, q, r => by
    simp only [nks] at h
    obtain ⟨k, e1, h⟩ := Option.bind_eq_some_iff.mp h
    obtain ⟨ks, e2, rfl⟩ := Option.map_eq_some_iff.mp h
    simp only [DVs] at q
    obtain ⟨v, vs, rfl, q1, q2⟩ := q
    cases r with
    | cons r1 r2 => exact .cons (nested_of I d k v _ e1 q1 r1) (nestedAll_of I ds ks vs _ e2 q2 r2)
end
/-- the dict in the heap -/
theorem DctV.heap {a : Addr} {kvs : List (D × D)} (I : Inv X pins σ H s) (q : DctV (X.kt τ) H ρ a kvs) : (a == sysModules) = false ∧ kvs.length ≤ sizeLine ∧ ∃ zs us, H a = some (dHO X.w a zs) ∧ zs.length ≤ sizeLine ∧ (zs.map (·.1)).Nodup ∧ Paired (ER (X.kt τ) H ρ) kvs zs ∧
    Paired (fun (z : NestedKey × Addr × V) (u : NestedKey × Addr × Value) => z.1 = u.1 ∧ z.2.1 = u.2.1 ∧ RelV z.2.2 u.2.2) zs us ∧ s.heap.DictOfH (nestedKind X.prog X.w) a us := by
  obtain ⟨zs, ha, hs, hz, nd, pr⟩ := q
  obtain ⟨us, pu, o, es, ep, ho, hx, hd, he⟩ := (I.hok a _ ha).1
  have kz : zs.map (·.1) = us.map (·.1) := by
    clear nd hz pr ha he
    induction pu with
    | nil => rfl
    | cons r t ih => rw [List.map_cons, List.map_cons, r.1, ih]
  refine ⟨hs, by rw [Paired.length pr]; exact hz, zs, us, ha, hz, nd, pr, pu, o, es, ep, ho, hx, hd, he, ?_, by rw [← kz]; exact nd⟩
  intro u hu
  have : ∀ {kvs : List (D × D)} {zs : List (NestedKey × Addr × V)} {us : List (NestedKey × Addr × Value)}, Paired (ER (X.kt τ) H ρ) kvs zs → Paired (fun (z : NestedKey × Addr × V) (u : NestedKey × Addr × Value) => z.1 = u.1 ∧ z.2.1 = u.2.1 ∧ RelV z.2.2 u.2.2) zs us →
      ∀ u ∈ us, (nestedKind X.prog X.w).is s.heap u.1 u.2.1 := by
    intro kvs zs us pr
    induction pr generalizing us with
    | nil => intro pu u hu; cases pu; cases hu
    | cons r t ih =>
      intro pu u hu
      cases pu with
      | cons r2 t2 =>
        rcases List.mem_cons.mp hu with z | z
        · subst z
          refine ⟨?_, by rw [← r2.1]; exact r.2.1⟩
          rw [← r2.1, ← r2.2.1]
          exact nested_of I _ _ _ _ r.1 r.2.2.1 rfl
        · exact ih t2 u z
  exact this pr pu u hu
theorem IsDct.obj {P : Program} {w : World} {H : Hp} {h : Heap} {a : Addr} {zs : List (NestedKey × Addr × V)} (x : IsDct w a zs h) : ObjOk P w H h a (dHO w a zs) := by
  refine ⟨x, ?_, ?_⟩
  · obtain ⟨_, _, o, _, _, ho, _⟩ := x
    exact ⟨o, ho⟩
  · rintro h1 h2 ⟨us, pu, o, es, ep, ho, r⟩ k
    exact ⟨us, pu, o, es, ep, k o ho, r⟩
end
end DL
set_option Elab.async false
set_option linter.all false
set_option maxRecDepth 100000
/-! DL.Ops: subscripts, slices, ==, in, repr, built-ins, methods of lists. -/
namespace DL
open PySem PySem.Spec PyProof.Rows L2

/-! ### as plain data -/
def allM (f : D → Option PyData) : List D → Option (List PyData)
  | [] => some []
  | d :: ds => (f d).bind fun p => (allM f ds).map fun r => p :: r
def py (h : Hm) : Nat → D → Option PyData
  | 0, _ => none
  | n + 1, d => match d with
    | .non => some .none
    | .bl b => some (.bool b)
    | .int i => some (.int i)
    | .str x => some (.str x)
    | .tup ds => (allM (py h n) ds).map .tuple
    | .rol ds => (allM (py h n) ds).map .list
    | .ref i => (getL h i).bind fun ds => (allM (py h n) ds).map .list
    | .ty _ => none
section
variable {X : Cx} {τ : Tb} {H : Hp} {ρ : List Addr} {h : Hm}
theorem dpAll_of {f : D → Option PyData} (hf : ∀ d p v, f d = some p → DV (X.kt τ) H ρ d v → Dp X.K H v p) : ∀ (ds : List D) (ps : List PyData) (vs : List V), allM f ds = some ps → DVs (X.kt τ) H ρ ds vs → DpAll X.K H vs ps
  | [], ps, vs, e, w => by
    simp only [allM, Option.some.injEq] at e; simp only [DVs] at w
    subst e w
    exact .nil
  | d :: ds, ps, vs, e, w => by
    simp only [allM] at e
    obtain ⟨p, e1, e⟩ := Option.bind_eq_some_iff.mp e
    obtain ⟨r, e2, rfl⟩ := Option.map_eq_some_iff.mp e
    simp only [DVs] at w
    obtain ⟨v, vr, rfl, w1, w2⟩ := w
    exact .cons (hf d p v e1 w1) (dpAll_of hf ds r vr e2 w2)
theorem dp_of (R : Rp (X.kt τ) H ρ h) : ∀ (n : Nat) (d : D) (p : PyData) (v : V), py h n d = some p → DV (X.kt τ) H ρ d v → Dp X.K H v p
  | 0, d, p, v, e, w => by simp [py] at e
  | n + 1, d, p, v, e, w => by
    cases d with
    | non => simp only [py, Option.some.injEq] at e; simp only [DV] at w; subst e w; exact .non
    | bl b => simp only [py, Option.some.injEq] at e; simp only [DV] at w; subst e w; exact .bl b
    | int i => simp only [py, Option.some.injEq] at e; simp only [DV] at w; subst e w; exact .int i
    | str x => simp only [py, Option.some.injEq] at e; simp only [DV] at w; subst e w; exact .str x
    | ty x => simp [py] at e
    | tup ds =>
      simp only [py] at e
      obtain ⟨ps, e1, rfl⟩ := Option.map_eq_some_iff.mp e
      obtain ⟨a, xs, rfl, ha, w⟩ := w.tupI
      exact .tup (SqT.of ha) (dpAll_of (dp_of R n) ds ps xs e1 w)
    | rol ds =>
      simp only [py] at e
      obtain ⟨ps, e1, rfl⟩ := Option.map_eq_some_iff.mp e
      obtain ⟨a, xs, rfl, ha, w⟩ := w.rolI
      exact .lst ha (dpAll_of (dp_of R n) ds ps xs e1 w)
    | ref i =>
      simp only [py] at e
      obtain ⟨ds, e0, e⟩ := Option.bind_eq_some_iff.mp e
      obtain ⟨ps, e1, rfl⟩ := Option.map_eq_some_iff.mp e
      obtain ⟨a, ra, rfl⟩ := w.refI
      obtain ⟨xs, ha, w⟩ := R.rd e0 ra
      exact .lst ha (dpAll_of (dp_of R n) ds ps xs e1 w)
end
/-! ### == -/
/-- how deep data may be -/
abbrev deepest : Nat := 66
def eqG (neg : Bool) : F2 := fun x y h => (py h deepest x).bind fun p => (py h deepest y).bind fun q => if SeqAt.shaped p = true ∧ SeqAt.shaped q = true then some (.bl (neg != PyData.eqv p q), h) else none
def dEq : F2 := fun x y h => match x, y with
  | .int i, .int j => some (.bl (decide (i = j)), h)
  | .str a, .str b => some (.bl (decide (a = b)), h)
  | .bl a, .bl b => some (.bl (decide (a = b)), h)
  | .non, .non => some (.bl true, h)
  | _, _ => eqG false x y h
def dNe : F2 := fun x y h => match x, y with
  | .int i, .int j => some (.bl (!decide (i = j)), h)
  | .str a, .str b => some (.bl (!decide (a = b)), h)
  | .bl a, .bl b => some (.bl (!decide (a = b)), h)
  | .non, .non => some (.bl false, h)
  | _, _ => eqG true x y h
section
variable {X : Cx} {τ : Tb} {a b e : Expr} {ma mb : ME} {pos : Pos}
theorem rEqG {x y : V} {H : Hp} {Q : VK} {ρ : List Addr} {h h' : Hm} {d e r : D} (R : Rp (X.kt τ) H ρ h) (v1 : DV (X.kt τ) H ρ d x) (v2 : DV (X.kt τ) H ρ e y) (q : eqG false d e h = some (r, h')) (k : ∀ v H' ρ', Ext (X.kt τ) H ρ H' ρ' → Rp (X.kt τ) H' ρ' h' → DV (X.kt τ) H' ρ' r v → Q v H') : rEqD X.K x y H Q := by
  unfold eqG at q
  obtain ⟨p, e1, q⟩ := Option.bind_eq_some_iff.mp q
  obtain ⟨p2, e2, q⟩ := Option.bind_eq_some_iff.mp q
  split at q
  · rename_i hs
    cases q
    exact ⟨p, p2, dp_of R _ _ _ _ e1 v1, dp_of R _ _ _ _ e2 v2, hs.1, hs.2, fin R k (by simp [DV])⟩
  · cases q
theorem rNeG {x y : V} {H : Hp} {Q : VK} {ρ : List Addr} {h h' : Hm} {d e r : D} (R : Rp (X.kt τ) H ρ h) (v1 : DV (X.kt τ) H ρ d x) (v2 : DV (X.kt τ) H ρ e y) (q : eqG true d e h = some (r, h')) (k : ∀ v H' ρ', Ext (X.kt τ) H ρ H' ρ' → Rp (X.kt τ) H' ρ' h' → DV (X.kt τ) H' ρ' r v → Q v H') : rNeD X.K x y H Q := by
  unfold eqG at q
  obtain ⟨p, e1, q⟩ := Option.bind_eq_some_iff.mp q
  obtain ⟨p2, e2, q⟩ := Option.bind_eq_some_iff.mp q
  split at q
  · rename_i hs
    cases q
    exact ⟨p, p2, dp_of R _ _ _ _ e1 v1, dp_of R _ _ _ _ e2 v2, hs.1, hs.2, fin R k (by simp [DV])⟩
  · cases q
theorem O_eq (hu : X.A.units + 64 < cLine) : OpD X τ (compareOp .Eq) dEq := by
  intro pins s σ H x y v u Q I rx ry ⟨ρ, h, d, e, r, h', R, v1, v2, q, k⟩
  unfold dEq at q
  split at q
  · cases q; simp only [DV] at v1 v2; subst v1 v2
    exact op_eq pins s σ H _ _ v u Q I rx ry ⟨rfl, fin R k (by simp [DV])⟩
  · cases q; simp only [DV] at v1 v2; subst v1 v2
    exact op_eq pins s σ H _ _ v u Q I rx ry ⟨rfl, fin R k (by simp [DV])⟩
  · cases q; simp only [DV] at v1 v2; subst v1 v2
    exact op_eq pins s σ H _ _ v u Q I rx ry ⟨rfl, fin R k (by simp [DV])⟩
  · cases q; simp only [DV] at v1 v2; subst v1 v2
    exact op_eq pins s σ H _ _ v u Q I rx ry ⟨rfl, fin R k (by simp [DV])⟩
  · exact op_eqD hu pins s σ H x y v u Q I rx ry (rEqG R v1 v2 q k)
theorem O_ne (hu : X.A.units + 64 < cLine) : OpD X τ (compareOp .NotEq) dNe := by
  intro pins s σ H x y v u Q I rx ry ⟨ρ, h, d, e, r, h', R, v1, v2, q, k⟩
  unfold dNe at q
  split at q
  · cases q; simp only [DV] at v1 v2; subst v1 v2
    exact op_ne pins s σ H _ _ v u Q I rx ry ⟨rfl, fin R k (by simp [DV])⟩
  · cases q; simp only [DV] at v1 v2; subst v1 v2
    exact op_ne pins s σ H _ _ v u Q I rx ry ⟨rfl, fin R k (by simp [DV])⟩
  · cases q; simp only [DV] at v1 v2; subst v1 v2
    exact op_ne pins s σ H _ _ v u Q I rx ry ⟨rfl, fin R k (by simp [DV])⟩
  · cases q; simp only [DV] at v1 v2; subst v1 v2
    exact op_ne pins s σ H _ _ v u Q I rx ry ⟨rfl, fin R k (by simp [DV])⟩
  · exact op_neD hu pins s σ H x y v u Q I rx ry (rNeG R v1 v2 q k)
/-- is None, is not None -/
def dIsN : F2 := fun x y h => match y with
  | .non => match x with
    | .non => some (.bl true, h)
    | _ => some (.bl false, h)
  | _ => none
def dNotN : F2 := fun x y h => match y with
  | .non => match x with
    | .non => some (.bl false, h)
    | _ => some (.bl true, h)
  | _ => none
theorem DV.isNon {K : Kx} {H : Hp} {ρ : List Addr} {d : D} {v : V} (q : DV K H ρ d v) : decide (v = .non) = (match d with | .non => true | _ => false) := by
  cases d <;> simp only [DV] at q
  all_goals first
    | (subst q; simp)
    | (obtain ⟨a, xs, rfl, _⟩ := q; simp)
    | (obtain ⟨a, _, rfl⟩ := q; simp)
theorem O_isN : OpD X τ (compareOp .Is) dIsN := OpR.imp op_isN fun x y H Q ⟨ρ, h, d, e, r, h', R, v1, v2, q, k⟩ => by
  cases e with
  | non =>
    simp only [DV] at v2
    refine ⟨v2, ?_⟩
    rw [v1.isNon]
    cases d <;> simp only [dIsN, Option.some.injEq, Prod.mk.injEq] at q <;> (obtain ⟨rfl, rfl⟩ := q; exact fin R k (by simp [DV]))
  | _ => simp [dIsN] at q
theorem O_notN : OpD X τ (compareOp .IsNot) dNotN := OpR.imp op_notN fun x y H Q ⟨ρ, h, d, e, r, h', R, v1, v2, q, k⟩ => by
  cases e with
  | non =>
    simp only [DV] at v2
    refine ⟨v2, ?_⟩
    rw [v1.isNon]
    cases d <;> simp only [dNotN, Option.some.injEq, Prod.mk.injEq] at q <;> (obtain ⟨rfl, rfl⟩ := q; exact fin R k (by simp [DV]))
  | _ => simp [dNotN] at q

/-! ### subscripts -/
theorem DVs.atI {K : Kx} {H : Hp} {ρ : List Addr} {ds : List D} {vs : List V} {i : Int} {d : D} (w : DVs K H ρ ds vs) (e : atI ds i = some d) : ∃ v, L2.atI vs i = some v ∧ DV K H ρ d v := by
  unfold L2.atI at e ⊢
  rw [← w.length]
  obtain ⟨j, e1, e2⟩ := Option.bind_eq_some_iff.mp e
  obtain ⟨v, h1, h2⟩ := w.get e2
  exact ⟨v, by rw [e1]; exact h1, h2⟩
def dIx : F2 := fun x y h => match x, y with
  | .ref r, .int i => (getL h r).bind fun xs => (atI xs i).map fun d => (d, h)
  | .rol xs, .int i => (atI xs i).map fun d => (d, h)
  | .tup xs, .int i => (atI xs i).map fun d => (d, h)
  | .str z, .int i => if z.length ≤ sizeLine then (atI z.cps.toList i).map fun c => (.str ⟨#[c]⟩, h) else none
  | _, _ => none
theorem ixD {x y : V} {H : Hp} {Q : VK} (hq : rD (X.kt τ) dIx x y H Q) : rIx X.K x y H Q := by
  obtain ⟨ρ, h, d, e, r, h', R, v1, v2, q, k⟩ := hq
  unfold dIx at q
  split at q
  · obtain ⟨xs, e1, q⟩ := Option.bind_eq_some_iff.mp q
    obtain ⟨dd, e2, q⟩ := Option.map_eq_some_iff.mp q
    cases q
    obtain ⟨a, ra, rfl⟩ := v1.refI
    simp only [DV] at v2; subst v2
    obtain ⟨vs, ha, w⟩ := R.rd e1 ra
    obtain ⟨v, h1, h2⟩ := w.atI e2
    exact .inl ⟨a, vs, _, v, rfl, rfl, ha, h1, fin R k h2⟩
  · obtain ⟨dd, e2, q⟩ := Option.map_eq_some_iff.mp q
    cases q
    obtain ⟨a, vs, rfl, ha, w⟩ := v1.rolI
    simp only [DV] at v2; subst v2
    obtain ⟨v, h1, h2⟩ := w.atI e2
    exact .inl ⟨a, vs, _, v, rfl, rfl, ha, h1, fin R k h2⟩
  · obtain ⟨dd, e2, q⟩ := Option.map_eq_some_iff.mp q
    cases q
    obtain ⟨a, vs, rfl, ha, w⟩ := v1.tupI
    simp only [DV] at v2; subst v2
    obtain ⟨v, h1, h2⟩ := w.atI e2
    exact .inr (.inl ⟨a, vs, _, v, rfl, rfl, SqT.of ha, h1, fin R k h2⟩)
  · split at q
    · rename_i hz
      obtain ⟨c, e2, q⟩ := Option.map_eq_some_iff.mp q
      cases q
      simp only [DV] at v1 v2; subst v1 v2
      exact .inr (.inr ⟨_, _, c, rfl, rfl, hz, e2, fin R k (by simp [DV])⟩)
    · cases q
  · cases q
theorem L_ix (ha : PE X a (LE (X.kt τ) ma)) (hb : PE X b (LE (X.kt τ) mb)) (hs : PlainIx b) : PE X (.Subscript a b pos) (LE (X.kt τ) (m2 dIx ma mb)) := by
  refine (pe_ix ix_seq ha hb hs).imp fun σ H Q h => ?_
  obtain ⟨δ, ρ, h0, d, h', s, R, q, k⟩ := h
  have := LE.two ⟨δ, ρ, h0, d, h', s, R, q, k⟩
  obtain ⟨δ1, ρ1, h1, d1, h1', s1, R1, q1, k1⟩ := this
  refine ⟨δ1, ρ1, h1, d1, h1', s1, R1, q1, fun v H1 ρ2 x2 R2 v2 => ?_⟩
  obtain ⟨δ3, ρ3, h3, d3, h3', s3, R3, q3, k3⟩ := k1 v H1 ρ2 x2 R2 v2
  exact ⟨δ3, ρ3, h3, d3, h3', s3, R3, q3, fun u H4 ρ4 x4 R4 v4 => ixD (k3 u H4 ρ4 x4 R4 v4)⟩

/-! ### slices -/
def cutD {α : Type} (xs : List α) (lo hi : Option Int) : List α := (xs.drop (HT.sIx xs.length 0 lo)).take (HT.sIx xs.length xs.length hi - HT.sIx xs.length 0 lo)
theorem DVs.cut {K : Kx} {H : Hp} {ρ : List Addr} {ds : List D} {vs : List V} (w : DVs K H ρ ds vs) (lo hi : Option Int) : DVs K H ρ (cutD ds lo hi) (cutV vs lo hi) := by
  unfold cutD cutV
  rw [w.length]
  exact (w.drop _).take _
/-- a bound -/
abbrev MO1 := Lo → Hm → Option (Option Int × Hm)
def oNone : MO1 := fun _ h => some (none, h)
def oSome (m : ME) : MO1 := fun δ h => (m δ h).bind fun p => match p.1 with
  | .int i => some (some i, p.2)
  | _ => none
def LO (K : Kx) (m : MO1) : TO := fun σ H Q => ∃ δ ρ h d h', SV K H ρ δ σ ∧ Rp K H ρ h ∧ m δ h = some (d, h') ∧ ∀ H' ρ', Ext K H ρ H' ρ' → Rp K H' ρ' h' → Q d H'
theorem _root_.L2.PO.imp {X : Cx} {e : Option Expr} {t t' : TO} (h : PO X e t) (i : ∀ σ H Q, t' σ H Q → t σ H Q) : PO X e t' := ⟨fun pins s σ H Q I q => h.run pins s σ H Q I (i σ H Q q)⟩
theorem P_none : PO X none (LO (X.kt τ) oNone) := po_none.imp fun σ H Q ⟨δ, ρ, h, d, h', s, R, q, k⟩ => by
  cases q
  exact k H ρ Ext.refl R
theorem P_some (h : PE X e (LE (X.kt τ) ma)) : PO X (some e) (LO (X.kt τ) (oSome ma)) := (po_some h).imp fun σ H Q ⟨δ, ρ, h0, d, h', s, R, q, k⟩ => by
  unfold oSome at q
  obtain ⟨⟨d1, h1⟩, e1, q⟩ := Option.bind_eq_some_iff.mp q
  cases d1 with
  | int i =>
    cases q
    refine ⟨δ, ρ, h0, _, _, s, R, e1, fun v H1 ρ1 x1 R1 v1 => ?_⟩
    simp only [DV] at v1
    exact ⟨i, v1, k H1 ρ1 x1 R1⟩
  | _ => simp at q
def dSl (x : D) (lo hi : Option Int) (h : Hm) : Option (D × Hm) := match x with
  | .ref r => (getL h r).map fun xs => newL h (cutD xs lo hi)
  | .rol xs => some (newL h (cutD xs lo hi))
  | .tup xs => some (.tup (cutD xs lo hi), h)
  | .str z => if z.length ≤ sizeLine then some (.str (cutS z lo hi), h) else none
  | _ => none
def mSl (m : ME) (lo hi : MO1) : ME := fun δ h => (m δ h).bind fun p => (lo δ p.2).bind fun q => (hi δ q.2).bind fun r => dSl p.1 q.1 r.1 r.2
theorem cut_whole {xs : List D} {lo hi : Option Int} (h1 : HT.sIx xs.length 0 lo = 0) (h2 : HT.sIx xs.length xs.length hi = xs.length) : cutD xs lo hi = xs := by
  unfold cutD
  rw [h1, h2]
  simp
theorem L_slice {lo hi : Option Expr} {ml mh : MO1} {p2 : Pos} (he : PE X e (LE (X.kt τ) ma)) (hl : PO X lo (LO (X.kt τ) ml)) (hh : PO X hi (LO (X.kt τ) mh)) : PE X (.Subscript e (.Slice lo hi none p2) pos) (LE (X.kt τ) (mSl ma ml mh)) := by
  refine (pe_slice (sl_list.or (sl_tupA.or sl_str)) he hl hh).imp fun σ H Q ⟨δ, ρ, h0, d, h', s, R, q, k⟩ => ?_
  unfold mSl at q
  obtain ⟨⟨d1, h1⟩, e1, q⟩ := Option.bind_eq_some_iff.mp q
  obtain ⟨⟨o2, h2⟩, e2, q⟩ := Option.bind_eq_some_iff.mp q
  obtain ⟨⟨o3, h3⟩, e3, q⟩ := Option.bind_eq_some_iff.mp q
  refine ⟨δ, ρ, h0, d1, h1, s, R, e1, fun v H1 ρ1 x1 R1 v1 => ?_⟩
  refine ⟨δ, ρ1, h1, o2, h2, s.mono x1, R1, e2, fun H2 ρ2 x2 R2 => ?_⟩
  refine ⟨δ, ρ2, h2, o3, h3, (s.mono x1).mono x2, R2, e3, fun H3 ρ3 x3 R3 => ?_⟩
  have x13 := (x1.trans x2).trans x3
  have v3 : DV (X.kt τ) H3 ρ3 d1 v := DV.mono (x2.trans x3) _ _ v1
  have k3 : ∀ v H' ρ', Ext (X.kt τ) H3 ρ3 H' ρ' → Rp (X.kt τ) H' ρ' h' → DV (X.kt τ) H' ρ' d v → Q v H' := fun v H' ρ' x => k v H' ρ' (x13.trans x)
  cases d1 with
  | ref r =>
    obtain ⟨xs, e4, q⟩ := Option.map_eq_some_iff.mp q
    cases q
    obtain ⟨a, ra, rfl⟩ := v3.refI
    obtain ⟨vs, ha, w⟩ := R3.rd e4 ra
    exact .inl ⟨a, vs, rfl, ha, fun p hp => fin_new R3 k3 hp (w.cut _ _)⟩
  | rol xs =>
    cases q
    obtain ⟨a, vs, rfl, ha, w⟩ := v3.rolI
    exact .inl ⟨a, vs, rfl, ha, fun p hp => fin_new R3 k3 hp (w.cut _ _)⟩
  | tup xs =>
    cases q
    obtain ⟨a, vs, rfl, ha, w⟩ := v3.tupI
    refine .inr (.inl ⟨a, vs, rfl, SqT.of ha, fun z => ?_, fun _ p hp => fin_tup R3 k3 hp (w.cut _ _)⟩)
    rw [← w.length] at z
    have e5 := cut_whole z.1 z.2
    rw [e5] at k3
    exact fin R3 k3 (by simp only [DV]; exact ⟨a, vs, rfl, ha, w⟩)
  | str z =>
    simp only [dSl] at q
    split at q
    · rename_i hz
      cases q
      simp only [DV] at v3
      exact .inr (.inr ⟨z, v3, hz, fin R3 k3 (by simp [DV])⟩)
    · cases q
  | _ => simp [dSl] at q
end
end DL
set_option Elab.async false
set_option linter.all false
set_option maxRecDepth 100000
/-! DL.Blt: built-ins by name, methods of lists, ranges. -/
namespace DL
open PySem PySem.Spec PyProof.Rows L2
section
variable {X : Cx} {τ : Tb} {a b e o : Expr} {es : List Expr} {ma mb mo : ME} {mr : MA} {pos : Pos} {F : FD}
def rDs (K : Kx) (F : FD) : List V → Hp → VK → Prop := fun vs H Q => ∃ ρ h ds r h', Rp K H ρ h ∧ DVs K H ρ ds vs ∧ F ds h = some (r, h') ∧ ∀ v H' ρ', Ext K H ρ H' ρ' → Rp K H' ρ' h' → DV K H' ρ' r v → Q v H'
theorem LE.call {K : Kx} {σ : L2.St} {H : Hp} {Q : VK} (h : LE K (mCall F mr) σ H Q) : tCB (rDs K F) (LA K mr) σ H Q := by
  obtain ⟨δ, ρ, h0, d, h', s, R, q, k⟩ := h
  unfold mCall at q
  obtain ⟨⟨ds, h1⟩, e1, q⟩ := Option.bind_eq_some_iff.mp q
  refine ⟨δ, ρ, h0, ds, h1, s, R, e1, fun vs H1 ρ1 x1 R1 v1 => ?_⟩
  exact ⟨ρ1, h1, ds, d, h', R1, v1, q, fun v H2 ρ2 x2 R2 v2 => k v H2 ρ2 (x1.trans x2) R2 v2⟩
theorem L_callB {id : String} {x : Str} {p : Pos} (hc : CallR X (.builtin id) (rDs (X.kt τ) F)) (hg : Gl X x) (hm : X.mg x = none) (hv : bootBuiltins x = some (.builtin id)) (ha : PA X (e :: es) (LA (X.kt τ) mr)) (hn : x ≠ "__name__" := by decide) (hdb : (x == ("__debug__" : Str)) = false := by decide)
    (he : starEach (e :: es) X.env = (false, eval e X.env) :: starEach es X.env := by rfl) (hpl : (backTo pos (starEach es X.env)).any (·.1) = false := by rfl) : PE X (.Call (.Name x p) (e :: es) [] pos) (LE (X.kt τ) (mCall F mr)) :=
  (pe_callB hc hg hm hv ha hn hdb he hpl).imp fun _ _ _ h => h.call
theorem L_callTy {T : String} {x : Str} {p : Pos} (hc : CallR X (.type T) (rDs (X.kt τ) F)) (hg : Gl X x) (hm : X.mg x = none) (hv : bootBuiltins x = some (.type T)) (ha : PA X (e :: es) (LA (X.kt τ) mr)) (hn : x ≠ "__name__" := by decide) (hdb : (x == ("__debug__" : Str)) = false := by decide)
    (he : starEach (e :: es) X.env = (false, eval e X.env) :: starEach es X.env := by rfl) (hpl : (backTo pos (starEach es X.env)).any (·.1) = false := by rfl) : PE X (.Call (.Name x p) (e :: es) [] pos) (LE (X.kt τ) (mCall F mr)) :=
  (pe_callTy hc hg hm hv ha hn hdb he hpl).imp fun _ _ _ h => h.call
theorem DVs.one {K : Kx} {H : Hp} {ρ : List Addr} {d : D} {vs : List V} (w : DVs K H ρ [d] vs) : ∃ v, vs = [v] ∧ DV K H ρ d v := by
  simp only [DVs] at w
  obtain ⟨v, r, rfl, h, rfl⟩ := w
  exact ⟨v, rfl, h⟩
theorem DVs.two {K : Kx} {H : Hp} {ρ : List Addr} {d d2 : D} {vs : List V} (w : DVs K H ρ [d, d2] vs) : ∃ v u, vs = [v, u] ∧ DV K H ρ d v ∧ DV K H ρ d2 u := by
  simp only [DVs] at w
  obtain ⟨v, r, rfl, h, u, r2, rfl, h2, rfl⟩ := w
  exact ⟨v, u, rfl, h, h2⟩
/-- a call with one argument, by cases on it -/
theorem callR1 {f : Value} (h : ∀ (pins : List (Addr × Obj)) (s : Shared) (σ : L2.St) (H : Hp) (x : V) (us : List Value) (Q : VK) (ρ : List Addr) (hm : Hm) (d r : D) (hm' : Hm), Inv X pins σ H s → Vals [x] us → Rp (X.kt τ) H ρ hm → DV (X.kt τ) H ρ d x → F [d] hm = some (r, hm') →
    (∀ v H' ρ', Ext (X.kt τ) H ρ H' ρ' → Rp (X.kt τ) H' ρ' hm' → DV (X.kt τ) H' ρ' r v → Q v H') → wpAny (model X.prog X.w) X.A (call f us) (EP X pins σ Q) X.xe s) (hF : ∀ ds hm, ds.length ≠ 1 → F ds hm = none) : CallR X f (rDs (X.kt τ) F) := by
  intro pins s σ H xs us Q I rv ⟨ρ, hm, ds, r, hm', R, w, q, k⟩
  match ds, w, q with
  | [d], w, q =>
    obtain ⟨v, rfl, dv⟩ := w.one
    exact h pins s σ H v us Q ρ hm d r hm' I rv R dv q k
  | [], w, q => rw [hF [] hm (by simp)] at q; cases q
  | _ :: _ :: _, w, q => rw [hF _ hm (by simp)] at q; cases q

/-! ### len, abs, int, list, tuple, min, max -/
def fLen : FD := fun ds h => match ds with
  | [.ref r] => (getL h r).map fun xs => (.int xs.length, h)
  | [.rol xs] => some (.int xs.length, h)
  | [.tup xs] => some (.int xs.length, h)
  | [.str z] => if z.length ≤ sizeLine then some (.int z.length, h) else none
  | _ => none
theorem B_len : CallR X (.builtin "len") (rDs (X.kt τ) fLen) := by
  refine callR1 (fun pins s σ H x us Q ρ hm d r hm' I rv R dv q k => ?_) (fun ds hm hl => by
    unfold fLen; split <;> simp_all)
  cases d with
  | ref r0 =>
    simp only [fLen] at q
    obtain ⟨xs, e1, q⟩ := Option.map_eq_some_iff.mp q
    cases q
    obtain ⟨a, ra, rfl⟩ := dv.refI
    obtain ⟨vs, ha, w⟩ := R.rd e1 ra
    exact call_len_seq pins s σ H _ us Q I rv ⟨a, vs, rfl, .inl ha, fin R k (by rw [w.length]; simp [DV])⟩
  | rol xs =>
    simp only [fLen] at q
    cases q
    obtain ⟨a, vs, rfl, ha, w⟩ := dv.rolI
    exact call_len_seq pins s σ H _ us Q I rv ⟨a, vs, rfl, .inl ha, fin R k (by rw [w.length]; simp [DV])⟩
  | tup xs =>
    simp only [fLen] at q
    cases q
    obtain ⟨a, vs, rfl, ha, w⟩ := dv.tupI
    exact call_len_seq pins s σ H _ us Q I rv ⟨a, vs, rfl, .inr (SqT.of ha), fin R k (by rw [w.length]; simp [DV])⟩
  | str z =>
    simp only [fLen] at q
    split at q
    · rename_i hz
      cases q
      simp only [DV] at dv; subst dv
      exact call_len_str pins s σ H _ us Q I rv ⟨z, rfl, hz, fin R k (by simp [DV])⟩
    · cases q
  | _ => simp [fLen] at q
def fAbs : FD := fun ds h => match ds with
  | [.int i] => some (.int (if i < 0 then -i else i), h)
  | _ => none
theorem B_abs : CallR X (.builtin "abs") (rDs (X.kt τ) fAbs) := by
  refine callR1 (fun pins s σ H x us Q ρ hm d r hm' I rv R dv q k => ?_) (fun ds hm hl => by
    unfold fAbs; split <;> simp_all)
  cases d with
  | int i =>
    simp only [fAbs] at q
    cases q
    simp only [DV] at dv; subst dv
    exact call_abs pins s σ H _ us Q I rv ⟨i, rfl, fin R k (by simp [DV])⟩
  | _ => simp [fAbs] at q
def fInt : FD := fun ds h => match ds with
  | [.int i] => some (.int i, h)
  | [.bl b] => some (.int (if b = true then 1 else 0), h)
  | [.str z] => if z.length ≤ 640 then (PySem.intText? z).map fun n => (.int n, h) else none
  | _ => none
theorem B_int : CallR X (.type "int") (rDs (X.kt τ) fInt) := by
  refine callR1 (fun pins s σ H x us Q ρ hm d r hm' I rv R dv q k => ?_) (fun ds hm hl => by
    unfold fInt; split <;> simp_all)
  cases d with
  | int i =>
    simp only [fInt] at q
    cases q
    simp only [DV] at dv; subst dv
    exact call_int1 pins s σ H _ us Q I rv (.inl ⟨i, rfl, fin R k (by simp [DV])⟩)
  | bl i =>
    simp only [fInt] at q
    cases q
    simp only [DV] at dv; subst dv
    exact call_int1 pins s σ H _ us Q I rv (.inr ⟨i, rfl, fin R k (by simp [DV])⟩)
  | str z =>
    simp only [fInt] at q
    split at q
    · rename_i hz
      obtain ⟨n, e1, q⟩ := Option.map_eq_some_iff.mp q
      cases q
      simp only [DV] at dv; subst dv
      exact call_int_str pins s σ H _ us Q I rv ⟨z, n, rfl, e1, hz, fin R k (by simp [DV])⟩
    · cases q
  | _ => simp [fInt] at q
def fList : FD := fun ds h => match ds with
  | [.ref r] => (getL h r).map fun xs => newL h xs
  | [.rol xs] => some (newL h xs)
  | [.tup xs] => some (newL h xs)
  | _ => none
theorem B_list : CallR X (.type "list") (rDs (X.kt τ) fList) := by
  refine callR1 (fun pins s σ H x us Q ρ hm d r hm' I rv R dv q k => ?_) (fun ds hm hl => by
    unfold fList; split <;> simp_all)
  cases d with
  | ref r0 =>
    simp only [fList] at q
    obtain ⟨xs, e1, q⟩ := Option.map_eq_some_iff.mp q
    cases q
    obtain ⟨a, ra, rfl⟩ := dv.refI
    obtain ⟨vs, ha, w⟩ := R.rd e1 ra
    exact call_list_of pins s σ H _ us Q I rv ⟨a, vs, rfl, .inl ha, fun l hl => fin_new R k hl w⟩
  | rol xs =>
    simp only [fList] at q
    cases q
    obtain ⟨a, vs, rfl, ha, w⟩ := dv.rolI
    exact call_list_of pins s σ H _ us Q I rv ⟨a, vs, rfl, .inl ha, fun l hl => fin_new R k hl w⟩
  | tup xs =>
    simp only [fList] at q
    cases q
    obtain ⟨a, vs, rfl, ha, w⟩ := dv.tupI
    exact call_list_of pins s σ H _ us Q I rv ⟨a, vs, rfl, .inr (SqT.of ha), fun l hl => fin_new R k hl w⟩
  | _ => simp [fList] at q
def fTuple : FD := fun ds h => match ds with
  | [.ref r] => (getL h r).map fun xs => (.tup xs, h)
  | [.rol xs] => some (.tup xs, h)
  | [.tup xs] => some (.tup xs, h)
  | _ => none
theorem B_tuple : CallR X (.type "tuple") (rDs (X.kt τ) fTuple) := by
  refine callR1 (fun pins s σ H x us Q ρ hm d r hm' I rv R dv q k => ?_) (fun ds hm hl => by
    unfold fTuple; split <;> simp_all)
  cases d with
  | ref r0 =>
    simp only [fTuple] at q
    obtain ⟨xs, e1, q⟩ := Option.map_eq_some_iff.mp q
    cases q
    obtain ⟨a, ra, rfl⟩ := dv.refI
    obtain ⟨vs, ha, w⟩ := R.rd e1 ra
    exact call_tuple_of pins s σ H _ us Q I rv ⟨a, vs, rfl, .inl ⟨ha, fun l hl => fin_tup R k hl w⟩⟩
  | rol xs =>
    simp only [fTuple] at q
    cases q
    obtain ⟨a, vs, rfl, ha, w⟩ := dv.rolI
    exact call_tuple_of pins s σ H _ us Q I rv ⟨a, vs, rfl, .inl ⟨ha, fun l hl => fin_tup R k hl w⟩⟩
  | tup xs =>
    simp only [fTuple] at q
    cases q
    obtain ⟨a, vs, rfl, ha, w⟩ := dv.tupI
    exact call_tuple_of pins s σ H _ us Q I rv ⟨a, vs, rfl, .inr ⟨SqT.of ha, fin R k (by simp only [DV]; exact ⟨a, vs, rfl, ha, w⟩)⟩⟩
  | _ => simp [fTuple] at q
def fMin : FD := fun ds h => match ds with
  | [.int i, .int j] => some (.int (if j < i then j else i), h)
  | _ => none
def fMax : FD := fun ds h => match ds with
  | [.int i, .int j] => some (.int (if j > i then j else i), h)
  | _ => none
theorem B_min (hc : X.calm = true) : CallR X (.builtin "min") (rDs (X.kt τ) fMin) := (call_min2 hc).imp fun vs H Q ⟨ρ, hm, ds, r, hm', R, w, q, k⟩ => by
  unfold fMin at q
  split at q
  · cases q
    obtain ⟨v, u, rfl, h1, h2⟩ := w.two
    simp only [DV] at h1 h2; subst h1 h2
    exact ⟨_, _, rfl, fin R k (by simp [DV])⟩
  · cases q
theorem B_max (hc : X.calm = true) : CallR X (.builtin "max") (rDs (X.kt τ) fMax) := (call_max2 hc).imp fun vs H Q ⟨ρ, hm, ds, r, hm', R, w, q, k⟩ => by
  unfold fMax at q
  split at q
  · cases q
    obtain ⟨v, u, rfl, h1, h2⟩ := w.two
    simp only [DV] at h1 h2; subst h1 h2
    exact ⟨_, _, rfl, fin R k (by simp [DV])⟩
  · cases q
/-! ### all, any over lists of bools -/
def bls : List D → Option (List Bool)
  | [] => some []
  | .bl b :: ds => (bls ds).map fun r => b :: r
  | _ :: _ => none
theorem bls_of {K : Kx} {H : Hp} {ρ : List Addr} : ∀ {ds : List D} {bs : List Bool} {vs : List V}, bls ds = some bs → DVs K H ρ ds vs → vs = bs.map V.bl
  | [], bs, vs, e, w => by simp only [bls, Option.some.injEq] at e; simp only [DVs] at w; subst e w; rfl
  | d :: ds, bs, vs, e, w => by
    cases d with
    | bl b =>
      simp only [bls] at e
      obtain ⟨r, e1, rfl⟩ := Option.map_eq_some_iff.mp e
      simp only [DVs, DV] at w
      obtain ⟨v, vr, rfl, rfl, w2⟩ := w
      rw [bls_of e1 w2]
      rfl
    | _ => simp [bls] at e
def fAll : FD := fun ds h => match ds with
  | [.ref r] => (getL h r).bind fun xs => (bls xs).map fun bs => (.bl (bs.all id), h)
  | _ => none
def fAny : FD := fun ds h => match ds with
  | [.ref r] => (getL h r).bind fun xs => (bls xs).map fun bs => (.bl (bs.any id), h)
  | _ => none
theorem B_all (hc : X.calm = true) : CallR X (.builtin "all") (rDs (X.kt τ) fAll) := (cr_all hc).imp fun vs H Q ⟨ρ, hm, ds, r, hm', R, w, q, k⟩ => by
  unfold fAll at q
  split at q
  · obtain ⟨xs, e1, q⟩ := Option.bind_eq_some_iff.mp q
    obtain ⟨bs, e2, q⟩ := Option.map_eq_some_iff.mp q
    cases q
    obtain ⟨v, rfl, h1⟩ := w.one
    obtain ⟨a, ra, rfl⟩ := h1.refI
    obtain ⟨us, ha, w⟩ := R.rd e1 ra
    rw [bls_of e2 w] at ha
    exact ⟨a, bs, rfl, ha, fin R k (by simp [DV])⟩
  · cases q
theorem B_any (hc : X.calm = true) : CallR X (.builtin "any") (rDs (X.kt τ) fAny) := (cr_any hc).imp fun vs H Q ⟨ρ, hm, ds, r, hm', R, w, q, k⟩ => by
  unfold fAny at q
  split at q
  · obtain ⟨xs, e1, q⟩ := Option.bind_eq_some_iff.mp q
    obtain ⟨bs, e2, q⟩ := Option.map_eq_some_iff.mp q
    cases q
    obtain ⟨v, rfl, h1⟩ := w.one
    obtain ⟨a, ra, rfl⟩ := h1.refI
    obtain ⟨us, ha, w⟩ := R.rd e1 ra
    rw [bls_of e2 w] at ha
    exact ⟨a, bs, rfl, ha, fin R k (by simp [DV])⟩
  · cases q
/-! ### repr -/
def fRepr : FD := fun ds h => match ds with
  | [d] => (py h deepest d).bind fun p => if p.showable = true ∧ p.shown.length ≤ sizeLine ∧ SeqAt.shaped p = true then some (.str p.shown, h) else none
  | _ => none
theorem B_repr (hG : GA X.A) (hu : X.A.units + 70 < cLine) : CallR X (.builtin "repr") (rDs (X.kt τ) fRepr) := by
  refine callR1 (fun pins s σ H x us Q ρ hm d r hm' I rv R dv q k => ?_) (fun ds hm hl => by
    unfold fRepr; split <;> simp_all)
  simp only [fRepr] at q
  obtain ⟨p, e1, q⟩ := Option.bind_eq_some_iff.mp q
  split at q
  · rename_i hp
    obtain ⟨p1, p2, p3⟩ := hp
    cases q
    obtain ⟨u, rfl, rx⟩ := rv.one
    have dp := dp_of R _ _ _ _ e1 dv
    have dep : p.depth ≤ 64 := by
      have := (Bool.and_eq_true_iff.mp p3).2
      simpa using this
    have nod : p.hasDict = true → False := fun z => by
      rw [PyData.hasDict_of_canLay p (SeqAt.canLay_of_shaped p3)] at z
      cases z
    obtain ⟨as, rd⟩ := Dp.reads I p x u dp rx
    have fin' : ∀ (h' : Heap) (t : Tok) (tk : Nat), (∀ b o, s.heap.get? b = some o → h'.get? b = some o) → EP X pins σ Q (.str p.shown t) { s with heap := h', toks := tk } := fun h' t tk hk => ⟨.str p.shown, H, I.kept (t' := tk) hk, ⟨t, rfl⟩, fin R k (by simp [DV])⟩
    cases rd with
    | none => exact P.repr_of_none (fin' _ _ _ fun _ _ z => z)
    | bool b => exact P.repr_of_bool (fin' _ _ _ fun _ _ z => z)
    | int i t => exact P.repr_of_int (by simpa [PyData.showable] using p1) (fin' _ _ _ fun _ _ z => z)
    | str z t => exact P.repr_of_str (fin' _ _ _ fun _ _ z => z) p2
    | list h1 h2 h3 h4 => exact repr_of_reads' (.list h1 h2 h3 h4) p1 (fun z => (nod z).elim) hG (by omega) (fun _ _ z => z) (fun h' t tk hk => fin' h' t tk hk) p2
    | tuple h1 h2 h3 h4 => exact repr_of_reads' (.tuple h1 h2 h3 h4) p1 (fun z => (nod z).elim) hG (by omega) (fun _ _ z => z) (fun h' t tk hk => fin' h' t tk hk) p2
    | _ => exact (nod (by simp [PyData.hasDict])).elim
  · cases q
/-! ### isinstance -/
def tyD (h : Hm) : D → Option String
  | .non => some "NoneType"
  | .bl _ => some "bool"
  | .int _ => some "int"
  | .str _ => some "str"
  | .tup _ => some "tuple"
  | .ref i => (getL h i).map fun _ => "list"
  | _ => none
def fIsi : FD := fun ds h => match ds with
  | [x, .ty T] => (tyD h x).bind fun t => (kitB t T).map fun b => (.bl b, h)
  | _ => none
theorem tyX_of {K : Kx} {H : Hp} {ρ : List Addr} {h : Hm} {d : D} {v : V} {t : String} (R : Rp K H ρ h) (q : DV K H ρ d v) (e : tyD h d = some t) : TyX K.K H v (.type t) := by
  cases d with
  | non => simp only [tyD, Option.some.injEq] at e; simp only [DV] at q; subst e q; exact .base .non
  | bl b => simp only [tyD, Option.some.injEq] at e; simp only [DV] at q; subst e q; exact .base (.bl b)
  | int i => simp only [tyD, Option.some.injEq] at e; simp only [DV] at q; subst e q; exact .base (.int i)
  | str x => simp only [tyD, Option.some.injEq] at e; simp only [DV] at q; subst e q; exact .base (.str x)
  | tup xs =>
    simp only [tyD, Option.some.injEq] at e; subst e
    obtain ⟨a, vs, rfl, ha, w⟩ := q.tupI
    exact .base (.tup ha)
  | ref i =>
    simp only [tyD] at e
    obtain ⟨xs, e1, rfl⟩ := Option.map_eq_some_iff.mp e
    obtain ⟨a, ra, rfl⟩ := q.refI
    obtain ⟨vs, ha, w⟩ := R.lst e1 ra
    exact .base (.lst ha)
  | _ => simp [tyD] at e
theorem B_isi : CallR X (.builtin "isinstance") (rDs (X.kt τ) fIsi) := call_isi.imp fun vs H Q ⟨ρ, hm, ds, r, hm', R, w, q, k⟩ => by
  unfold fIsi at q
  split at q
  · obtain ⟨t, e1, q⟩ := Option.bind_eq_some_iff.mp q
    obtain ⟨b, e2, q⟩ := Option.map_eq_some_iff.mp q
    cases q
    obtain ⟨v, u, rfl, h1, h2⟩ := w.two
    simp only [DV] at h2; subst h2
    exact ⟨v, _, .type t, .type _, b, rfl, .ty _, tyX_of R h1 e1, kit_ty e2, fin R k (by simp [DV])⟩
  · cases q
/-! ### methods of lists -/
abbrev FM := D → List D → Hm → Option (D × Hm)
def mMeth (F : FM) (mo : ME) (mr : MA) : ME := fun δ h => (mo δ h).bind fun p => match p.1 with
  | .ref r => if (getL p.2 r).isSome = true then (mr δ p.2).bind fun q => F p.1 q.1 q.2 else none
  | _ => none
def rDm (K : Kx) (F : FM) : V → List V → Hp → VK → Prop := fun x vs H Q => ∃ ρ h d ds r h', Rp K H ρ h ∧ DV K H ρ d x ∧ DVs K H ρ ds vs ∧ F d ds h = some (r, h') ∧ ∀ v H' ρ', Ext K H ρ H' ρ' → Rp K H' ρ' h' → DV K H' ρ' r v → Q v H'
theorem LE.meth {FM1 : FM} {σ : L2.St} {H : Hp} {Q : VK} (h : LE (X.kt τ) (mMeth FM1 mo mr) σ H Q) : tBM X.K "list" (rDm (X.kt τ) FM1) (LE (X.kt τ) mo) (LA (X.kt τ) mr) σ H Q := by
  obtain ⟨δ, ρ, h0, d, h', s, R, q, k⟩ := h
  unfold mMeth at q
  obtain ⟨⟨d1, h1⟩, e1, q⟩ := Option.bind_eq_some_iff.mp q
  cases d1 with
  | ref r =>
    simp only at q
    split at q
    · rename_i hz
      obtain ⟨⟨ds, h2⟩, e2, q⟩ := Option.bind_eq_some_iff.mp q
      obtain ⟨xs, ex⟩ := Option.isSome_iff_exists.mp hz
      refine ⟨δ, ρ, h0, _, h1, s, R, e1, fun v H1 ρ1 x1 R1 v1 => ?_⟩
      obtain ⟨a, ra, rfl⟩ := v1.refI
      obtain ⟨vs, ha, w⟩ := R1.rd ex ra
      refine ⟨.inl ⟨rfl, vs, ha⟩, δ, ρ1, h1, ds, h2, s.mono x1, R1, e2, fun us H2 ρ2 x2 R2 v2 => ?_⟩
      exact ⟨ρ2, h2, _, ds, d, h', R2, DV.mono x2 _ _ v1, v2, q, fun u H3 ρ3 x3 R3 v3 => k u H3 ρ3 ((x1.trans x2).trans x3) R3 v3⟩
    · cases q
  | _ => simp at q
theorem LE.meth0 {FM1 : FM} {σ : L2.St} {H : Hp} {Q : VK} (h : LE (X.kt τ) (mMeth FM1 mo aNil) σ H Q) : tBM0 X.K "list" (rDm (X.kt τ) FM1) (LE (X.kt τ) mo) σ H Q := by
  obtain ⟨δ, ρ, h0, d, h', s, R, q, k⟩ := LE.meth h
  refine ⟨δ, ρ, h0, d, h', s, R, q, fun v H1 ρ1 x1 R1 v1 => ?_⟩
  obtain ⟨t1, δ2, ρ2, h2, ds, h3, s2, R2, q2, k2⟩ := k v H1 ρ1 x1 R1 v1
  cases q2
  exact ⟨t1, k2 [] H1 ρ2 Ext.refl R2 DVs.nil⟩
theorem MtR.of {X : Cx} {id : String} {r r' : V → List V → Hp → VK → Prop} (h : MtM X id r) (i : ∀ x vs H Q, r' x vs H Q → r x vs H Q) : MtR X id r' := fun pins s σ H x xs v us Q I rx rs q => h pins s σ H x xs v us Q I rx rs (i _ _ _ _ q)
def fAppend : FM := fun d ds h => match d, ds with
  | .ref r, [y] => (getL h r).bind fun xs => if xs.length < sizeLine then some (.non, h.set r (.lst (xs ++ [y]))) else none
  | _, _ => none
theorem M_append : MtR X "list.append" (rDm (X.kt τ) fAppend) := by
  refine MtR.of mt_append fun x vs H Q ⟨ρ, h, d, ds, r, h', R, v1, w, q, k⟩ => ?_
  unfold fAppend at q
  split at q
  · obtain ⟨xs, e1, q⟩ := Option.bind_eq_some_iff.mp q
    split at q
    · rename_i hz
      cases q
      obtain ⟨a, ra, rfl⟩ := v1.refI
      obtain ⟨y, rfl, dy⟩ := w.one
      obtain ⟨us, hu, wu⟩ := R.lst e1 ra
      obtain ⟨x9, R9⟩ := set_lst R e1 ra (wu.append (DVs.cons dy DVs.nil))
      exact ⟨a, us, y, rfl, rfl, hu, by rw [← wu.length]; exact hz, k _ _ _ x9 R9 (by simp [DV])⟩
    · cases q
  · cases q
theorem L_append {apos cpos : Pos} {pl : Sem Bool} (ho : PE X o (LE (X.kt τ) mo)) (ha : PA X (e :: es) (LA (X.kt τ) mr)) (h : PE X (.Call (.Attribute o "append" apos) (e :: es) [] cpos) (tBM X.K "list" (rDm (X.kt τ) fAppend) (LE (X.kt τ) mo) (LA (X.kt τ) mr))) : PE X (.Call (.Attribute o "append" apos) (e :: es) [] cpos) (LE (X.kt τ) (mMeth fAppend mo mr)) :=
  h.imp fun _ _ _ q => LE.meth q
def fPop : FM := fun d ds h => match d, ds with
  | .ref r, [] => (getL h r).bind fun xs => (xs[xs.length - 1]?).map fun y => (y, h.set r (.lst xs.dropLast))
  | .ref r, [.int i] => (getL h r).bind fun xs => if -(2 ^ 63) ≤ i ∧ i < 2 ^ 63 then (seqIndex? i xs.length).bind fun k => (xs[k]?).map fun y => (y, h.set r (.lst (xs.eraseIdx k))) else none
  | _, _ => none
theorem DVs.dropLast {K : Kx} {H : Hp} {ρ : List Addr} {ds : List D} {vs : List V} (w : DVs K H ρ ds vs) : DVs K H ρ ds.dropLast vs.dropLast := by
  rw [List.dropLast_eq_take, List.dropLast_eq_take, w.length]
  exact w.take _
theorem M_pop0 : MtR X "list.pop" (fun x vs H Q => vs = [] ∧ rDm (X.kt τ) fPop x vs H Q) := by
  refine MtR.of mt_pop fun x vs H Q ⟨h0, ρ, h, d, ds, r, h', R, v1, w, q, k⟩ => ?_
  subst h0
  have : ds = [] := List.length_eq_zero_iff.mp w.length
  subst this
  cases d with
  | ref r0 =>
    simp only [fPop] at q
    obtain ⟨xs, e1, q⟩ := Option.bind_eq_some_iff.mp q
    obtain ⟨y, e2, q⟩ := Option.map_eq_some_iff.mp q
    cases q
    obtain ⟨a, ra, rfl⟩ := v1.refI
    obtain ⟨us, hu, wu⟩ := R.lst e1 ra
    obtain ⟨v, h1, h2⟩ := wu.get e2
    obtain ⟨x9, R9⟩ := set_lst R e1 ra wu.dropLast
    exact ⟨a, us, v, rfl, rfl, hu, by rw [← wu.length]; exact h1, k _ _ _ x9 R9 (DV.mono x9 _ _ h2)⟩
  | _ => simp [fPop] at q
theorem M_pop1 : MtR X "list.pop" (fun x vs H Q => vs ≠ [] ∧ rDm (X.kt τ) fPop x vs H Q) := by
  refine MtR.of mt_popAt fun x vs H Q ⟨h0, ρ, h, d, ds, r, h', R, v1, w, q, k⟩ => ?_
  cases d with
  | ref r0 =>
    match ds, w, q with
    | [], w, q => simp only [DVs] at w; exact absurd w h0
    | [.int i], w, q =>
      simp only [fPop] at q
      obtain ⟨xs, e1, q⟩ := Option.bind_eq_some_iff.mp q
      split at q
      · rename_i hz
        obtain ⟨kk, e2, q⟩ := Option.bind_eq_some_iff.mp q
        obtain ⟨y, e3, q⟩ := Option.map_eq_some_iff.mp q
        cases q
        obtain ⟨v, rfl, hv⟩ := w.one
        simp only [DV] at hv; subst hv
        obtain ⟨a, ra, rfl⟩ := v1.refI
        obtain ⟨us, hu, wu⟩ := R.lst e1 ra
        obtain ⟨v, h1, h2⟩ := wu.get e3
        obtain ⟨x9, R9⟩ := set_lst R e1 ra (wu.eraseIdx kk)
        exact ⟨a, us, i, kk, v, rfl, rfl, hu, hz.1, hz.2, by rw [← wu.length]; exact e2, h1, k _ _ _ x9 R9 (DV.mono x9 _ _ h2)⟩
      · cases q
    | .non :: _, w, q => simp [fPop] at q
    | .bl _ :: _, w, q => simp [fPop] at q
    | .str _ :: _, w, q => simp [fPop] at q
    | .tup _ :: _, w, q => simp [fPop] at q
    | .rol _ :: _, w, q => simp [fPop] at q
    | .ref _ :: _, w, q => simp [fPop] at q
    | .ty _ :: _, w, q => simp [fPop] at q
    | .int _ :: _ :: _, w, q => simp [fPop] at q
  | _ => simp [fPop] at q
theorem M_pop : MtR X "list.pop" (rDm (X.kt τ) fPop) := fun pins s σ H x xs v us Q I rx rs q => by
  by_cases h : xs = []
  · exact M_pop0 pins s σ H x xs v us Q I rx rs ⟨h, q⟩
  · exact M_pop1 pins s σ H x xs v us Q I rx rs ⟨h, q⟩
/-! ### ranges -/
variable {tg : Expr}
theorem I_rng1 {p : Pos} (hg : Gl X "range") (hm : X.mg "range" = none) (ha : PE X a (LE (X.kt τ) ma)) (hs : starEach [a] X.env = [(false, eval a X.env)] := by rfl) : PI X tg (.Call (.Name "range" p) [a] [] pos) (LI (X.kt τ) (iRng1 ma)) := by
  refine (pi_range1 hg hm (pa_cons ha pa_nil hs) hs).imp fun σ H Rr ⟨δ, ρ, h, S, h', s, R, q, k⟩ => ?_
  unfold DL.iRng1 at q
  obtain ⟨⟨d1, h1⟩, e1, q⟩ := Option.bind_eq_some_iff.mp q
  cases d1 with
  | int n =>
    simp only at q
    split at q
    · rename_i hz
      cases q
      refine ⟨δ, ρ, h, _, _, s, R, e1, fun v H1 ρ1 x1 R1 v1 => ?_⟩
      simp only [DV] at v1; subst v1
      exact ⟨n, rfl, hz.1, hz.2, k _ H1 ρ1 x1 R1 itOk_rng⟩
    · cases q
  | _ => simp at q
theorem I_rng2 {p : Pos} (hg : Gl X "range") (hm : X.mg "range" = none) (ha : PE X a (LE (X.kt τ) ma)) (hb : PE X b (LE (X.kt τ) mb)) (hs : starEach [a, b] X.env = [(false, eval a X.env), (false, eval b X.env)] := by rfl) (hs2 : starEach [b] X.env = [(false, eval b X.env)] := by rfl) :
    PI X tg (.Call (.Name "range" p) [a, b] [] pos) (LI (X.kt τ) (iRng2 ma mb)) := by
  refine (pi_range2 hg hm (pa_cons ha (pa_cons hb pa_nil hs2) (by rw [hs, hs2])) hs hs2).imp fun σ H Rr ⟨δ, ρ, h, S, h', s, R, q, k⟩ => ?_
  unfold DL.iRng2 at q
  obtain ⟨⟨d1, h1⟩, e1, q⟩ := Option.bind_eq_some_iff.mp q
  obtain ⟨⟨d2, h2⟩, e2, q⟩ := Option.bind_eq_some_iff.mp q
  cases d1 with
  | int i =>
    cases d2 with
    | int j =>
      simp only at q
      split at q
      · rename_i hz
        cases q
        refine ⟨δ, ρ, h, _, _, s, R, e1, fun v H1 ρ1 x1 R1 v1 => ?_⟩
        refine ⟨δ, ρ1, h1, _, _, s.mono x1, R1, e2, fun u H2 ρ2 x2 R2 v2 => ?_⟩
        simp only [DV] at v1 v2; subst v1 v2
        exact ⟨i, j, rfl, ⟨hz.1.1, hz.1.2, hz.2.1, hz.2.2⟩, k _ H2 ρ2 (x1.trans x2) R2 itOk_rng⟩
      · cases q
    | _ => simp at q
  | _ => simp at q
end
end DL
set_option Elab.async false
set_option linter.all false
set_option maxRecDepth 100000
/-! DL.DOps: what is done with dicts. -/
namespace DL
open PySem PySem.Spec PyProof.Rows L2
def getK (h : Hm) (i : Nat) : Option (List (D × D)) := match h[i]? with
  | some (.dct kvs) => some kvs
  | _ => none
def tkey : D → Option NestedKey
  | .tup ds => (nk (.tup ds)).bind fun k => if k.depth ≤ 8 then some k else none
  | _ => none
def dLook (kvs : List (D × D)) (k : NestedKey) : Option D := (kvs.find? fun p => decide (nk p.1 = some k)).map (·.2)
def dPut (kvs : List (D × D)) (kd : D) (k : NestedKey) (v : D) : List (D × D) := if (dLook kvs k).isSome = true then kvs.map fun p => if nk p.1 = some k then (p.1, v) else p else kvs ++ [(kd, v)]
def dDrop (kvs : List (D × D)) (k : NestedKey) : List (D × D) := kvs.filter fun p => decide (nk p.1 ≠ some k)
theorem getK_at {h : Hm} {i : Nat} {kvs : List (D × D)} (e : getK h i = some kvs) : h[i]? = some (.dct kvs) := by
  unfold getK at e
  split at e
  · rename_i q; cases e; exact q
  · cases e
theorem tkey_of {d : D} {k : NestedKey} (e : tkey d = some k) : (∃ ds, d = .tup ds) ∧ nk d = some k ∧ k.depth ≤ 8 := by
  cases d with
  | tup ds =>
    simp only [tkey] at e
    obtain ⟨k', e1, e⟩ := Option.bind_eq_some_iff.mp e
    split at e
    · rename_i hd
      cases e
      exact ⟨⟨ds, rfl⟩, e1, hd⟩
    · cases e
  | _ => simp [tkey] at e
section
variable {X : Cx} {τ : Tb} {pins : List (Addr × Obj)} {σ : L2.St} {H : Hp} {s : Shared} {ρ : List Addr} {h : Hm}
abbrev RU (z : NestedKey × Addr × V) (u : NestedKey × Addr × Value) : Prop := z.1 = u.1 ∧ z.2.1 = u.2.1 ∧ RelV z.2.2 u.2.2
theorem look_of {K : Kx} {kvs : List (D × D)} {zs : List (NestedKey × Addr × V)} {us : List (NestedKey × Addr × Value)} (p1 : Paired (ER K H ρ) kvs zs) (p2 : Paired RU zs us) (k : NestedKey) :
    (dLook kvs k = none ∧ atKey us k = none) ∨ ∃ d v u b, dLook kvs k = some d ∧ atKey us k = some (b, u) ∧ DV K H ρ d v ∧ RelV v u := by
  rcases Paired.find (p := fun p : D × D => decide (nk p.1 = some k)) (q := fun z : NestedKey × Addr × V => decide (z.1 = k)) p1 (fun a b r => by rw [r.1]; simp) with ⟨e1, e2⟩ | ⟨a, z, e1, e2, r⟩
  · rcases Paired.find (p := fun z : NestedKey × Addr × V => decide (z.1 = k)) (q := fun u : NestedKey × Addr × Value => decide (u.1 = k)) p2 (fun a b r => by rw [r.1]) with ⟨e3, e4⟩ | ⟨z', u, e3, e4, r2⟩
    · exact .inl ⟨by unfold dLook; rw [e1]; rfl, by unfold atKey; rw [e4]; rfl⟩
    · rw [e2] at e3; cases e3
  · rcases Paired.find (p := fun z : NestedKey × Addr × V => decide (z.1 = k)) (q := fun u : NestedKey × Addr × Value => decide (u.1 = k)) p2 (fun a b r => by rw [r.1]) with ⟨e3, e4⟩ | ⟨z', u, e3, e4, r2⟩
    · rw [e2] at e3; cases e3
    · rw [e2] at e3; cases e3
      exact .inr ⟨a.2, z.2.2, u.2.2, u.2.1, by unfold dLook; rw [e1]; rfl, by unfold atKey; rw [e4]; rfl, r.2.2.2, r2.2.2⟩
theorem key_at (I : Inv X pins σ H s) {d : D} {k : NestedKey} {v : V} {u : Value} (e : tkey d = some k) (q : DV (X.kt τ) H ρ d v) (r : RelV v u) : ∃ b, v = .ref b ∧ u = .ref b ∧ (nestedKind X.prog X.w).is s.heap k b := by
  obtain ⟨⟨ds, rfl⟩, e1, hd⟩ := tkey_of e
  have n := nested_of I _ _ _ _ e1 q r
  obtain ⟨a, xs, rfl, ha, w⟩ := q.tupI
  cases r
  exact ⟨a, rfl, rfl, n, hd⟩
theorem Rp.dct {K : Kx} (R : Rp K H ρ h) {i : Nat} {kvs : List (D × D)} {a : Addr} (e : getK h i = some kvs) (ra : ρ[i]? = some a) : DctV K H ρ a kvs := R.at (getK_at e) ra
abbrev Rm (A : Around) : Prop := A.units + 20 < cLine
theorem room1 {P : Program} {w : World} {A : Around} (r : Rm A) : (nestedKind P w).room A.in1 := by
  show A.units + 1 + 8 < cLine
  omega
/-- x in d -/
def dInD (neg : Bool) : F2 := fun x y h => match y with
  | .ref i => (getK h i).bind fun kvs => (tkey x).map fun k => (.bl (neg != (dLook kvs k).isSome), h)
  | _ => none
theorem in_dct (hu : Rm X.A) : OpD X τ (compareOp .In) (dInD false) := by
  intro pins s σ H x y v u Q I rx ry ⟨ρ, h, d, e, r, h', R, v1, v2, q, k⟩
  cases e with
  | ref i =>
    simp only [dInD] at q
    obtain ⟨kvs, e1, q⟩ := Option.bind_eq_some_iff.mp q
    obtain ⟨key, e2, q⟩ := Option.map_eq_some_iff.mp q
    cases q
    obtain ⟨a, ra, rfl⟩ := v2.refI
    obtain rfl : u = Value.ref a := ry
    obtain ⟨hs, _, zs, us, hH, hz, nd, p1, p2, hm⟩ := (R.dct e1 ra).heap I
    obtain ⟨b, rfl, rfl, kis⟩ := key_at I e2 v1 rx
    refine wpAny_in_heap (room1 hu) kis hs hm ?_
    have e3 : (dLook kvs key).isSome = (atKey us key).isSome := by
      rcases look_of p1 p2 key with ⟨l1, l2⟩ | ⟨_, _, _, _, l1, l2, _⟩ <;> rw [l1, l2] <;> rfl
    exact ⟨.bl (atKey us key).isSome, H, I.tok _, rfl, fin R k (by rw [← e3]; simp [DV])⟩
  | _ => simp [dInD] at q
theorem notIn_dct (hu : Rm X.A) : OpD X τ (compareOp .NotIn) (dInD true) := by
  intro pins s σ H x y v u Q I rx ry ⟨ρ, h, d, e, r, h', R, v1, v2, q, k⟩
  cases e with
  | ref i =>
    simp only [dInD] at q
    obtain ⟨kvs, e1, q⟩ := Option.bind_eq_some_iff.mp q
    obtain ⟨key, e2, q⟩ := Option.map_eq_some_iff.mp q
    cases q
    obtain ⟨a, ra, rfl⟩ := v2.refI
    obtain rfl : u = Value.ref a := ry
    obtain ⟨hs, _, zs, us, hH, hz, nd, p1, p2, hm⟩ := (R.dct e1 ra).heap I
    obtain ⟨b, rfl, rfl, kis⟩ := key_at I e2 v1 rx
    refine notIn_keyed (kvs := pairsH us) (room1 hu) kis hs ⟨us, hm, rfl⟩ ?_
    have e3 : (dLook kvs key).isSome = (valueAt (pairsH us) key).isSome := by
      rw [valueAt_pairsH, Option.isSome_map]
      rcases look_of p1 p2 key with ⟨l1, l2⟩ | ⟨_, _, _, _, l1, l2, _⟩ <;> rw [l1, l2] <;> rfl
    exact ⟨.bl (!(valueAt (pairsH us) key).isSome), H, I.tok _, rfl, fin R k (by rw [← e3]; simp [DV])⟩
  | _ => simp [dInD] at q
end

/-! ### in, of lists, tuples, texts, dicts -/
def fl : D → Option V
  | .non => some .non
  | .bl b => some (.bl b)
  | .int i => some (.int i)
  | .str x => some (.str x)
  | _ => none
def fls : List D → Option (List V)
  | [] => some []
  | d :: ds => (fl d).bind fun v => (fls ds).map fun r => v :: r
theorem fl_of {K : Kx} {H : Hp} {ρ : List Addr} {d : D} {v w : V} (e : fl d = some v) (q : DV K H ρ d w) : w = v ∧ flatV v = true := by
  cases d <;> simp only [fl, Option.some.injEq] at e <;> first
    | (simp only [DV] at q; subst e q; exact ⟨rfl, rfl⟩)
    | cases e
theorem fls_of {K : Kx} {H : Hp} {ρ : List Addr} : ∀ {ds : List D} {vs ws : List V}, fls ds = some vs → DVs K H ρ ds ws → ws = vs ∧ vs.all flatV = true
  | [], vs, ws, e, q => by simp only [fls, Option.some.injEq] at e; simp only [DVs] at q; subst e q; exact ⟨rfl, rfl⟩
  | d :: ds, vs, ws, e, q => by
    simp only [fls] at e
    obtain ⟨v, e1, e⟩ := Option.bind_eq_some_iff.mp e
    obtain ⟨r, e2, rfl⟩ := Option.map_eq_some_iff.mp e
    simp only [DVs] at q
    obtain ⟨u, us, rfl, q1, q2⟩ := q
    obtain ⟨rfl, f1⟩ := fl_of e1 q1
    obtain ⟨rfl, f2⟩ := fls_of e2 q2
    exact ⟨rfl, by simp [f1, f2]⟩
def dInG (neg : Bool) : F2 := fun x y h => match y with
  | .ref i => match h[i]? with
    | some (.dct _) => dInD neg x y h
    | some (.lst _) => (py h deepest x).bind fun p => (py h deepest y).bind fun q => match q with
      | .list ps => if SeqAt.shaped p = true ∧ SeqAt.shaped (.list ps) = true then some (.bl (neg != ps.any fun z => PyData.eqv z p), h) else none
      | _ => none
    | none => none
  | .tup ds => (fl x).bind fun v => (fls ds).map fun vs => (.bl (neg != inV v vs), h)
  | .str z => match x with
    | .str w => some (.bl (neg != !(Builtin.Str.occurrences z w 0 z.length 1).isEmpty), h)
    | _ => none
  | _ => none
section
variable {X : Cx} {τ : Tb}
theorem O_in (hu : X.A.units + 70 < cLine) : OpD X τ (compareOp .In) (dInG false) := by
  intro pins s σ H x y v u Q I rx ry ⟨ρ, h, d, e, r, h', R, v1, v2, q, k⟩
  cases e with
  | ref i =>
    simp only [dInG] at q
    split at q
    · exact in_dct (by show X.A.units + 20 < cLine; omega) pins s σ H x y v u Q I rx ry ⟨ρ, h, d, _, r, h', R, v1, v2, q, k⟩
    · obtain ⟨p, e1, q⟩ := Option.bind_eq_some_iff.mp q
      obtain ⟨p2, e2, q⟩ := Option.bind_eq_some_iff.mp q
      split at q
      · split at q
        · rename_i hs
          cases q
          exact op_inD (by omega) pins s σ H x y v u Q I rx ry ⟨p, _, dp_of R _ _ _ _ e1 v1, dp_of R _ _ _ _ e2 v2, hs.1, hs.2, fin R k (by simp [DV])⟩
        · cases q
      · cases q
    · cases q
  | tup ds =>
    simp only [dInG] at q
    obtain ⟨w1, e1, q⟩ := Option.bind_eq_some_iff.mp q
    obtain ⟨ws, e2, q⟩ := Option.map_eq_some_iff.mp q
    cases q
    obtain ⟨a, vs, rfl, ha, w⟩ := v2.tupI
    obtain ⟨rfl, f1⟩ := fl_of e1 v1
    obtain ⟨rfl, f2⟩ := fls_of e2 w
    exact op_in_seq pins s σ H _ _ v u Q I rx ry ⟨a, _, rfl, .inr (SqT.of ha), f1, f2, fin R k (by simp [DV])⟩
  | str z =>
    cases d with
    | str w =>
      simp only [dInG, Option.some.injEq, Prod.mk.injEq] at q
      obtain ⟨rfl, rfl⟩ := q
      simp only [DV] at v1 v2; subst v1 v2
      exact op_in_str pins s σ H _ _ v u Q I rx ry ⟨w, z, rfl, rfl, fin R k (by simp [DV])⟩
    | _ => simp [dInG] at q
  | _ => simp [dInG] at q
theorem O_notIn (hu : X.A.units + 70 < cLine) : OpD X τ (compareOp .NotIn) (dInG true) := by
  intro pins s σ H x y v u Q I rx ry ⟨ρ, h, d, e, r, h', R, v1, v2, q, k⟩
  cases e with
  | ref i =>
    simp only [dInG] at q
    split at q
    · exact notIn_dct (by show X.A.units + 20 < cLine; omega) pins s σ H x y v u Q I rx ry ⟨ρ, h, d, _, r, h', R, v1, v2, q, k⟩
    · obtain ⟨p, e1, q⟩ := Option.bind_eq_some_iff.mp q
      obtain ⟨p2, e2, q⟩ := Option.bind_eq_some_iff.mp q
      split at q
      · split at q
        · rename_i hs
          cases q
          exact op_notInD (by omega) pins s σ H x y v u Q I rx ry ⟨p, _, dp_of R _ _ _ _ e1 v1, dp_of R _ _ _ _ e2 v2, hs.1, hs.2, fin R k (by simp [DV])⟩
        · cases q
      · cases q
    · cases q
  | tup ds =>
    simp only [dInG] at q
    obtain ⟨w1, e1, q⟩ := Option.bind_eq_some_iff.mp q
    obtain ⟨ws, e2, q⟩ := Option.map_eq_some_iff.mp q
    cases q
    obtain ⟨a, vs, rfl, ha, w⟩ := v2.tupI
    obtain ⟨rfl, f1⟩ := fl_of e1 v1
    obtain ⟨rfl, f2⟩ := fls_of e2 w
    exact op_notIn_seq pins s σ H _ _ v u Q I rx ry ⟨a, _, rfl, .inr (SqT.of ha), f1, f2, fin R k (by simp [DV])⟩
  | str z =>
    cases d with
    | str w =>
      simp only [dInG, Option.some.injEq, Prod.mk.injEq] at q
      obtain ⟨rfl, rfl⟩ := q
      simp only [DV] at v1 v2; subst v1 v2
      exact L2.op_notIn_str pins s σ H _ _ v u Q I rx ry ⟨w, z, rfl, rfl, fin R k (by simp [DV])⟩
    | _ => simp [dInG] at q
  | _ => simp [dInG] at q
end
end DL
set_option Elab.async false
set_option linter.all false
set_option maxRecDepth 100000
/-! DL.DPut: d[k], d[k] = v, del d[k], d.pop(k), {}. -/
namespace DL
open PySem PySem.Spec PyProof.Rows L2
section
variable {X : Cx} {τ : Tb} {pins : List (Addr × Obj)} {σ : L2.St} {H : Hp} {s : Shared} {ρ : List Addr} {h : Hm}
/-- a dict is changed: from the new entries in the heap -/
theorem dct_write {a : Addr} {i : Nat} {kvs kvs' : List (D × D)} {zs' : List (NestedKey × Addr × V)} {us' : List (NestedKey × Addr × Value)} {h' : Heap} {t' : Nat} (I : Inv X pins σ H s) (R : Rp (X.kt τ) H ρ h) (e : getK h i = some kvs) (ra : ρ[i]? = some a)
    (hm : h'.DictOfH (nestedKind X.prog X.w) a us') (hs : Heap.SameBut a s.heap h') (hz : zs'.length ≤ sizeLine) (p1 : Paired (ER (X.kt τ) H ρ) kvs' zs') (p2 : Paired RU zs' us') :
    Inv X pins σ (upd H a (dHO X.w a zs')) { s with heap := h', toks := t' } ∧ Ext (X.kt τ) H ρ (upd H a (dHO X.w a zs')) ρ ∧ Rp (X.kt τ) (upd H a (dHO X.w a zs')) ρ (h.set i (.dct kvs')) := by
  obtain ⟨zs, hH, hsys, _, _, _⟩ := R.dct e ra
  have mu : Mut (H a) := by rw [hH]; trivial
  obtain ⟨o, es, ep, ho, hx, hd, he, hk, nd⟩ := hm
  have isd : IsDct X.w a zs' h' := ⟨us', p2, o, es, ep, ho, hx, hd, he⟩
  have x : Ext (X.kt τ) H ρ (upd H a (dHO X.w a zs')) ρ := Ext.mut mu ra
  have nd' : (zs'.map (·.1)).Nodup := by
    have : zs'.map (·.1) = us'.map (·.1) := by
      clear hz p1 isd x hk nd he
      induction p2 with
      | nil => rfl
      | cons r t ih => rw [List.map_cons, List.map_cons, r.1, ih]
    rw [this]
    exact nd
  refine ⟨d_write I mu hs ⟨o, ho⟩ isd.obj, x, (R.set (getK_at e) ra ?_).2⟩
  exact ⟨zs', upd_same, hsys, hz, nd', prMono p1 fun _ _ r => r.mono x⟩
theorem put_of {K : Kx} {kvs : List (D × D)} {zs : List (NestedKey × Addr × V)} {us : List (NestedKey × Addr × Value)} {kd vd : D} {k : NestedKey} {b : Addr} {v : V} {u : Value} (p1 : Paired (ER K H ρ) kvs zs) (p2 : Paired RU zs us) (e : nk kd = some k) (hd : k.depth ≤ 8) (q1 : DV K H ρ kd (.ref b)) (q2 : DV K H ρ vd v) (r : RelV v u) :
    ∃ zs', Paired (ER K H ρ) (dPut kvs kd k vd) zs' ∧ Paired RU zs' (storedH us k b u) ∧ zs'.length ≤ zs.length + 1 := by
  unfold dPut storedH
  have e3 : (dLook kvs k).isSome = (atKey us k).isSome := by
    rcases look_of p1 p2 k with ⟨l1, l2⟩ | ⟨_, _, _, _, l1, l2, _⟩ <;> rw [l1, l2] <;> rfl
  rw [e3]
  split
  · refine ⟨zs.map fun z => if z.1 = k then (z.1, z.2.1, v) else z, ?_, ?_, by simp⟩
    · refine Paired.map2 p1 fun p z rr => ?_
      by_cases hz : z.1 = k
      · rw [if_pos (by rw [rr.1, hz]), if_pos hz]
        exact ⟨rr.1, rr.2.1, rr.2.2.1, q2⟩
      · rw [if_neg (by rw [rr.1]; simpa using hz), if_neg hz]
        exact rr
    · refine Paired.map2 p2 fun z w rr => ?_
      unfold putAt
      by_cases hz : z.1 = k
      · rw [if_pos hz, if_pos (by rw [← rr.1]; exact hz)]
        exact ⟨rr.1, rr.2.1, r⟩
      · rw [if_neg hz, if_neg (by rw [← rr.1]; exact hz)]
        exact rr
  · exact ⟨zs ++ [(k, b, v)], Paired.snoc ⟨e, hd, q1, q2⟩ p1, Paired.snoc ⟨rfl, rfl, r⟩ p2, by simp⟩
theorem drop_of {K : Kx} {kvs : List (D × D)} {zs : List (NestedKey × Addr × V)} {us : List (NestedKey × Addr × Value)} {k : NestedKey} (p1 : Paired (ER K H ρ) kvs zs) (p2 : Paired RU zs us) : ∃ zs', Paired (ER K H ρ) (dDrop kvs k) zs' ∧ Paired RU zs' (withoutH us k) ∧ zs'.length ≤ zs.length := by
  refine ⟨zs.filter fun z => decide (z.1 ≠ k), ?_, ?_, List.length_filter_le _ _⟩
  · exact Paired.any_find p1 fun p z r => by rw [r.1]; simp
  · exact Paired.any_find p2 fun z u r => by rw [r.1]
variable {a b e o value : Expr} {ma mb mo mv : ME} {W : WX} {pos pos' tpos : Pos}
/-- d[k] -/
def dIxD : F2 := fun x y h => match x with
  | .ref i => (getK h i).bind fun kvs => (tkey y).bind fun k => (dLook kvs k).map fun v => (v, h)
  | _ => none
theorem L_ixD (hu : Rm X.A) (ha : PE X a (LE (X.kt τ) ma)) (hb : PE X b (LE (X.kt τ) mb)) (hs : NoSl b) : PE X (.Subscript a b pos) (LE (X.kt τ) (m2 dIxD ma mb)) := by
  constructor
  intro pins s σ H Q I hq
  obtain ⟨δ, ρ, h0, d1, h1, s0, R, q1, k1⟩ := hq.two
  refine subD_of PySem.F.slot_dict_getitem.lookup hs (thn (ha.run pins s σ H _ I ⟨δ, ρ, h0, d1, h1, s0, R, q1, k1⟩) fun u s1 ⟨x, H1, I1, rx, q2⟩ => thn (hb.run pins s1 σ H1 _ I1 q2) fun iv s2 ⟨y, H2, I2, ry, q3⟩ => ?_)
  obtain ⟨ρ2, h2, d, e, r, h', R2, v1, v2, q, k⟩ := q3
  cases d with
  | ref i =>
    simp only [dIxD] at q
    obtain ⟨kvs, e1, q⟩ := Option.bind_eq_some_iff.mp q
    obtain ⟨key, e2, q⟩ := Option.bind_eq_some_iff.mp q
    obtain ⟨vd, e3, q⟩ := Option.map_eq_some_iff.mp q
    cases q
    obtain ⟨a, ra, rfl⟩ := v1.refI
    obtain rfl : u = Value.ref a := rx
    obtain ⟨hs, _, zs, us, hH, hz, nd, p1, p2, hm⟩ := (R2.dct e1 ra).heap I2
    obtain ⟨b, rfl, rfl, kis⟩ := key_at I2 e2 v2 ry
    refine ⟨hm.typeIs, ?_⟩
    rcases look_of p1 p2 key with ⟨l1, l2⟩ | ⟨d3, v3, u3, b3, l1, l2, dv, rv⟩
    · rw [l1] at e3; cases e3
    · rw [l1] at e3; cases e3
      exact wpAny_getItem_heap (room1 hu) kis hm l2 ⟨v3, H2, I2.tok _, rv, fin R2 k dv⟩
  | _ => simp [dIxD] at q
/-- o[i] = v, o a list or a dict -/
def setAny (h : Hm) (o i v : D) : Option Hm := match o with
  | .ref r => match h[r]? with
    | some (.lst xs) => match i with
      | .int k => (ixN xs.length k).map fun j => h.set r (.lst (xs.set j v))
      | _ => none
    | some (.dct kvs) => (tkey i).bind fun k => if kvs.length < sizeLine then some (h.set r (.dct (dPut kvs i k v))) else none
    | none => none
  | _ => none
def rSetA (K : Kx) : TSet := fun o i v H Q => ∃ ρ h dO dI dV h', Rp K H ρ h ∧ DV K H ρ dO o ∧ DV K H ρ dI i ∧ DV K H ρ dV v ∧ setAny h dO dI dV = some h' ∧ ∀ H', Ext K H ρ H' ρ → Rp K H' ρ h' → Q H'
theorem set_any (hu : Rm X.A) : PSet X (rSetA (X.kt τ)) := by
  intro pins s σ H o i v ov iv u Q I ro ri rv ⟨ρ, h, dO, dI, dV, h', R, v1, v2, v3, q, k⟩
  cases dO with
  | ref r =>
    simp only [setAny] at q
    obtain ⟨a, ra, rfl⟩ := v1.refI
    split at q
    · rename_i xs ex
      cases dI with
      | int kk =>
        obtain ⟨j, e1, q⟩ := Option.map_eq_some_iff.mp q
        cases q
        simp only [DV] at v2; subst v2
        have ex' : getL h r = some xs := by unfold getL; rw [ex]
        obtain ⟨vs, hv, w⟩ := R.lst ex' ra
        obtain ⟨x3, R3⟩ := set_lst R ex' ra (w.set v3 j)
        exact set_list pins s σ H _ _ v ov iv u Q I ro ri rv ⟨a, vs, kk, j, rfl, rfl, hv, by rw [← w.length]; exact e1, k _ x3 R3⟩
      | _ => simp at q
    · rename_i kvs ex
      obtain ⟨key, e2, q⟩ := Option.bind_eq_some_iff.mp q
      split at q
      · rename_i hl
        cases q
        have ex' : getK h r = some kvs := by unfold getK; rw [ex]
        obtain rfl : ov = Value.ref a := ro
        obtain ⟨hs, _, zs, us, hH, hz, nd, p1, p2, hm⟩ := (R.dct ex' ra).heap I
        obtain ⟨⟨ds, eD⟩, e3, e4⟩ := tkey_of e2
        obtain ⟨b, rfl, rfl, kis⟩ := key_at I e2 v2 ri
        obtain ⟨zs', p3, p4, hz'⟩ := put_of (u := u) p1 p2 e3 e4 v2 v3 rv
        have lz : zs.length < sizeLine := by rw [← Paired.length p1]; exact hl
        refine wpAny_setItem_heap (room1 hu) kis hm (fun h' hm' hs' => ?_) (by rw [← Paired.length p2]; exact hz)
        obtain ⟨I', x', R'⟩ := dct_write (t' := s.toks + (nestedKind X.prog X.w).draws key) I R ex' ra hm' hs' (by omega) p3 p4
        exact ⟨_, I', k _ x' R'⟩
      · cases q
    · cases q
  | _ => simp [setAny] at q
def gSubA (mo mi : ME) : MG := fun v δ h => (mo δ h).bind fun p => (mi δ p.2).bind fun q => (setAny q.2 p.1 q.1 v).map fun h' => (δ, h')
theorem G_subA (hu : Rm X.A) (ho : PE X o (LE (X.kt τ) mo)) (hi : PE X b (LE (X.kt τ) mb)) (ha : ∀ v, assign (.Subscript o b pos) X.env v = (do
      let ov ← holding [v] (eval o X.env)
      let iv ← holding [v, ov] (eval b X.env)
      standAt pos
      holding [v, ov, iv] (setItem ov iv v)
      release [v, ov, iv] []) := by intro _; rfl) : PG X (.Subscript o b pos) (LG (X.kt τ) [] (gSubA mo mb)) := (pg_sub ho hi (set_any hu) ha).imp fun v σ H Q ⟨d, δ, ρ, h, δ', h', dv, s, R, q, k⟩ => by
  unfold gSubA at q
  obtain ⟨⟨d1, h1⟩, e1, q⟩ := Option.bind_eq_some_iff.mp q
  obtain ⟨⟨d2, h2⟩, e2, q⟩ := Option.bind_eq_some_iff.mp q
  obtain ⟨h3, e3, q⟩ := Option.map_eq_some_iff.mp q
  cases q
  refine ⟨δ, ρ, h, d1, h1, s, R, e1, fun ov H1 ρ1 x1 R1 v1 => ?_⟩
  refine ⟨δ, ρ1, h1, d2, h2, s.mono x1, R1, e2, fun iv H2 ρ2 x2 R2 v2 => ?_⟩
  exact ⟨ρ2, h2, d1, d2, d, _, R2, DV.mono x2 _ _ v1, v2, DV.mono x2 _ _ (DV.mono x1 _ _ dv), e3, fun H3 x3 R3 => k σ H3 ρ2 ((x1.trans x2).trans x3) R3 (((s.mono x1).mono x2).mono x3) Out.refl⟩
/-- d[k] op= v of a list: the item is read, then stored -/
def rGetL (K : Kx) : V → V → Hp → VK → Prop := rD K fun x y h => match x, y with
  | .ref r, .int i => if 0 ≤ i ∧ i < 2 ^ 63 then (getL h r).bind fun xs => (xs[i.toNat]?).map fun d => (d, h) else none
  | _, _ => none
theorem get_l : PGet X (rGetL (X.kt τ)) := by
  intro pins s σ H o i ov iv Q I ro ri ⟨ρ, h, d, e, r, h', R, v1, v2, q, k⟩
  simp only at q
  split at q
  · split at q
    · rename_i hz
      obtain ⟨xs, e1, q⟩ := Option.bind_eq_some_iff.mp q
      obtain ⟨y, e2, q⟩ := Option.map_eq_some_iff.mp q
      cases q
      obtain ⟨a, ra, rfl⟩ := v1.refI
      simp only [DV] at v2; subst v2
      obtain ⟨vs, hv, w⟩ := R.rd e1 ra
      obtain ⟨v, h1, h2⟩ := w.get e2
      obtain rfl : ov = Value.ref a := ro
      obtain ⟨t, rfl⟩ := ri
      obtain ⟨its, rv, pl, _⟩ := I.list hv
      obtain ⟨u, hu, ru⟩ := rv.get h1
      exact wpAny_getItem_list pl.isList hz.1 hz.2 (by simpa using hu) ⟨v, H, I, ru, fin R k h2⟩
    · cases q
  · cases q
/-- what += does to two ints -/
def rAugI (K : Kx) : TIp := rD K dAdd
theorem aug_add : PIp X .Add (fun x y H Q => ∃ i j, x = .int i ∧ y = .int j ∧ Q (.int (i + j)) H) := by
  intro pins s σ H x y v u Q I rx ry q
  exact iop_add pins s σ H x y v u Q I rx ry q
/-- xs[i] += n, ints -/
def sAugAdd (mo mi mv : ME) : MS := fun δ h => (mo δ h).bind fun p => (mi δ p.2).bind fun q => match p.1, q.1 with
  | .ref r, .int i => if 0 ≤ i ∧ i < 2 ^ 63 then (getL q.2 r).bind fun xs => match xs[i.toNat]? with
      | some (.int n) => (mv δ q.2).bind fun w => match w.1 with
        | .int m => (setAny w.2 (.ref r) (.int i) (.int (n + m))).map fun h' => (.nx, δ, h')
        | _ => none
      | _ => none
    else none
  | _, _ => none
theorem S_augAdd (hu : Rm X.A) (ho : PE X o (LE (X.kt τ) mo)) (hi : PE X b (LE (X.kt τ) mb)) (he : PE X e (LE (X.kt τ) mv)) (ha : ∀ ov iv new, augStore b ov iv new = (do holding [new, ov, iv] (setItem ov iv new); release [new, ov, iv] []; pure .next) := by intros; rfl) :
    PS X (.AugAssign (.Subscript o b tpos) .Add e pos) (LS (X.kt τ) W (sAugAdd mo mb mv)) := (ps_augS ho hi get_l he aug_add (set_any hu) ha).imp fun Z σ H ⟨δ, ρ, h0, f, δ', h', s0, R, q, kk⟩ => by
  unfold sAugAdd at q
  obtain ⟨⟨d1, h1⟩, e1, q⟩ := Option.bind_eq_some_iff.mp q
  obtain ⟨⟨d2, h2⟩, e2, q⟩ := Option.bind_eq_some_iff.mp q
  cases d1 with
  | ref r =>
    cases d2 with
    | int i =>
      simp only at q
      split at q
      · rename_i hz
        obtain ⟨xs, e3, q⟩ := Option.bind_eq_some_iff.mp q
        split at q
        · rename_i n e4
          obtain ⟨⟨d5, h5⟩, e5, q⟩ := Option.bind_eq_some_iff.mp q
          cases d5 with
          | int m =>
            obtain ⟨h6, e6, q⟩ := Option.map_eq_some_iff.mp q
            cases q
            refine ⟨δ, ρ, h0, _, h1, s0, R, e1, fun ov H1 ρ1 x1 R1 v1 => ?_⟩
            refine ⟨δ, ρ1, h1, _, h2, s0.mono x1, R1, e2, fun iv H2 ρ2 x2 R2 v2 => ?_⟩
            refine ⟨ρ2, h2, _, _, .int n, h2, R2, DV.mono x2 _ _ v1, v2, by simp only; rw [if_pos hz, e3]; simp [e4], fun v H3 ρ3 x3 R3 v3 => ?_⟩
            refine ⟨δ, ρ3, h2, _, h5, ((s0.mono x1).mono x2).mono x3, R3, e5, fun u H4 ρ4 x4 R4 v4 => ?_⟩
            simp only [DV] at v3 v4; subst v3 v4
            refine ⟨n, m, rfl, rfl, ?_⟩
            exact ⟨ρ4, h5, _, _, .int (n + m), _, R4, DV.mono x4 _ _ (DV.mono x3 _ _ (DV.mono x2 _ _ v1)), DV.mono x4 _ _ (DV.mono x3 _ _ v2), by simp [DV], e6, fun H6 x6 R6 => kk σ H6 ρ4 ((((x1.trans x2).trans x3).trans x4).trans x6) R6 (((((s0.mono x1).mono x2).mono x3).mono x4).mono x6)⟩
          | _ => simp at q
        · cases q
      · cases q
    | _ => simp at q
  | _ => simp at q
/-- del d[k] -/
def sDelD (mo mi : ME) : MS := fun δ h => (mo δ h).bind fun p => (mi δ p.2).bind fun q => match p.1 with
  | .ref r => (getK q.2 r).bind fun kvs => (tkey q.1).bind fun k => if (dLook kvs k).isSome = true then some (.nx, δ, q.2.set r (.dct (dDrop kvs k))) else none
  | _ => none
theorem S_delD (hu : Rm X.A) (ho : PE X o (LE (X.kt τ) mo)) (hi : PE X b (LE (X.kt τ) mb)) : PS X (.Delete [.Subscript o b tpos] pos) (LS (X.kt τ) W (sDelD mo mb)) := by
  constructor
  intro pins s σ H Z I ⟨δ, ρ, h0, f, δ', h', s0, R, q, kk⟩
  unfold sDelD at q
  obtain ⟨⟨d1, h1⟩, e1, q⟩ := Option.bind_eq_some_iff.mp q
  obtain ⟨⟨d2, h2⟩, e2, q⟩ := Option.bind_eq_some_iff.mp q
  cases d1 with
  | ref r =>
    simp only at q
    obtain ⟨kvs, e3, q⟩ := Option.bind_eq_some_iff.mp q
    obtain ⟨key, e4, q⟩ := Option.bind_eq_some_iff.mp q
    split at q
    · rename_i hl
      cases q
      refine wpAny_Delete (wpAny_deleteEach_cons (wpAny_delete_Subscript (thn (ho.run pins s σ H (fun x H1 => ∃ ρ1, Ext (X.kt τ) H ρ H1 ρ1 ∧ Rp (X.kt τ) H1 ρ1 h1 ∧ DV (X.kt τ) H1 ρ1 (.ref r) x) I ⟨δ, ρ, h0, _, h1, s0, R, e1, fun x H1 ρ1 x1 R1 v1 => ⟨ρ1, x1, R1, v1⟩⟩) ?_)))
      rintro u s1 ⟨x, H1, I1, rx, ρ1, x1, R1, v1⟩
      refine thn (hi.run pins s1 σ H1 (fun y H2 => ∃ ρ2, Ext (X.kt τ) H1 ρ1 H2 ρ2 ∧ Rp (X.kt τ) H2 ρ2 h2 ∧ DV (X.kt τ) H2 ρ2 d2 y) I1 ⟨δ, ρ1, h1, _, h2, s0.mono x1, R1, e2, fun y H2 ρ2 x2 R2 v2 => ⟨ρ2, x2, R2, v2⟩⟩) ?_
      rintro iv s2 ⟨y, H2, I2, ry, ρ2, x2, R2, v2⟩
      obtain ⟨a, ra, rfl⟩ := (DV.mono x2 _ _ v1).refI
      obtain rfl : u = Value.ref a := rx
      obtain ⟨hs, _, zs, us, hH, hz, nd, p1, p2, hm⟩ := (R2.dct e3 ra).heap I2
      obtain ⟨b, rfl, rfl, kis⟩ := key_at I2 e4 v2 ry
      rcases look_of p1 p2 key with ⟨l1, l2⟩ | ⟨d3, v3, u3, b3, l1, l2, dv, rv⟩
      · rw [l1] at hl; cases hl
      · obtain ⟨zs', p3, p4, hz'⟩ := drop_of (k := key) p1 p2
        refine wpAny_delItem_heap (room1 hu) kis hs hm l2 (fun h' hm' hs' => ?_) (by rw [← Paired.length p2]; exact hz)
        obtain ⟨I', x', R'⟩ := dct_write (t' := s2.toks + (nestedKind X.prog X.w).draws key) I2 R2 e3 ra hm' hs' (by omega) p3 p4
        exact wpAny_deleteEach_nil ⟨σ, _, I', kk σ _ ρ2 ((x1.trans x2).trans x') R' (((s0.mono x1).mono x2).mono x')⟩
    · cases q
  | _ => simp at q
/-- d.pop(k), k is there -/
def mPopD (mo mi : ME) : ME := fun δ h => (mo δ h).bind fun p => match p.1 with
  | .ref r => if (getK p.2 r).isSome = true then (mi δ p.2).bind fun q => (getK q.2 r).bind fun kvs => (tkey q.1).bind fun k => (dLook kvs k).map fun v => (v, q.2.set r (.dct (dDrop kvs k))) else none
  | _ => none
theorem L_popD {apos cpos : Pos} (hu : Rm X.A) (ho : PE X o (LE (X.kt τ) mo)) (he : PE X e (LE (X.kt τ) mb)) (m : M1 X o "pop" apos e cpos) : PE X (.Call (.Attribute o "pop" apos) [e] [] cpos) (LE (X.kt τ) (mPopD mo mb)) := by
  constructor
  intro pins s σ H Q I ⟨δ, ρ, h0, d, h', s0, R, q, kk⟩
  unfold mPopD at q
  obtain ⟨⟨d1, h1⟩, e1, q⟩ := Option.bind_eq_some_iff.mp q
  cases d1 with
  | ref r =>
    simp only at q
    split at q
    · rename_i hk
      obtain ⟨⟨d2, h2⟩, e2, q⟩ := Option.bind_eq_some_iff.mp q
      obtain ⟨kvs, e3, q⟩ := Option.bind_eq_some_iff.mp q
      obtain ⟨key, e4, q⟩ := Option.bind_eq_some_iff.mp q
      obtain ⟨v0, e5, q⟩ := Option.map_eq_some_iff.mp q
      cases q
      obtain ⟨kv0, e0⟩ := Option.isSome_iff_exists.mp hk
      refine wpAny_Call_method m.base m.few m.line PySem.F.plainAttrs_dict PySem.F.slot_dict_pop PySem.F.type_dict_pop (thn (ho.run pins s σ H (fun x H1 => ∃ ρ1, Ext (X.kt τ) H ρ H1 ρ1 ∧ Rp (X.kt τ) H1 ρ1 h1 ∧ DV (X.kt τ) H1 ρ1 (.ref r) x) I ⟨δ, ρ, h0, _, h1, s0, R, e1, fun x H1 ρ1 x1 R1 v1 => ⟨ρ1, x1, R1, v1⟩⟩) ?_)
      rintro u s1 ⟨x, H1, I1, rx, ρ1, x1, R1, v1⟩
      obtain ⟨a, ra, rfl⟩ := v1.refI
      obtain rfl : u = Value.ref a := rx
      obtain ⟨_, _, _, us0, _, _, _, _, _, hm0⟩ := (R1.dct e0 ra).heap I1
      refine ⟨hm0.typeIs, fun b q => ?_, ?_⟩
      · cases q
        obtain ⟨ob, _, _, t1, t2, _⟩ := hm0
        exact ⟨ob, t1, t2.2.1⟩
      rw [m.trees]
      refine Calls.callWith_builtin rfl (Calls.evalArgs_plain (Calls.spliced_cons (thn (he.run pins s1 σ H1 (fun y H2 => ∃ ρ2, Ext (X.kt τ) H1 ρ1 H2 ρ2 ∧ Rp (X.kt τ) H2 ρ2 h2 ∧ DV (X.kt τ) H2 ρ2 d2 y) I1 ⟨δ, ρ1, h1, _, h2, s0.mono x1, R1, e2, fun y H2 ρ2 x2 R2 v2 => ⟨ρ2, x2, R2, v2⟩⟩) ?_)))
      rintro iv s2 ⟨y, H2, I2, ry, ρ2, x2, R2, v2⟩
      refine Calls.spliced_nil ?_
      have ra2 := x2.get ra
      obtain ⟨hs, _, zs, us, hH, hz, nd, p1, p2, hm⟩ := (R2.dct e3 ra2).heap I2
      obtain ⟨b, rfl, rfl, kis⟩ := key_at I2 e4 v2 ry
      rcases look_of p1 p2 key with ⟨l1, l2⟩ | ⟨d3, v3, u3, b3, l1, l2, dv, rv⟩
      · rw [l1] at e5; cases e5
      · rw [l1] at e5; cases e5
        obtain ⟨zs', p3, p4, hz'⟩ := drop_of (k := key) p1 p2
        refine call_pop_heap (more := []) (.inl rfl) (PySem.F.args_dict_pop_2 _ _) (room1 hu) kis hs hm l2 (fun h' hm' hs' => ?_) (by rw [← Paired.length p2]; exact hz)
        obtain ⟨I', x', R'⟩ := dct_write (t' := s2.toks + (nestedKind X.prog X.w).draws key) I2 R2 e3 ra2 hm' hs' (by omega) p3 p4
        exact ⟨v3, _, I', rv, kk v3 _ ρ2 ((x1.trans x2).trans x') R' (DV.mono x' _ _ dv)⟩
    · cases q
  | _ => simp at q
end
end DL
set_option Elab.async false
set_option linter.all false
set_option maxRecDepth 100000
/-! DL.Srt: sorted(xs) and sorted(d), list(d). -/
namespace DL
open PySem PySem.Spec PyProof.Rows L2
open PySem.W (AllAlike Sortable EachIs dataLe alike)
open Classical

noncomputable section
/-- an item as data -/
def encD (h : Hm) (d : D) : PyData := (py h deepest d).getD .none
structure SortOk (h : Hm) (xs : List D) : Prop where
  there : ∀ d ∈ xs, ∃ p, py h deepest d = some p
  alike : AllAlike (xs.map (encD h))
  sortable : Sortable (xs.map (encD h))
  deep : ∀ d ∈ xs, (encD h d).depth ≤ 8
def sortD (h : Hm) (xs : List D) : List D := xs.mergeSort (dataLe false (encD h))
def getKeys (h : Hm) (r : Nat) : Option (List D) := (getK h r).map fun kvs => kvs.map (·.1)
def fSorted : FD := fun ds h => match ds with
  | [.ref r] => match getL h r with
    | some xs => if SortOk h xs then some (newL h (sortD h xs)) else none
    | none => (getKeys h r).bind fun xs => if SortOk h xs then some (newL h (sortD h xs)) else none
  | [.rol xs] => if SortOk h xs then some (newL h (sortD h xs)) else none
  | _ => none
section
variable {X : Cx} {τ : Tb} {pins : List (Addr × Obj)} {σ : L2.St} {H : Hp} {s : Shared} {ρ : List Addr} {h : Hm}
def RD (K : Kx) (H : Hp) (ρ : List Addr) (u : Value) (d : D) : Prop := ∃ v, RelV v u ∧ DV K H ρ d v
theorem each_rd {K : Kx} : ∀ {ds : List D} {vs : List V} {us : List Value}, DVs K H ρ ds vs → Vals vs us → EachIs (RD K H ρ) us ds
  | [], vs, us, w, r => by
    simp only [DVs] at w
    subst w
    cases r
    exact .nil
  | d :: ds, vs, us, w, r => by
    simp only [DVs] at w
    obtain ⟨v, vr, rfl, w1, w2⟩ := w
    cases r with
    | cons r1 r2 => exact .cons ⟨v, r1, w1⟩ (each_rd w2 r2)
theorem rd_each {K : Kx} : ∀ {ds : List D} {us : List Value}, EachIs (RD K H ρ) us ds → ∃ vs, Vals vs us ∧ DVs K H ρ ds vs
  | [], us, e => by
    cases e
    exact ⟨[], .nil, DVs.nil⟩
  | d :: ds, us, e => by
    cases e with
    | cons e1 e2 =>
      obtain ⟨v, r, w⟩ := e1
      obtain ⟨vs, r2, w2⟩ := rd_each e2
      exact ⟨v :: vs, .cons r r2, DVs.cons w w2⟩
theorem rd_reads (I : Inv X pins σ H s) (R : Rp (X.kt τ) H ρ h) : ∀ {ds : List D} {us : List Value}, (∀ d ∈ ds, ∃ p, py h deepest d = some p) → EachIs (RD (X.kt τ) H ρ) us ds → EachIs (fun u d => ∃ as, Reads s.heap u (encD h d) as) us ds
  | [], us, _, e => by
    cases e
    exact .nil
  | d :: ds, us, t, e => by
    cases e with
    | cons e1 e2 =>
      obtain ⟨v, r, w⟩ := e1
      obtain ⟨p, hp⟩ := t d List.mem_cons_self
      obtain ⟨as, q⟩ := Dp.reads I p v _ (dp_of R _ _ _ _ hp w) r
      refine .cons ⟨as, ?_⟩ (rd_reads I R (fun d m => t d (List.mem_cons_of_mem _ m)) e2)
      unfold encD
      rw [hp]
      exact q
theorem sort_list (hu : Rm X.A) (I : Inv X pins σ H s) (R : Rp (X.kt τ) H ρ h) {a : Addr} {ds : List D} {vs : List V} {Q : VK} (hl : SqL X.K H a vs) (w : DVs (X.kt τ) H ρ ds vs) (ok : SortOk h ds)
    (k : ∀ v H' ρ', Ext (X.kt τ) H ρ H' ρ' → Rp (X.kt τ) H' ρ' (newL h (sortD h ds)).2 → DV (X.kt τ) H' ρ' (newL h (sortD h ds)).1 v → Q v H') : wpAny (model X.prog X.w) X.A (call (.builtin "sorted") [.ref a]) (EP X pins σ Q) X.xe s := by
  obtain ⟨its, rv, pl, hz⟩ := I.list hl
  have e := each_rd w rv
  refine PySem.W.sorted_data pl.isList e (rd_reads I R ok.there e) ok.alike ok.sortable (by rw [w.length]; exact hz) (fun d m => ?_) fun out ho eo => ?_
  · have := ok.deep d m
    have h2 : X.A.units + 20 < cLine := hu
    omega
  · obtain ⟨vs', r', w'⟩ := rd_each eo
    obtain ⟨ep, he'⟩ := PyProof.Rows.sortedAll_at s.heap its out.toArray
    have hlen : vs'.length ≤ sizeLine := by
      rw [r'.length, ho, w.length]
      exact hz
    have hn := I.hok.fresh (Nat.le_succ s.heap.objs.size)
    refine ⟨.ref _, upd H (s.heap.objs.size + 1) (.lst vs'), I.laid (t' := s.toks) (fun _ _ => PyProof.Rows.sortedAll_old) (Nat.le_succ _) ⟨hlen, out, ep, r', he'⟩, rfl, ?_⟩
    exact fin_new R k hn w'
/-- the keys of a dict, in a row -/
theorem dct_keys {K : Kx} {a : Addr} {kvs : List (D × D)} {zs : List (NestedKey × Addr × V)} : Paired (ER K H ρ) kvs zs → DVs K H ρ (kvs.map (·.1)) (zs.map fun z => V.ref z.2.1) := by
  intro p
  induction p with
  | nil => exact DVs.nil
  | cons r _ ih => exact DVs.cons r.2.2.1 ih

theorem keys_us {zs : List (NestedKey × Addr × V)} {us : List (NestedKey × Addr × Value)} (pu : Paired (fun (z : NestedKey × Addr × V) (u : NestedKey × Addr × Value) => z.1 = u.1 ∧ z.2.1 = u.2.1 ∧ RelV z.2.2 u.2.2) zs us) : Vals (zs.map fun z => V.ref z.2.1) (us.map fun u => Value.ref u.2.1) := by
  induction pu with
  | nil => exact .nil
  | cons r _ ih => exact .cons (by show Value.ref _ = Value.ref _; rw [r.2.1]) ih
/-- what iterating a dict collects -/
theorem dct_collect (hc : X.calm = true) (I : Inv X pins σ H s) {a : Addr} {kvs : List (D × D)} (q : DctV (X.kt τ) H ρ a kvs) {Q : List Value → Shared → Prop} {E : Value → Shared → Prop} {A : Around} (hA : A.handled = none)
    (k : ∀ us vs h' tk, Vals vs us → DVs (X.kt τ) H ρ (kvs.map (·.1)) vs → (∀ b o, s.heap.get? b = some o → h'.get? b = some o) → us.length ≤ sizeLine → Q us { s with heap := h', toks := tk }) : wpAny (model X.prog X.w) A (collect (.ref a)) Q E s := by
  obtain ⟨hs, hl, zs, us, ha, hz, nd, pr, pu, o, es, ep, ho, hx, hdt, he, _⟩ := q.heap I
  have l1 : es.size = us.length := size_of_entries he
  have l2 : kvs.length = us.length := (Paired.length pr).trans (Paired.length pu)
  refine PySem.W.kdu_collect (kdl_raw hs hx hdt) hA ho (by omega) fun h' tk acc hk it => ?_
  have ea : acc.toList = us.map fun x => Value.ref x.2.1 := by
    have hl : acc.toList.length = us.length := by rw [Array.length_toList, it.1]; exact l1
    apply List.ext_getElem?
    intro j
    rw [List.getElem?_map]
    cases hj : acc.toList[j]? with
    | none =>
      have h1 := List.getElem?_eq_none_iff.mp hj
      rw [List.getElem?_eq_none (by omega)]
      all_goals rfl
    | some v =>
      obtain ⟨en, hen, hv⟩ := it.2 j v (by rw [← Array.getElem?_toList]; exact hj)
      have qe := entry_at he j
      rw [hen] at qe
      cases hb : us[j]? with
      | none =>
        rw [hb] at qe
        exact nomatch (show some en = none from qe)
      | some b =>
        rw [hb] at qe
        have e2 := Option.some.inj qe
        rw [hv, e2]
        all_goals rfl
  rw [ea]
  exact k _ _ h' tk (keys_us pu) (dct_keys (a := a) pr) hk (by rw [List.length_map]; omega)

theorem sort_dict (hc : X.calm = true) (hu : Rm X.A) (I : Inv X pins σ H s) (R : Rp (X.kt τ) H ρ h) {a : Addr} {kvs : List (D × D)} {Q : VK} (q : DctV (X.kt τ) H ρ a kvs) (ok : SortOk h (kvs.map (·.1)))
    (k : ∀ v H' ρ', Ext (X.kt τ) H ρ H' ρ' → Rp (X.kt τ) H' ρ' (newL h (sortD h (kvs.map (·.1)))).2 → DV (X.kt τ) H' ρ' (newL h (sortD h (kvs.map (·.1)))).1 v → Q v H') : wpAny (model X.prog X.w) X.A (call (.builtin "sorted") [.ref a]) (EP X pins σ Q) X.xe s := by
  refine Calls.call_function_entry PyProof.Rows.kind_sorted PyProof.Rows.plain_sorted PyProof.Rows.entry_sorted (PyProof.Rows.args_sorted1 _) ?_
  unfold Builtin.«sorted»
  refine wpAny_bind (m := checkCount "sorted" 1 1 _) (wpAny_pure ?_)
  refine wpAny_bind (dct_collect hc (A := X.A.in1) I q (I.ok.hd hc) fun us vs h' tk rv w hk hz => ?_)
  have I1 : Inv X pins σ H { s with heap := h', toks := tk } := I.kept hk
  refine wpAny_bind (wpAny_newList ?_ hz)
  have hoL : (h'.push (seqObj "list" us.toArray 0)).get? h'.objs.size = some (seqObj "list" us.toArray 0) := Heap.get?_push_size _ rfl
  show wpAny _ _ _ _ _ { s with heap := h'.push (seqObj "list" us.toArray 0), toks := tk }
  have e := each_rd w rv
  have er := rd_reads I1 R ok.there e
  have ks : ∀ b o, h'.get? b = some o → (PySem.W.sortingHeap (h'.push (seqObj "list" us.toArray 0)) h'.objs.size us).get? b = some o := fun b o q => by
    rw [PySem.W.sortingHeap_old (Nat.ne_of_lt (Heap.lt_size q)) (Heap.get?_push_of_some _ q)]
  have er' : EachIs (fun u d => ∃ as, Reads (PySem.W.sortingHeap (h'.push (seqObj "list" us.toArray 0)) h'.objs.size us) u (encD h d) as) us (kvs.map (·.1)) := er.mono fun _ _ ⟨as, r⟩ => ⟨as, PyProof.Rows.Reads.keeps ks r⟩
  refine wpAny_bind (wpAny_holding (wpAny_call_entry PyProof.Rows.slot_list_sort ⟨_, hoL, rfl⟩ PyProof.Rows.entry_list_sort
    (PySem.W.list_sort_vals (κ := PySem.W.dataKind (PySem.W.sortingHeap (h'.push (seqObj "list" us.toArray 0)) h'.objs.size us) ((kvs.map (·.1)).map (encD h))) (s := { s with heap := h'.push (seqObj "list" us.toArray 0), toks := tk }) hoL
      (PySem.W.SortsAt.data (s := { s with heap := PySem.W.sortingHeap (h'.push (seqObj "list" us.toArray 0)) h'.objs.size us, toks := tk }) (PySem.W.each_map (R := fun v d => ∃ as, Reads (PySem.W.sortingHeap (h'.push (seqObj "list" us.toArray 0)) h'.objs.size us) v d as) (encD h) er') ok.alike ok.sortable ?_) hz ⟨_, rfl, ?_⟩)
    (PyProof.Rows.args_list_sort _)))
  · intro d hd
    obtain ⟨b, hb, rfl⟩ := List.mem_map.mp hd
    have := ok.deep b hb
    have h2 : X.A.units + 20 < cLine := hu
    show X.A.units + 1 + 1 + _ < cLine
    omega
  · have eo := PySem.W.sortVals_data (enc := encD h) (h' := PySem.W.sortingHeap (h'.push (seqObj "list" us.toArray 0)) h'.objs.size us) false e er' ok.alike
    obtain ⟨vs', r', w'⟩ := rd_each eo
    obtain ⟨e', he'⟩ := PyProof.Rows.sortedHeap_at (vs := us) (out := (PySem.W.sortVals (PySem.W.dataKind (PySem.W.sortingHeap (h'.push (seqObj "list" us.toArray 0)) h'.objs.size us) ((kvs.map (·.1)).map (encD h))) false us us).toArray) hoL
    have hlen : vs'.length ≤ sizeLine := by
      rw [r'.length, PySem.W.sortVals_length false rfl]
      exact hz
    have hn := I1.hok.fresh (Nat.le_refl h'.objs.size)
    refine wpAny_pure ⟨_, rfl, .ref h'.objs.size, upd H h'.objs.size (.lst vs'), I1.laid (t' := tk) (fun b u q => ?_) (Nat.le_refl _) ⟨hlen, _, e', r', he'⟩, rfl, fin_new R k hn w'⟩
    have hb : b < h'.objs.size := Heap.lt_size q
    rw [PyProof.Rows.sortedHeap_old (Nat.ne_of_lt hb) (by rw [size_push']; exact Nat.lt_succ_of_lt hb)]
    exact Heap.get?_push_of_some _ q
theorem B_sorted (hc : X.calm = true) (hu : Rm X.A) : CallR X (.builtin "sorted") (rDs (X.kt τ) fSorted) := by
  refine callR1 (fun pins s σ H x us Q ρ hm d r hm' I rv R dv q k => ?_) (fun ds hm hl => by
    unfold fSorted; split <;> simp_all)
  obtain ⟨u, rfl, ru⟩ := rv.one
  cases d with
  | ref r0 =>
    obtain ⟨a, ra, rfl⟩ := dv.refI
    obtain rfl : u = Value.ref a := ru
    simp only [fSorted] at q
    split at q
    · rename_i xs ex
      split at q
      · rename_i ok
        cases q
        obtain ⟨vs, ha, w⟩ := R.rd ex ra
        exact sort_list hu I R ha w ok k
      · cases q
    · obtain ⟨xs, e1, q⟩ := Option.bind_eq_some_iff.mp q
      unfold getKeys at e1
      obtain ⟨kvs, e2, rfl⟩ := Option.map_eq_some_iff.mp e1
      split at q
      · rename_i ok
        cases q
        exact sort_dict hc hu I R (R.dct e2 ra) ok k
      · cases q
  | rol xs =>
    obtain ⟨a, vs, rfl, ha, w⟩ := dv.rolI
    obtain rfl : u = Value.ref a := ru
    simp only [fSorted] at q
    split at q
    · rename_i ok
      cases q
      exact sort_list hu I R ha w ok k
    · cases q
  | _ => simp [fSorted] at q
/-- list(xs), list(d) -/
def fListA : FD := fun ds h => match ds with
  | [.ref r] => match getL h r with
    | some xs => some (newL h xs)
    | none => (getKeys h r).map fun xs => newL h xs
  | ds => fList ds h
theorem list_dict (hc : X.calm = true) (I : Inv X pins σ H s) (R : Rp (X.kt τ) H ρ h) {a : Addr} {kvs : List (D × D)} {Q : VK} (q : DctV (X.kt τ) H ρ a kvs)
    (k : ∀ v H' ρ', Ext (X.kt τ) H ρ H' ρ' → Rp (X.kt τ) H' ρ' (newL h (kvs.map (·.1))).2 → DV (X.kt τ) H' ρ' (newL h (kvs.map (·.1))).1 v → Q v H') : wpAny (model X.prog X.w) X.A (call (.type "list") [.ref a]) (EP X pins σ Q) X.xe s := by
  obtain ⟨hs, hl, zs, us, ha, hz, nd, pr, pu, o, es, ep, ho, hx, hdt, he, _⟩ := q.heap I
  have l1 : es.size = us.length := size_of_entries he
  have l2 : kvs.length = us.length := (Paired.length pr).trans (Paired.length pu)
  refine PySem.W.kdl_call (kdl_raw hs hx hdt) (I.ok.hd hc) ho (by omega) fun h' tk acc' c' kp e it => ?_
  have ea : acc'.toList = us.map fun x => Value.ref x.2.1 := by
    have hl : acc'.toList.length = us.length := by rw [Array.length_toList, it.1]; exact l1
    apply List.ext_getElem?
    intro j
    rw [List.getElem?_map]
    cases hj : acc'.toList[j]? with
    | none =>
      have h1 := List.getElem?_eq_none_iff.mp hj
      rw [List.getElem?_eq_none (by omega)]
      all_goals rfl
    | some v =>
      obtain ⟨en, hen, hv⟩ := it.2 j v (by rw [← Array.getElem?_toList]; exact hj)
      have qe := entry_at he j
      rw [hen] at qe
      cases hb : us[j]? with
      | none =>
        rw [hb] at qe
        exact nomatch (show some en = none from qe)
      | some b =>
        rw [hb] at qe
        have e2 := Option.some.inj qe
        rw [hv, e2]
        all_goals rfl
  have rv := keys_us pu
  have w := dct_keys (a := a) pr
  have hn := I.hok.fresh (Nat.le_refl s.heap.objs.size)
  refine ⟨.ref s.heap.objs.size, _, I.laid (t' := tk) (o := .lst (zs.map fun z => V.ref z.2.1)) kp (Nat.le_refl _) ?_, rfl, fin_new R k hn w⟩
  exact ⟨by rw [List.length_map]; exact hz, acc'.toList, c', by rw [ea]; exact rv, by rw [Array.toArray_toList]; exact e⟩
theorem B_listA (hc : X.calm = true) : CallR X (.type "list") (rDs (X.kt τ) fListA) := by
  refine callR1 (fun pins s σ H x us Q ρ hm d r hm' I rv R dv q k => ?_) (fun ds hm hl => by
    unfold fListA fList; split <;> (try split) <;> simp_all)
  cases d with
  | ref r0 =>
    obtain ⟨a, ra, rfl⟩ := dv.refI
    simp only [fListA] at q
    split at q
    · rename_i xs ex
      cases q
      obtain ⟨vs, ha, w⟩ := R.rd ex ra
      exact call_list_of pins s σ H _ us Q I rv ⟨a, vs, rfl, .inl ha, fun l hl => fin_new R k hl w⟩
    · obtain ⟨xs, e1, q⟩ := Option.map_eq_some_iff.mp q
      unfold getKeys at e1
      obtain ⟨kvs, e2, rfl⟩ := Option.map_eq_some_iff.mp e1
      cases q
      obtain ⟨u, rfl, ru⟩ := rv.one
      obtain rfl : u = Value.ref a := ru
      exact list_dict hc I R (R.dct e2 ra) k
  | non => exact B_list pins s σ H _ us Q I rv ⟨ρ, hm, _, r, hm', R, DVs.cons dv DVs.nil, q, k⟩
  | bl b => exact B_list pins s σ H _ us Q I rv ⟨ρ, hm, _, r, hm', R, DVs.cons dv DVs.nil, q, k⟩
  | int b => exact B_list pins s σ H _ us Q I rv ⟨ρ, hm, _, r, hm', R, DVs.cons dv DVs.nil, q, k⟩
  | str b => exact B_list pins s σ H _ us Q I rv ⟨ρ, hm, _, r, hm', R, DVs.cons dv DVs.nil, q, k⟩
  | tup b => exact B_list pins s σ H _ us Q I rv ⟨ρ, hm, _, r, hm', R, DVs.cons dv DVs.nil, q, k⟩
  | rol b => exact B_list pins s σ H _ us Q I rv ⟨ρ, hm, _, r, hm', R, DVs.cons dv DVs.nil, q, k⟩
  | ty b => exact B_list pins s σ H _ us Q I rv ⟨ρ, hm, _, r, hm', R, DVs.cons dv DVs.nil, q, k⟩
end
end
end DL
set_option Elab.async false
set_option linter.all false
set_option maxRecDepth 100000
/-! DL.Itr: enumerate(xs), list(range(..)), tuple(range(..)), t * k. -/
namespace DL
open PySem PySem.Spec PyProof.Rows L2
def enD (ds : List D) : List D := ds.mapIdx fun i d => .tup [.int (i : Nat), d]
def iEnum1 (m : ME) : MI := fun δ h => (m δ h).bind fun p => match p.1 with
  | .ref i => (getL p.2 i).map fun ds => (⟨enD ds, fun h => getL h i = some ds⟩, p.2)
  | .rol ds => some (⟨enD ds, fun _ => True⟩, p.2)
  | _ => none
section
variable {X : Cx} {τ : Tb} {e : Expr} {me : ME} {mr : MA}
theorem itOk_en {K : Kx} {H0 : Hp} {ρ0 : List Addr} {a : Addr} {ds : List D} {gd : Hm → Prop} (rd : ∀ H ρ h, Ext K H0 ρ0 H ρ → Rp K H ρ h → gd h → ∃ xs, SqL K.K H a xs ∧ DVs K H ρ ds xs) : ItOk K H0 ρ0 (Ite K.K a) ⟨enD ds, gd⟩ := by
  intro k H ρ h x R hg
  obtain ⟨xs, s, w⟩ := rd H ρ h x R hg
  refine ⟨fun d hd => ?_, fun hk => ⟨xs, s, by rw [← w.length, hk]; simp [enD]⟩⟩
  simp only [enD, List.getElem?_mapIdx, Option.map_eq_some_iff] at hd
  obtain ⟨d0, h0, rfl⟩ := hd
  obtain ⟨v, hv, dv⟩ := w.get h0
  refine ⟨⟨xs, v, s, hv⟩, fun y H' ⟨T, u, e1, nT, e2, hy⟩ => ?_⟩
  subst e1 e2
  have := hy xs s
  rw [hv] at this
  cases this
  obtain ⟨x2, R2⟩ := R.other (o := .tup [.int (k : Nat), v]) nT
  refine ⟨ρ, x2, R2, ?_⟩
  simp only [DV]
  exact ⟨T, _, rfl, upd_same, DVs.cons (by simp [DV]) (DVs.cons (DV.mono x2 _ _ dv) DVs.nil)⟩
theorem I_enum {p pos tpos : Pos} {elts : List Expr} {kk : Nat} (hg : Gl X "enumerate") (hm : X.mg "enumerate" = none) (he : PE X e (LE (X.kt τ) me)) (hs : starEach [e] X.env = [(false, eval e X.env)] := by rfl) : PI X (.Tuple elts kk tpos) (.Call (.Name "enumerate" p) [e] [] pos) (LI (X.kt τ) (iEnum1 me)) := by
  refine (pi_enum hg hm (pa_cons he pa_nil hs) hs).imp fun σ H R ⟨δ, ρ, h, S, h', s, R0, q, k⟩ => ?_
  unfold iEnum1 at q
  obtain ⟨⟨d1, h1⟩, e1, q⟩ := Option.bind_eq_some_iff.mp q
  cases d1 with
  | ref i =>
    obtain ⟨ds, e2, q⟩ := Option.map_eq_some_iff.mp q
    cases q
    refine ⟨δ, ρ, h, _, _, s, R0, e1, fun v H1 ρ1 x1 R1 v1 => ?_⟩
    obtain ⟨a, ra, rfl⟩ := v1.refI
    obtain ⟨xs, sx, w⟩ := R1.rd e2 ra
    exact ⟨a, xs, rfl, sx, k _ H1 ρ1 x1 R1 (itOk_en fun H2 ρ2 h2 x2 R2 hg => R2.rd hg (x2.get ra))⟩
  | rol ds =>
    cases q
    refine ⟨δ, ρ, h, _, _, s, R0, e1, fun v H1 ρ1 x1 R1 v1 => ?_⟩
    simp only [DV] at v1
    obtain ⟨a, xs, rfl, sx, w⟩ := v1
    exact ⟨a, xs, rfl, sx.sq, k _ H1 ρ1 x1 R1 (itOk_en fun H2 ρ2 h2 x2 R2 _ => ⟨xs, (x2.rols _ _ sx).sq, w.mono x2⟩)⟩
  | _ => simp at q
end
end DL
set_option Elab.async false
set_option linter.all false
set_option maxRecDepth 100000
set_option maxHeartbeats 4000000
/-! DL.TMul: t * k for every k; ts * k for lists. -/
namespace DL
open PySem PySem.Spec PyProof.Rows L2
theorem tuple_mul_same (l : Addr) (items : Array Value) (n : Nat) (dd : Option Addr) (sl : Array (Option Value)) (x : Int) (u : Tok) (c0 : (decide (x < -(2 ^ 63)) || decide (x ≥ 2 ^ 63)) = false) (c1 : (items.isEmpty || x == 1) = true) :
    Meets (Builtin.«tuple.__mul__» ⟨[.ref l, .int x u], []⟩) (fun _ R s => s.heap.get? l = some { cls := .type "tuple", dict := dd, data := .seq items n, slots := sl } ∧ R (.ok (.ret (Value.ref l))) s) :=
  .of_wp fun prog w A R s h => by
    obtain ⟨hp, g, d, tk, os⟩ := s
    obtain ⟨hl, h⟩ := h
    have f1 := AutoSeq1.idx_int
    wp_walk using wpAny_loadPart' hl
    repeat (first
      | (refine wpAny_ite_false (decide_eq_false (by rw [c0]; exact Bool.false_ne_true)) ?_; wp_walk using wpAny_loadPart' hl)
      | (refine wpAny_ite_true (decide_eq_true c1) ?_; wp_walk using wpAny_loadPart' hl))
    exact ⟨_, rfl, h⟩
theorem tuple_mul_none (l : Addr) (items : Array Value) (n : Nat) (dd : Option Addr) (sl : Array (Option Value)) (x : Int) (u : Tok) (c0 : (decide (x < -(2 ^ 63)) || decide (x ≥ 2 ^ 63)) = false) (c1 : (items.isEmpty || x == 1) = false) (c2 : (decide (x ≤ 0) || items.isEmpty) = true) :
    Meets (Builtin.«tuple.__mul__» ⟨[.ref l, .int x u], []⟩) (fun _ R s => s.heap.get? l = some { cls := .type "tuple", dict := dd, data := .seq items n, slots := sl } ∧ R (.ok (.ret (Value.ref s.heap.objs.size))) { s with heap := s.heap.push { cls := Value.type "tuple", data := Data.seq #[] }, toks := s.toks }) :=
  .of_wp fun prog w A R s h => by
    obtain ⟨hp, g, d, tk, os⟩ := s
    obtain ⟨hl, h⟩ := h
    have f1 := AutoSeq1.idx_int
    wp_walk using wpAny_loadPart' hl
    repeat (first
      | (refine wpAny_ite_false (decide_eq_false (by rw [c0]; exact Bool.false_ne_true)) ?_; wp_walk using wpAny_loadPart' hl)
      | (refine wpAny_ite_false (decide_eq_false (by rw [c1]; exact Bool.false_ne_true)) ?_; wp_walk using wpAny_loadPart' hl)
      | (refine wpAny_ite_true (decide_eq_true c2) ?_; wp_walk using wpAny_loadPart' hl))
    exact ⟨_, rfl, h⟩
def dTMul : F2 := fun x y h => match x, y with
  | .tup ds, .int k => if k ≤ 1000 ∧ -1000 ≤ k ∧ ds.length ≤ 1000 then some (.tup (List.replicate k.toNat ds).flatten, h) else none
  | _, _ => none
section
variable {X : Cx} {τ : Tb}
theorem DVs.flat {K : Kx} {H : Hp} {ρ : List Addr} {ds : List D} {xs : List V} (w : DVs K H ρ ds xs) : ∀ k : Nat, DVs K H ρ (List.replicate k ds).flatten (List.replicate k xs).flatten
  | 0 => DVs.nil
  | k + 1 => by
    simp only [List.replicate_succ, List.flatten_cons]
    exact DVs.append w (DVs.flat w k)
theorem O_tmul : OpD X τ (binaryOp .Mult) dTMul := by
  intro pins s σ H x y v u Q I rx ry ⟨ρ, h, d, e, r, h', R, v1, v2, q, k⟩
  unfold dTMul at q
  split at q
  · rename_i ds kk
    split at q
    · rename_i hk
      cases q
      obtain ⟨l, xs, rfl, ha, w⟩ := v1.tupI
      simp only [DV] at v2
      subst v2
      have rx' := rx
      have ry' := ry
      cases rx
      obtain ⟨t, rfl⟩ := ry
      obtain ⟨its, rr, ⟨⟨cls, dd, data, sl⟩, ho, hc, n, hd⟩, hs⟩ := I.tuple (SqT.of ha)
      simp only at hc hd
      subst hc hd
      have hle : its.length = xs.length := rr.length.symm
      have c0 : (decide (kk < -(2 ^ 63)) || decide (kk ≥ 2 ^ 63)) = false := by
        rw [decide_eq_false (by omega), decide_eq_false (by omega)] <;> rfl
      by_cases hz : xs = [] ∨ kk = 1
      · have c1 : (its.toArray.isEmpty || kk == 1) = true := by
          rcases hz with hz | hz
          · subst hz
            have : its = [] := List.eq_nil_of_length_eq_zero (by simpa using hle)
            subst this
            rfl
          · subst hz
            simp
        refine wpAny_binaryOp_repeat_ref (T := "tuple") (U := "int") (by decide) ⟨_, ho, rfl⟩ (fun s' => typeIs_int s' kk t) noFill_tuple_mul F.fills_int_mul F.slot_int_rmul repeat_tuple F.slot_int_index.lookup
          (call_meets F.slot_int_rmul (typeIs_int s kk t) F.entry_int_rmul (F.args_int_rmul_2 _ _) (int_rmul_tuple kk t l its.toArray n dd sl)
            ⟨ho, rfl, ⟨_, ho, rfl⟩, call_meets F.slot_tuple_mul ⟨_, ho, rfl⟩ F.entry_tuple_mul (F.args_tuple_mul_2 _ _) (tuple_mul_same l its.toArray n dd sl kk t c0 c1) ⟨ho, ?_⟩⟩)
        have ef : (List.replicate kk.toNat ds).flatten = ds := by
          rcases hz with hz | hz
          · have e0 : ds = [] := List.eq_nil_of_length_eq_zero (by rw [w.length, hz]; rfl)
            subst e0
            simp
          · subst hz
            simp
        refine ⟨.ref l, H, I, rfl, k _ H ρ Ext.refl R ?_⟩
        rw [ef]
        simp only [DV]
        exact ⟨l, xs, rfl, ha, w⟩
      · by_cases h2 : 2 ≤ kk
        · refine op_repT pins s σ H _ _ _ _ Q I rx' ry' ⟨l, kk, xs, rfl, rfl, SqT.of ha, fun z => hz (.inl z), h2, hk.1, by rw [← w.length]; exact hk.2.2, fun p hp => ?_⟩
          exact fin_tup R k hp (DVs.flat w _)
        · have c1 : (its.toArray.isEmpty || kk == 1) = false := by
            have hn : its ≠ [] := fun e => hz (.inl (by rw [e] at hle; exact List.eq_nil_of_length_eq_zero hle.symm))
            have hi : its.toArray.isEmpty = false := by
              cases its with
              | nil => exact absurd rfl hn
              | cons a b => rfl
            rw [hi, Bool.false_or]
            exact beq_eq_false_iff_ne.mpr fun z => hz (.inr z)
          have h1 : kk ≠ 1 := fun z => hz (.inr z)
          have c2 : (decide (kk ≤ 0) || its.toArray.isEmpty) = true := by
            rw [decide_eq_true (by omega)]
            rfl
          refine wpAny_binaryOp_repeat_ref (T := "tuple") (U := "int") (by decide) ⟨_, ho, rfl⟩ (fun s' => typeIs_int s' kk t) noFill_tuple_mul F.fills_int_mul F.slot_int_rmul repeat_tuple F.slot_int_index.lookup
            (call_meets F.slot_int_rmul (typeIs_int s kk t) F.entry_int_rmul (F.args_int_rmul_2 _ _) (int_rmul_tuple kk t l its.toArray n dd sl)
              ⟨ho, rfl, ⟨_, ho, rfl⟩, call_meets F.slot_tuple_mul ⟨_, ho, rfl⟩ F.entry_tuple_mul (F.args_tuple_mul_2 _ _) (tuple_mul_none l its.toArray n dd sl kk t c0 c1 c2) ⟨ho, ?_⟩⟩)
          have hn := I.hok.fresh (Nat.le_refl s.heap.objs.size)
          refine ⟨.ref s.heap.objs.size, _, I.laid (t' := s.toks) (o := .tup []) (fun b ob q => Heap.get?_push_of_some _ q) (Nat.le_refl _) ?_, rfl, ?_⟩
          · exact ⟨by simp, [], .nil, IsTup.new _ _⟩
          · have ez : kk.toNat = 0 := by omega
            rw [ez] at k
            exact fin_tup (ds := []) R k hn DVs.nil
    · cases q
  · cases q
end
end DL
set_option Elab.async false
set_option linter.all false
set_option maxRecDepth 100000
/-! DL.Rng: list(range(n)), list(range(a, b)), tuple(range(..)). -/
namespace DL
open PySem PySem.Spec PyProof.Rows L2
def rgOk (a b : Int) : Prop := -(2 ^ 62) ≤ a ∧ a < 2 ^ 62 ∧ -(2 ^ 62) ≤ b ∧ b < 2 ^ 62 ∧ (b - a).toNat ≤ 2 ^ 24
instance (a b : Int) : Decidable (rgOk a b) := by unfold rgOk; infer_instance
def mRg1 (m : ME) (f : Hm → List D → D × Hm) : ME := fun δ h => (m δ h).bind fun p => match p.1 with
  | .int n => if rgOk 0 n then some (f p.2 (rngD 0 n.toNat)) else none
  | _ => none
def mRg2 (ma mb : ME) (f : Hm → List D → D × Hm) : ME := fun δ h => (ma δ h).bind fun p => (mb δ p.2).bind fun q => match p.1, q.1 with
  | .int i, .int j => if rgOk i j then some (f q.2 (rngD i (j - i).toNat)) else none
  | _, _ => none
def tupF (h : Hm) (ds : List D) : D × Hm := (.tup ds, h)
section
variable {X : Cx} {τ : Tb} {a b : Expr} {ma mb : ME} {p pos p2 pos2 : Pos} {K : Kx} {H : Hp} {ρ : List Addr}
theorem rg_dvs (i j : Int) : DVs K H ρ (rngD i (j - i).toNat) (rgV i j) := by
  unfold rngD rgV
  induction (List.range (j - i).toNat) with
  | nil => exact DVs.nil
  | cons n r ih => exact DVs.cons (by simp [DV]) ih
theorem rg_dvs0 (n : Int) : DVs K H ρ (rngD 0 n.toNat) (rgV 0 n) := by
  have := rg_dvs (K := K) (H := H) (ρ := ρ) 0 n
  simpa using this
theorem L_listRg1 (hc : X.calm = true) (hl : Gl X "list") (hml : X.mg "list" = none) (hg : Gl X "range") (hm : X.mg "range" = none) (ha : PE X a (LE (X.kt τ) ma)) (na : starEach [a] X.env = (false, eval a X.env) :: starEach [] X.env := by rfl)
    (nb : starEach [.Call (.Name "range" p2) [a] [] pos2] X.env = (false, eval (.Call (.Name "range" p2) [a] [] pos2) X.env) :: starEach [] X.env := by rfl) :
    PE X (.Call (.Name "list" p) [.Call (.Name "range" p2) [a] [] pos2] [] pos) (LE (X.kt τ) (mRg1 ma newL)) := by
  refine (pe_listRg hc hl hml (prg_1 hg hm ha na) nb).imp fun σ H Q ⟨δ, ρ, h, r, h', s, R, q, k⟩ => ?_
  unfold mRg1 at q
  obtain ⟨⟨d1, h1⟩, e1, q⟩ := Option.bind_eq_some_iff.mp q
  cases d1 with
  | int n =>
    simp only at q
    split at q
    · rename_i hr
      cases q
      refine ⟨δ, ρ, h, _, _, s, R, e1, fun v H1 ρ1 x1 R1 v1 => ?_⟩
      simp only [DV] at v1
      exact ⟨n, v1, hr, fun q hq => fin_new R1 (fun v H2 ρ2 x2 R2 v2 => k v H2 ρ2 (x1.trans x2) R2 v2) hq (rg_dvs0 n)⟩
    · cases q
  | _ => simp at q
theorem L_listRg2 (hc : X.calm = true) (hl : Gl X "list") (hml : X.mg "list" = none) (hg : Gl X "range") (hm : X.mg "range" = none) (ha : PE X a (LE (X.kt τ) ma)) (hb : PE X b (LE (X.kt τ) mb)) (na : starEach [a, b] X.env = (false, eval a X.env) :: starEach [b] X.env := by rfl)
    (na2 : starEach [b] X.env = (false, eval b X.env) :: starEach [] X.env := by rfl) (hpl : (backTo pos2 (starEach [b] X.env)).any (·.1) = false := by rfl)
    (nb : starEach [.Call (.Name "range" p2) [a, b] [] pos2] X.env = (false, eval (.Call (.Name "range" p2) [a, b] [] pos2) X.env) :: starEach [] X.env := by rfl) :
    PE X (.Call (.Name "list" p) [.Call (.Name "range" p2) [a, b] [] pos2] [] pos) (LE (X.kt τ) (mRg2 ma mb newL)) := by
  refine (pe_listRg hc hl hml (prg_2 hg hm ha hb na na2 hpl) nb).imp fun σ H Q ⟨δ, ρ, h, r, h', s, R, q, k⟩ => ?_
  unfold mRg2 at q
  obtain ⟨⟨d1, h1⟩, e1, q⟩ := Option.bind_eq_some_iff.mp q
  obtain ⟨⟨d2, h2⟩, e2, q⟩ := Option.bind_eq_some_iff.mp q
  simp only at q
  split at q
  · rename_i i j _
    split at q
    · rename_i hr
      cases q
      refine ⟨δ, ρ, h, _, _, s, R, e1, fun v H1 ρ1 x1 R1 v1 => ⟨δ, ρ1, _, _, _, s.mono x1, R1, e2, fun u H2 ρ2 x2 R2 v2 => ?_⟩⟩
      simp only [DV] at v1 v2
      exact ⟨i, j, v1, v2, hr, fun q hq => fin_new R2 (fun v H3 ρ3 x3 R3 v3 => k v H3 ρ3 ((x1.trans x2).trans x3) R3 v3) hq (rg_dvs i j)⟩
    · cases q
  · cases q
end
end DL
set_option Elab.async false
set_option linter.all false
set_option maxRecDepth 100000
/-! DL.Dnew: dict(xs) of a list of pairs, {}, a copy of a dict. -/
namespace DL
open PySem PySem.Spec PyProof.Rows L2
def newK (h : Hm) (kvs : List (D × D)) : D × Hm := (.ref h.length, h ++ [.dct kvs])
def dFrom : List D → List (D × D) → Option (List (D × D))
  | [], acc => some acc
  | d :: r, acc => match d with
    | .tup [k, v] => (tkey k).bind fun key => dFrom r (dPut acc k key v)
    | _ => none
def fDict : FD := fun ds h => match ds with
  | [.ref r] => (getL h r).bind fun xs => (dFrom xs []).map fun kvs => newK h kvs
  | [.rol xs] => (dFrom xs []).map fun kvs => newK h kvs
  | _ => none
section
variable {X : Cx} {τ : Tb} {pins : List (Addr × Obj)} {σ : L2.St} {H : Hp} {s : Shared} {ρ : List Addr} {h : Hm}
theorem pairs_at (I : Inv X pins σ H s) : ∀ (ds : List D) (vs : List V) (us : List Value) (acc : List (D × D)) (zs0 : List (NestedKey × Addr × V)) (us0 : List (NestedKey × Addr × Value)) (kvs' : List (D × D)),
    DVs (X.kt τ) H ρ ds vs → Vals vs us → dFrom ds acc = some kvs' → Paired (ER (X.kt τ) H ρ) acc zs0 → Paired RU zs0 us0 →
    ∃ (ps : List (Value × Value)) (qs : List (NestedKey × Addr × Value)) (zs' : List (NestedKey × Addr × V)), ps.length = ds.length ∧ qs.length = ds.length ∧
      (∀ (j : Nat) (k v : Value), ps[j]? = some (k, v) → ∃ (T : Addr) (key : NestedKey) (b : Addr), us[j]? = some (Value.ref T) ∧ PairAt s.heap T k v ∧ qs[j]? = some (key, b, v) ∧ k = Value.ref b) ∧ (∀ q ∈ qs, (nestedKind X.prog X.w).is s.heap q.1 q.2.1) ∧
      Paired (ER (X.kt τ) H ρ) kvs' zs' ∧ Paired RU zs' (storedAllH us0 qs) ∧ zs'.length ≤ zs0.length + ds.length
  | [], vs, us, acc, zs0, us0, kvs', w, rv, q, p1, p2 => by
    simp only [dFrom, Option.some.injEq] at q
    subst q
    exact ⟨[], [], zs0, rfl, rfl, fun j k v e => by simp at e, fun q hq => (nomatch hq), p1, p2, by simp⟩
  | d :: ds, vs, us, acc, zs0, us0, kvs', w, rv, q, p1, p2 => by
    simp only [dFrom] at q
    split at q
    · rename_i kd vd
      obtain ⟨key, e1, q⟩ := Option.bind_eq_some_iff.mp q
      simp only [DVs] at w
      obtain ⟨v, vr, rfl, w1, w2⟩ := w
      cases rv with
      | @cons _ u _ ur r1 r2 =>
        obtain ⟨T, xs, rfl, hT, wx⟩ := w1.tupI
        obtain rfl : u = Value.ref T := r1
        obtain ⟨kv, vv, rfl, wk, wv⟩ := wx.two
        obtain ⟨its, rx, ⟨o, ho, hc, n, hd⟩, _⟩ := I.tuple (SqT.of hT)
        cases rx with
        | @cons _ ku _ itr rk rt =>
          cases rt with
          | @cons _ vu _ itr2 rv' rt2 =>
            cases rt2
            obtain ⟨⟨dsk, eD⟩, e3, e4⟩ := tkey_of e1
            obtain ⟨b, rfl, rfl, kis⟩ := key_at I e1 wk rk
            obtain ⟨zs1, p3, p4, hz1⟩ := put_of (u := vu) p1 p2 e3 e4 wk wv rv'
            obtain ⟨ps, qs, zs', a1, a2, a3, a4, a5, a6, a7⟩ := pairs_at I ds vr ur _ zs1 _ kvs' w2 r2 q p3 p4
            refine ⟨(.ref b, vu) :: ps, (key, b, vu) :: qs, zs', by simp [a1], by simp [a2], fun j k v e => ?_, fun q hq => ?_, a5, a6, by simp only [List.length_cons]; omega⟩
            · cases j with
              | zero =>
                simp only [List.getElem?_cons_zero, Option.some.injEq, Prod.mk.injEq] at e
                obtain ⟨rfl, rfl⟩ := e
                exact ⟨T, key, b, rfl, .inl ⟨o, ho, hc, n, hd⟩, rfl, rfl⟩
              | succ j =>
                obtain ⟨T', key', b', c1, c2, c3, c4⟩ := a3 j k v (by simpa using e)
                exact ⟨T', key', b', by simpa using c1, c2, by simpa using c3, c4⟩
            · rcases List.mem_cons.mp hq with z | z
              · subst z
                exact kis
              · exact a4 q z
    · cases q
/-- a dict laid anew -/
theorem fin_dict {Q : VK} {kvs : List (D × D)} {zs : List (NestedKey × Addr × V)} {us : List (NestedKey × Addr × Value)} {p : Addr} {h' : Heap} {tk : Nat} (I : Inv X pins σ H s) (R : Rp (X.kt τ) H ρ h) (hk : ∀ b o, s.heap.get? b = some o → h'.get? b = some o) (hp : s.heap.objs.size ≤ p) (hsys : (p == sysModules) = false)
    (hm : h'.DictOfH (nestedKind X.prog X.w) p us) (p1 : Paired (ER (X.kt τ) H ρ) kvs zs) (p2 : Paired RU zs us) (hz : zs.length ≤ sizeLine) (k : ∀ v H' ρ', Ext (X.kt τ) H ρ H' ρ' → Rp (X.kt τ) H' ρ' (newK h kvs).2 → DV (X.kt τ) H' ρ' (newK h kvs).1 v → Q v H') :
    EP X pins σ Q (.ref p) { s with heap := h', toks := tk } := by
  obtain ⟨o, es, ep, ho, hx, hd, he, hkk, nd⟩ := hm
  have isd : IsDct X.w p zs h' := ⟨us, p2, o, es, ep, ho, hx, hd, he⟩
  have hn : H p = none := I.hok.fresh hp
  have nd' : (zs.map (·.1)).Nodup := by
    have : zs.map (·.1) = us.map (·.1) := by
      clear hz p1 isd hkk nd he
      induction p2 with
      | nil => rfl
      | cons r t ih => rw [List.map_cons, List.map_cons, r.1, ih]
    rw [this]
    exact nd
  have x : Ext (X.kt τ) H ρ (upd H p (dHO X.w p zs)) (ρ ++ [p]) := Ext.new R hn
  have R' : Rp (X.kt τ) (upd H p (dHO X.w p zs)) (ρ ++ [p]) (h ++ [.dct kvs]) := R.new hn ⟨zs, upd_same, hsys, hz, nd', prMono p1 fun _ _ r => r.mono x⟩
  refine ⟨.ref p, upd H p (dHO X.w p zs), I.laid (t' := tk) hk hp isd.obj, rfl, k _ _ _ x R' ?_⟩
  simp only [newK, DV]
  exact ⟨p, R.newRef, rfl⟩
theorem dict_list (hc : X.calm = true) (hu : Rm X.A) (I : Inv X pins σ H s) (R : Rp (X.kt τ) H ρ h) {a : Addr} {ds : List D} {vs : List V} {Q : VK} {kvs : List (D × D)} (hl : SqL X.K H a vs) (w : DVs (X.kt τ) H ρ ds vs) (q : dFrom ds [] = some kvs)
    (k : ∀ v H' ρ', Ext (X.kt τ) H ρ H' ρ' → Rp (X.kt τ) H' ρ' (newK h kvs).2 → DV (X.kt τ) H' ρ' (newK h kvs).1 v → Q v H') : wpAny (model X.prog X.w) X.A (call (.type "dict") [.ref a]) (EP X pins σ Q) X.xe s := by
  obtain ⟨its, rv, pl, hz⟩ := I.list hl
  obtain ⟨ps, qs, zs', a1, a2, a3, a4, a5, a6, a7⟩ := pairs_at I ds vs its [] [] [] kvs w rv q .nil .nil
  have hlen : ds.length = its.length := by rw [w.length, rv.length]
  let Ts : Nat → Addr := fun j => match its[j]? with
    | some (.ref T) => T
    | _ => 0
  have ok : PlainSeq "list" s.heap a its.toArray ∧ PairItems s.heap its.toArray Ts ps := by
    refine ⟨pl, ⟨by rw [List.size_toArray]; omega, fun j k v e => ?_⟩⟩
    obtain ⟨T, key, b, c1, c2, c3, c4⟩ := a3 j k v e
    have eT : Ts j = T := by show (match its[j]? with | some (.ref T) => T | _ => 0) = T; rw [c1]
    rw [eT]
    exact ⟨by simpa using c1, c2⟩
  have hz' : zs'.length ≤ sizeLine := by
    have : ds.length ≤ sizeLine := by rw [w.length]; exact hz
    simp only [List.length_nil, Nat.zero_add] at a7
    omega
  refine call_dict_pairsH (knd := nestedKind X.prog X.w) (PairArg.list a its.toArray Ts ps) (I.ok.hd hc) ?_ ok (ps := qs) ⟨by omega, fun i key v hr => ?_⟩ (fun h' hk' x hx => ?_) (by rw [a1, w.length]; exact hz) fun h' tk hm hk => ?_
  · show X.A.units + 1 + 1 + 8 < cLine
    have : X.A.units + 20 < cLine := hu
    omega
  · obtain ⟨T, key', b, c1, c2, c3, c4⟩ := a3 i key v hr
    exact ⟨key', b, c3, c4⟩
  · exact (nestedKind_stays (prog := X.prog) (w := X.w)).stays (fun b o vs n e _ => hk' b o (Nat.ne_of_lt (Heap.lt_size e)) (by simp) e) (a4 x hx)
  · exact fin_dict (tk := tk) I R (fun b o e => hk b o (by simp) e) (Nat.le_refl _) (by have := I.big; simpa using Nat.ne_of_gt this) hm a5 a6 hz' k

theorem B_dict (hc : X.calm = true) (hu : Rm X.A) : CallR X (.type "dict") (rDs (X.kt τ) fDict) := by
  refine callR1 (fun pins s σ H x us Q ρ hm d r hm' I rv R dv q k => ?_) (fun ds hm hl => by
    unfold fDict; split <;> simp_all)
  obtain ⟨u, rfl, ru⟩ := rv.one
  cases d with
  | ref r0 =>
    obtain ⟨a, ra, rfl⟩ := dv.refI
    obtain rfl : u = Value.ref a := ru
    simp only [fDict] at q
    obtain ⟨xs, ex, q⟩ := Option.bind_eq_some_iff.mp q
    obtain ⟨kvs, e1, q⟩ := Option.map_eq_some_iff.mp q
    cases q
    obtain ⟨vs, ha, w⟩ := R.rd ex ra
    exact dict_list hc hu I R ha w e1 k
  | rol xs =>
    obtain ⟨a, vs, rfl, ha, w⟩ := dv.rolI
    obtain rfl : u = Value.ref a := ru
    simp only [fDict] at q
    obtain ⟨kvs, e1, q⟩ := Option.map_eq_some_iff.mp q
    cases q
    exact dict_list hc hu I R ha w e1 k
  | _ => simp [fDict] at q
end
end DL
set_option Elab.async false
set_option linter.all false
set_option maxRecDepth 100000
/-! DL.Dcomp: {k: v for target in xs if ..}, keys that are tuples. -/
namespace DL
open PySem PySem.Spec PyProof.Rows L2
open Classical

/-- what one turn asks of the dict's store -/
def rPutD (K : Kx) (D : Addr) (y z : V) (H : Hp) (k : Hp → Prop) : Prop := ∃ ρ h i kd vd kvs key, Rp K H ρ h ∧ ρ[i]? = some D ∧ DV K H ρ kd y ∧ DV K H ρ vd z ∧ getK h i = some kvs ∧ tkey kd = some key ∧ kvs.length < sizeLine ∧
  ∀ H', Ext K H ρ H' ρ → Rp K H' ρ (h.set i (.dct (dPut kvs kd key vd))) → k H'
/-- the reading of such a comprehension -/
def tDm (K : Kx) (wi : TI) (g : TG) (tt : TT) (tk tv : TE) (vs : List Nat) : TE := fun σ H Q => wi σ H fun J H1 => ∀ D, H1 D = none → (D == sysModules) = false → ∃ W : Nat → Nat → Hp → Prop, (∃ m, W 0 m (upd H1 D (dHO K.w D []))) ∧
  ∀ i m H, W i m H → (J.stop i H ∧ Q (.ref D) H) ∨ (J.go i H ∧ ∃ Nx : Hp → Prop, (∀ H', Nx H' → ∃ m', m' < m ∧ W (i + 1) m' H') ∧ ∀ x H', J.yld i H x H' →
    g x (wipe σ vs) H' fun σ2 H2 => wipe σ2 vs = wipe σ vs ∧ tt σ2 H2 fun b H3 => if b = true then tk σ2 H3 fun y H4 => tv σ2 H4 fun z H5 => rPutD K D y z H5 Nx else Nx H3)
section
variable {X : Cx} {τ : Tb} {pins : List (Addr × Obj)} {σ : L2.St} {H : Hp} {s : Shared}
theorem put_new (hu : Rm X.A) {D : Addr} {y z : V} {u r : Value} {Q : Unit → Shared → Prop} {E : Value → Shared → Prop} {k : Hp → Prop} (I : Inv X pins σ H s) (ry : RelV y u) (rz : RelV z r) (q : rPutD (X.kt τ) D y z H k)
    (fin : ∀ H' s', Inv X pins σ H' s' → k H' → Q () s') : wpAny (model X.prog X.w) X.A (dictSet D u r) Q E s := by
  obtain ⟨ρ, h, i, kd, vd, kvs, key, R, ra, v1, v2, ek, e2, hl, kk⟩ := q
  obtain ⟨hs, _, zs, us, hH, hz, nd, p1, p2, hm⟩ := (R.dct ek ra).heap I
  obtain ⟨⟨ds, eD⟩, e3, e4⟩ := tkey_of e2
  obtain ⟨b, rfl, rfl, kis⟩ := key_at I e2 v1 ry
  obtain ⟨zs', p3, p4, hz'⟩ := put_of (u := r) p1 p2 e3 e4 v1 v2 rz
  have lz : zs.length < sizeLine := by rw [← Paired.length p1]; exact hl
  have rm : (nestedKind X.prog X.w).room X.A := by
    show X.A.units + 8 < cLine
    have : X.A.units + 20 < cLine := hu
    omega
  refine wpAny_dictSet_heap (hsz := by rw [← Paired.length p2]; exact hz) rm kis hm fun h' hm' hs' => ?_
  obtain ⟨I', x', R'⟩ := dct_write (t' := s.toks + (nestedKind X.prog X.w).draws key) I R ek ra hm' hs' (by omega) p3 p4
  exact fin _ _ I' (kk _ x' R')
theorem L_dcRaw {kx vx tg iter : Expr} {ifs : List Expr} {scope : Scope} {own : List (Str × Nat)} {pos : Pos} {wi : TI} {g : TG} {tt : TT} {tk tv : TE} (hu : Rm X.A) (hc : X.calm = true) (hN : X.N.Nodup) (hi : PI X tg iter wi) (ok : BlkOk X.N X.env.scope scope own)
    (hg : ∀ (s : Shared) (H : Hp) (C : Addr) (cl : List (Str × Addr)) (fp : List Addr), PG (X.blk s H scope (compEnvC scope cl C X.env) fp) tg g) (ht : ∀ (s : Shared) (H : Hp) (C : Addr) (cl : List (Str × Addr)) (fp : List Addr), PTs (X.blk s H scope (compEnvC scope cl C X.env) fp) ifs tt)
    (hk : ∀ (s : Shared) (H : Hp) (C : Addr) (cl : List (Str × Addr)) (fp : List Addr), PE (X.blk s H scope (compEnvC scope cl C X.env) fp) kx tk)
    (hv : ∀ (s : Shared) (H : Hp) (C : Addr) (cl : List (Str × Addr)) (fp : List Addr), PE (X.blk s H scope (compEnvC scope cl C X.env) fp) vx tv) (hs : ∀ x, foldedSetIterable iter X.env x = pure x) :
    PE X (.DictComp kx vx [⟨tg, iter, ifs, 0⟩] scope pos) (tDm (X.kt τ) wi g tt tk tv (own.map (·.2))) := by
  constructor
  intro pins s σ H Q I hq
  rw [arm_eval_DictComp]
  have captured : ∀ y ∈ scope.names, y.2 = .free → ∃ c, X.env.cells.lookup y.1 = some c := fun y hy e => (ok.free y hy e).elim (fun k => I.ok.has _ (.inl k)) (fun k => I.ok.has _ (.inr k))
  refine wpAny_comprehension_free (use := none) rfl hs (closure_ok captured) ok.kind (fun y hy e => (ok.uniq y hy).trans (congrArg some e)) (thn (hi.run pins s σ H _ I hq) fun _ sa ha => thn ha fun _ sb hb => ?_)
  obtain ⟨it, fp, tn, J, Hb, rfl, Ib, T, stb, fpb, rest⟩ := hb
  refine wpAny_newObj_type (newEnv_comp ?_)
  -- the new dict at D
  obtain ⟨D, eD⟩ : ∃ D, sb.heap.objs.size = D := ⟨_, rfl⟩
  rw [eD]
  have nD : Hb D = none := Ib.hok.fresh (Nat.le_of_eq eD)
  have nS : (D == sysModules) = false := by
    have := Ib.big
    rw [eD] at this
    simpa using Nat.ne_of_gt this
  obtain ⟨W, ⟨m0, w0⟩, turn⟩ := rest D nD nS
  generalize esc : ({ sb with heap := sb.heap.push { cls := .type "dict", data := .dict #[] } } : Shared) = sc
  obtain ⟨Hc, eHc⟩ : ∃ Hc, upd Hb D (dHO X.w D []) = Hc := ⟨_, rfl⟩
  have hsc : sc.heap = sb.heap.push { cls := .type "dict", data := .dict #[] } := by rw [← esc]
  have up : ∀ b o, sb.heap.get? b = some o → sc.heap.get? b = some o := fun b o e => by rw [hsc]; exact Heap.get?_push_of_some _ e
  have Ic : Inv X pins σ Hc sc := by
    rw [← esc, ← eHc]
    refine Ib.laid (t' := sb.toks) (fun b o e => Heap.get?_push_of_some _ e) (Nat.le_of_eq eD) (IsDct.obj ⟨[], .nil, ?_⟩)
    have dn := Heap.DictOfH.new (knd := nestedKind X.prog X.w) sb.heap
    rw [eD] at dn
    obtain ⟨o, es, ep, a1, a2, a3, a4, _⟩ := dn
    exact ⟨o, es, ep, a1, a2, a3, a4⟩
  have under : ∀ b ∈ fp, b < sb.heap.objs.size := fun b hb => by
    obtain ⟨o, e, _⟩ := T.obj _ _ stb b hb
    exact Heap.lt_size e
  have fpc : ∀ b ∈ fp, FpOk X pins Hc b ∧ b < sc.heap.objs.size := fun b hb => by
    have lt := under b hb
    constructor
    · refine ⟨?_, (fpb b hb).2⟩
      rw [← eHc, upd_ne (by rw [← eD]; exact Nat.ne_of_lt lt)]
      exact (fpb b hb).1
    · rw [hsc, Heap.size_push]
      exact Nat.lt_succ_of_lt lt
  have stc : tn 0 sc.heap := T.keep _ _ _ stb fun b _ o e => up b o e
  have Id := block_start Ic ok hN fpc
  obtain ⟨ce, ece⟩ : ∃ ce, compEnvC scope (cellsFrom (sc.heap.objs.size + 1) scope.names (cloFrom X.env.cells scope.names [])) sc.heap.objs.size X.env = ce := ⟨_, rfl⟩
  have pg := hg sc Hc sc.heap.objs.size (cellsFrom (sc.heap.objs.size + 1) scope.names (cloFrom X.env.cells scope.names [])) fp
  have pt := ht sc Hc sc.heap.objs.size (cellsFrom (sc.heap.objs.size + 1) scope.names (cloFrom X.env.cells scope.names [])) fp
  have pk := hk sc Hc sc.heap.objs.size (cellsFrom (sc.heap.objs.size + 1) scope.names (cloFrom X.env.cells scope.names [])) fp
  have pv := hv sc Hc sc.heap.objs.size (cellsFrom (sc.heap.objs.size + 1) scope.names (cloFrom X.env.cells scope.names [])) fp
  rw [ece] at pg pt pk pv Id
  have cL : ce.locals = sc.heap.objs.size := by rw [← ece]; rfl
  obtain ⟨sd, esd⟩ : ∃ sd : Shared, ({ sc with heap := pushCells (sc.heap.push { cls := .type "dict", data := .dict #[] }) scope.names } : Shared) = sd := ⟨_, rfl⟩
  show codeAny _ _ (.compStart (.DictComp kx vx [⟨tg, iter, ifs, 0⟩] scope pos) 0 (.ref it) (.ref D) (compEnvC scope (cellsFrom (sc.heap.objs.size + 1) scope.names (cloFrom X.env.cells scope.names [])) sc.heap.objs.size X.env)) _ { sc with heap := pushCells (sc.heap.push { cls := .type "dict", data := .dict #[] }) scope.names }
  rw [ece, esd]
  rw [esd] at Id
  have std : tn 0 sd.heap := T.keep _ _ _ stc fun b _ o e => by
    rw [← esd]
    exact pushCells_keeps _ _ _ _ (Heap.get?_push_of_some _ e)
  have own_fp : ∀ {σ' : L2.St} {H' : Hp} {s' : Shared}, Inv (X.blk sc Hc scope ce fp) [] σ' H' s' → (∀ b ∈ fp, H' b = none) → ∀ b ∈ fp, FpOk (X.blk sc Hc scope ce fp) [] H' b := fun {σ' H' s'} I' hn b hb =>
    ⟨hn b hb, (I'.ok.exf b hb).1, I'.ok.exfs b hb, .inl hb, fun x c e => (I'.ok.exf b hb).2 x c e, fun p hp => absurd (show p ∈ ([] : List (Addr × Obj)) ++ [] from hp) (by simp)⟩
  have loop : codeAny (model X.prog X.w) X.A (.compLoop (.DictComp kx vx [⟨tg, iter, ifs, 0⟩] scope pos) 0 (.ref it) (.ref D) ce) (compPost (model X.prog X.w) X.A X.xe none (EP X pins σ Q) (.ref D) sc.heap.objs.size) sd := by
    refine compLoop_anyD (fun n s' => ∃ i H', W i n H' ∧ tn i s'.heap ∧ (∀ b ∈ fp, H' b = none) ∧ Inv (X.blk sc Hc scope ce fp) [] (wipe σ (own.map (·.2))) H' s') ?_ m0 ⟨0, Hc, by rw [← eHc]; exact w0, std, fun b hb => (fpc b hb).1.1, Id⟩
    rintro n se ⟨i, He, we, ste, ne, Ie⟩
    rcases turn i n He we with ⟨stop, qd⟩ | ⟨go, Nx, hNx, step⟩
    · refine thnF (T.done (X.blk sc Hc scope ce fp) rfl rfl rfl hc i [] se _ He (fun _ _ => False) Ie (own_fp Ie ne) ste stop) fun r sf hr => ?_
      obtain ⟨rfl, If⟩ := hr
      have J0 : Inv X pins σ He sf := Ic.call' (ch := fp) If.os If.base If.hok If.bare fun b hb => ⟨(fpc b hb).1.2.2.2.1, (fpc b hb).1.2.1, (fpc b hb).1.2.2.2.2.1, (fpc b hb).1.2.2.2.2.2⟩
      have nC : He sc.heap.objs.size = none := by
        have z : He ce.locals = none := If.free
        rwa [cL] at z
      obtain ⟨m, hn, _⟩ := If.loc
      have hn : sf.heap.Ns ce.locals m := hn
      rw [cL] at hn
      obtain ⟨f0, f1, f2, f3, f4, f5⟩ := Ic.fpOk (Nat.le_refl _) nC
      exact ⟨m, hn, fun h'' keep => ⟨.ref D, He, J0.turned (t' := sf.toks) (fun b o hb e => (keep.2 b hb).trans e) f0 f1 f3 f4 f5, rfl, qd⟩⟩
    · refine thnF (T.item (X.blk sc Hc scope ce fp) rfl rfl rfl hc i [] se _ He (fun _ _ => False) Ie (own_fp Ie ne) ste go) fun r sf hr => ?_
      obtain ⟨u, rfl, hu2⟩ := hr
      refine thnF hu2 fun _ sg hsg => ?_
      obtain ⟨x, Hg, Ig, rx, yx, stg, ng⟩ := hsg
      have Ip := Ig.pinned (own_fp Ig ng) (T.obj _ _ stg)
      refine thnF (pg.run _ sg _ Hg x u _ Ip rx (step x Hg yx)) fun _ sh hsh => ?_
      obtain ⟨σh, Hh, Ih, ewh, qh⟩ := hsh
      refine thnF (pt.run _ sh σh Hh _ Ih qh) fun b si hsi => ?_
      obtain ⟨Hi, Ii, qi⟩ := hsi
      have close : ∀ {s' : Shared} {H' : Hp}, Inv (X.blk sc Hc scope ce fp) ([] ++ pinsAt fp sg.heap) σh H' s' → Nx H' → ∃ m, m < n ∧ ∃ i H', W i m H' ∧ tn i s'.heap ∧ (∀ b ∈ fp, H' b = none) ∧ Inv (X.blk sc Hc scope ce fp) [] (wipe σ (own.map (·.2))) H' s' := fun {s' H'} I' nx => by
        obtain ⟨m', lt, w'⟩ := hNx H' nx
        have still : ∀ b ∈ fp, ∀ o, sg.heap.get? b = some o → s'.heap.get? b = some o ∧ H' b = none := fun b hb o e => by
          have z := I'.pin (b, o) (List.mem_append_right _ (List.mem_append_right _ (mem_pinsAt hb e)))
          exact ⟨z.1, z.2.1⟩
        have ln : (wipe σ (own.map (·.2))).length = σh.length := (congrArg List.length ewh).symm.trans (wipe_length ..)
        refine ⟨m', lt, i + 1, H', w', T.keep _ _ _ stg fun b hb o e => (still b hb o e).1, fun b hb => ?_, (I'.unpinned (pins := [])).weak ln fun j v e => ?_⟩
        · obtain ⟨o, e, _⟩ := T.obj _ _ stg b hb
          exact (still b hb o e).2
        · rw [← ewh] at e
          exact (wipe_some e).1
      cases b with
      | false =>
        simp only [Bool.false_eq_true, if_false] at qi ⊢
        exact close Ii qi
      | true =>
        simp only [if_true] at qi ⊢
        refine thnF (pk.run _ si σh Hi _ Ii qi) fun vk sj hsj => ?_
        obtain ⟨yk, Hj, Ij, rj, qj⟩ := hsj
        refine thnF (pv.run _ sj σh Hj _ Ij qj) fun vv sl hsl => ?_
        obtain ⟨yv, Hl, Il, rl, ql⟩ := hsl
        exact put_new (X := X.blk sc Hc scope ce fp) hu Il rj rl ql fun H' s' I' nx => close I' nx
  exact codeAny_compStart_dict loop (T.self X.A 0 _ _ _ std loop)
end
noncomputable section
def dcGo (gd : Hm → Prop) (g : MG) (t : MT) (ek ev : ME) (ix : Nat) (δ : Lo) : List D → Hm → Option Hm
  | [], h => if gd h then some h else none
  | d :: ds, h => if gd h then (g d δ h).bind fun p => (t p.1 p.2).bind fun q =>
      if q.1 then (ek p.1 q.2).bind fun y => (ev p.1 y.2).bind fun z => (getK z.2 ix).bind fun kvs => (tkey y.1).bind fun key =>
        if kvs.length < sizeLine then dcGo gd g t ek ev ix δ ds (z.2.set ix (.dct (dPut kvs y.1 key z.1))) else none
      else dcGo gd g t ek ev ix δ ds q.2
    else none
def mDcomp (mi : MI) (g : MG) (t : MT) (ek ev : ME) (vs : List Nat) : ME := fun δ h => (mi δ h).bind fun p =>
  (dcGo p.1.guard g t ek ev p.2.length (wipeL δ vs) p.1.items (p.2 ++ [.dct []])).map fun h' => (.ref p.2.length, h')
section
variable {X : Cx} {τ : Tb} {tg iter kx vx : Expr} {mi : MI} {g : MG} {ek ev : ME} {t : MT} {pos : Pos} {vs ws : List Nat}
theorem LE.dcomp {K : Kx} {σ : L2.St} {H : Hp} {Q : VK} (hsub : ∀ i ∈ ws, i ∈ vs) (hq : LE K (mDcomp mi g t ek ev vs) σ H Q) : tDm K (LI K mi) (LG K ws g) (LT K t) (LE K ek) (LE K ev) vs σ H Q := by
  obtain ⟨δ, ρ, h, d, h', s, R, q, k⟩ := hq
  unfold mDcomp at q
  obtain ⟨⟨S, h1⟩, e1, q⟩ := Option.bind_eq_some_iff.mp q
  obtain ⟨h2, e2, q⟩ := Option.map_eq_some_iff.mp q
  cases q
  refine ⟨δ, ρ, h, S, h1, s, R, e1, fun J H1 ρ1 x1 R1 ok D hD hsys => ?_⟩
  have x1' : Ext K H1 ρ1 (upd H1 D (dHO K.w D [])) (ρ1 ++ [D]) := Ext.new R1 hD
  have R1' : Rp K (upd H1 D (dHO K.w D [])) (ρ1 ++ [D]) (h1 ++ [.dct []]) := R1.new hD ⟨[], upd_same, hsys, by simp, by simp, .nil⟩
  have rD0 : (ρ1 ++ [D])[h1.length]? = some D := R1.newRef
  refine ⟨fun i m H => ∃ ρi hi, m = S.items.length - i ∧ i ≤ S.items.length ∧ Rp K H ρi hi ∧ Ext K (upd H1 D (dHO K.w D [])) (ρ1 ++ [D]) H ρi ∧ dcGo S.guard g t ek ev h1.length (wipeL δ vs) (S.items.drop i) hi = some h',
    ⟨S.items.length, ρ1 ++ [D], h1 ++ [.dct []], by simp, Nat.zero_le _, R1', Ext.refl, by simpa using e2⟩, ?_⟩
  rintro i m H2 ⟨ρi, hi, rfl, hle, R2, x2, q2⟩
  have xx := x1'.trans x2
  have rD : ρi[h1.length]? = some D := x2.get rD0
  by_cases hlt : i < S.items.length
  · have ed : S.items.drop i = S.items[i] :: S.items.drop (i + 1) := List.drop_eq_getElem_cons hlt
    rw [ed, dcGo] at q2
    split at q2
    · rename_i hgd
      obtain ⟨⟨δ3, h3⟩, e3, q2⟩ := Option.bind_eq_some_iff.mp q2
      obtain ⟨⟨b4, h4⟩, e4, q2⟩ := Option.bind_eq_some_iff.mp q2
      obtain ⟨go, yl⟩ := (ok i H2 ρi hi xx R2 hgd).1 _ (List.getElem?_eq_getElem hlt)
      refine .inr ⟨go, fun H' => ∃ m', m' < S.items.length - i ∧ ∃ ρi hi, m' = S.items.length - (i + 1) ∧ i + 1 ≤ S.items.length ∧ Rp K H' ρi hi ∧ Ext K (upd H1 D (dHO K.w D [])) (ρ1 ++ [D]) H' ρi ∧ dcGo S.guard g t ek ev h1.length (wipeL δ vs) (S.items.drop (i + 1)) hi = some h',
        fun H' n => n, fun x H3 hy => ?_⟩
      obtain ⟨ρ3, x3, R3, dv⟩ := yl x H3 hy
      have s3 : SV K H3 ρ3 (wipeL δ vs) (wipe σ vs) := ((s.mono x1).mono (xx.trans x3)).wipe vs
      refine ⟨_, _, ρ3, hi, δ3, h3, dv, s3, R3, e3, fun σ5 H5 ρ5 x5 R5 s5 o5 => ⟨wipe_eq o5 hsub, ?_⟩⟩
      refine ⟨δ3, ρ5, h3, b4, h4, s5, R5, e4, fun H6 ρ6 x6 R6 => ?_⟩
      have x26 : Ext K (upd H1 D (dHO K.w D [])) (ρ1 ++ [D]) H6 ρ6 := ((x2.trans x3).trans x5).trans x6
      cases b4 with
      | true =>
        simp only [if_true] at q2
        obtain ⟨⟨d7, h7⟩, e7, q2⟩ := Option.bind_eq_some_iff.mp q2
        obtain ⟨⟨d8, h8⟩, e8, q2⟩ := Option.bind_eq_some_iff.mp q2
        obtain ⟨kvs, e9, q2⟩ := Option.bind_eq_some_iff.mp q2
        obtain ⟨key, e10, q2⟩ := Option.bind_eq_some_iff.mp q2
        refine iteT ⟨δ3, ρ6, h4, d7, h7, s5.mono x6, R6, e7, fun y H7 ρ7 x7 R7 v7 => ?_⟩
        refine ⟨δ3, ρ7, h7, d8, h8, (s5.mono x6).mono x7, R7, e8, fun z H8 ρ8 x8 R8 v8 => ?_⟩
        simp only at q2
        split at q2
        · rename_i hz
          have x28 := (x26.trans x7).trans x8
          have rD8 : ρ8[h1.length]? = some D := x28.get rD0
          exact ⟨ρ8, h8, h1.length, d7, d8, kvs, key, R8, rD8, DV.mono x8 _ _ v7, v8, e9, e10, hz, fun H' x9 R9 => ⟨_, by omega, ρ8, _, rfl, hlt, R9, x28.trans x9, q2⟩⟩
        · cases q2
      | false => exact iteF ⟨_, by omega, ρ6, h4, rfl, hlt, R6, x26, by simpa using q2⟩
    · cases q2
  · have hi0 : i = S.items.length := by omega
    rw [List.drop_eq_nil_of_le (by omega), dcGo] at q2
    split at q2
    · rename_i hgd
      cases q2
      exact .inl ⟨(ok i H2 ρi _ xx R2 hgd).2 hi0, k _ H2 ρi (x1.trans xx) R2 (by simp only [DV]; exact ⟨D, rD, rfl⟩)⟩
    · cases q2
theorem L_dcomp {ifs : List Expr} {scope : Scope} {own : List (Str × Nat)} (hu : Rm X.A) (hc : X.calm = true) (hN : X.N.Nodup) (hi : PI X tg iter (LI (X.kt τ) mi)) (ok : BlkOk X.N X.env.scope scope own)
    (hg : ∀ (s : Shared) (H : Hp) (C : Addr) (cl : List (Str × Addr)) (fp : List Addr), PG (X.blk s H scope (compEnvC scope cl C X.env) fp) tg (LG (X.kt τ) ws g)) (ht : ∀ (s : Shared) (H : Hp) (C : Addr) (cl : List (Str × Addr)) (fp : List Addr), PTs (X.blk s H scope (compEnvC scope cl C X.env) fp) ifs (LT (X.kt τ) t))
    (hk : ∀ (s : Shared) (H : Hp) (C : Addr) (cl : List (Str × Addr)) (fp : List Addr), PE (X.blk s H scope (compEnvC scope cl C X.env) fp) kx (LE (X.kt τ) ek))
    (hv : ∀ (s : Shared) (H : Hp) (C : Addr) (cl : List (Str × Addr)) (fp : List Addr), PE (X.blk s H scope (compEnvC scope cl C X.env) fp) vx (LE (X.kt τ) ev)) (hsub : ∀ i ∈ ws, i ∈ own.map (·.2) := by decide) (hs : ∀ x, foldedSetIterable iter X.env x = pure x := by intro _; rfl) :
    PE X (.DictComp kx vx [⟨tg, iter, ifs, 0⟩] scope pos) (LE (X.kt τ) (mDcomp mi g t ek ev (own.map (·.2)))) :=
  (L_dcRaw hu hc hN hi ok hg ht hk hv hs).imp fun _ _ _ h => h.dcomp hsub
end
end
end DL
set_option Elab.async false
set_option linter.all false
set_option maxRecDepth 100000
/-! DL.Lam: a lambda of one parameter, made and called. -/
namespace DL
open PySem PySem.Spec PyProof.Rows L2
section
variable {X : Cx} {τ : Tb} {pins : List (Addr × Obj)} {σ : L2.St} {H : Hp} {s : Shared} {ρ : List Addr} {h : Hm}
theorem Rp.tabs (R : Rp (X.kt τ) H ρ h) : LamX.Tabs τ H := fun p hp => by
  obtain ⟨ps, e, ok, k⟩ := R.tab p hp
  exact ⟨ps, e, ok, fun pos cv q => let ⟨c, e1, e2, _⟩ := k pos cv q; ⟨c, e1, e2⟩⟩
theorem OV.any {K : Kx} {mo : MO} {a : Addr} (x : OV K H ρ a mo) : ∃ o, H a = some o ∧ ∀ ps, o ≠ .tbl ps := by
  obtain ⟨o, e, _⟩ := x.there
  exact ⟨o, e, fun ps z => x.notTbl ps (by rw [e, z])⟩
/-- the state behind the making of a lambda -/
theorem lam_state {H1 : Hp} {s1 : Shared} (I1 : Inv X pins σ H1 s1) (R : Rp (X.kt τ) H ρ h) (ex : LamX.ExtN H H1) (T : LamX.Tabs τ H1) : Ext (X.kt τ) H ρ H1 ρ ∧ Rp (X.kt τ) H1 ρ h := by
  have e : Ext (X.kt τ) H ρ H1 ρ := by
    constructor
    · exact ⟨[], by simp⟩
    · exact fun a xs q => ex a _ q fun ps z => nomatch z
    · intro a xs q
      rcases q with ⟨o, q⟩ | q
      · exact .inl ⟨o, ex a _ q fun ps z => nomatch z⟩
      · exact .inr q
    · exact fun a o q t n => ⟨ex a o q t, n⟩
  have objs : ∀ (i : Nat) (o : MO), h[i]? = some o → ∃ a, ρ[i]? = some a ∧ OV (X.kt τ) H1 ρ a o := fun i o q => by
    obtain ⟨a, h1, h2⟩ := R.obj i o q
    obtain ⟨ho, e1, e2⟩ := h2.any
    exact ⟨a, h1, h2.mono e ((ex a ho e1 e2).trans e1.symm)⟩
  refine ⟨e, R.len, R.nd, objs, fun p hp => ?_⟩
  obtain ⟨ps, e1, ok, k⟩ := T p hp
  refine ⟨ps, e1, ok, fun pos cv q => ?_⟩
  obtain ⟨c, e2, e3⟩ := k pos cv q
  refine ⟨c, e2, e3, fun hm => ?_⟩
  obtain ⟨i, hi⟩ := List.mem_iff_getElem?.mp hm
  have hl : i < h.length := by rw [← R.len]; exact (List.getElem?_eq_some_iff.mp hi).1
  obtain ⟨a, h1, h2⟩ := objs i _ (List.getElem?_eq_getElem hl)
  rw [hi] at h1
  cases h1
  obtain ⟨⟨oc, vs, t, g1, g2, _⟩, _, _⟩ := I1.hok c _ e3
  revert h2
  cases h[i] with
  | lst ds =>
    rintro ⟨xs, q, _⟩
    rw [e3] at q
    cases q
  | dct kvs =>
    rintro ⟨zs, q, _⟩
    obtain ⟨⟨us, _, o, es, ep, r1, _, r2, _⟩, _, _⟩ := I1.hok c _ q
    rw [g1] at r1
    cases r1
    rw [g2] at r2
    cases r2
/-- a lambda's scope: one parameter, the rest captured or global -/
structure Lam1 (sc scope : Scope) (p : Str) : Prop where
  kind : scope.kind = .function
  co : scope.isCoroutine = false
  gen : scope.isGenerator = false
  par : scope.names.lookup p = some .local
  own : ∀ y ∈ scope.names, y.2 ≠ .cell ∧ (y.2 = .local → y.1 = p)
  free : ∀ y ∈ scope.names, y.2 = .free → sc.names.lookup y.1 = some .cell ∨ sc.names.lookup y.1 = some .free
theorem Lam1.has {scope : Scope} {p : Str} (L : Lam1 X.env.scope scope p) (ok : X.Ok) : ∀ y ∈ scope.names, y.2 = .free → ∃ c, X.env.cells.lookup y.1 = some c := fun y hy e => (L.free y hy e).elim (fun k => ok.has _ (.inl k)) (fun k => ok.has _ (.inr k))
theorem lam_in {A : Around} {outer : List Env} {E : XK} {scope : Scope} {p : Str} {j : Nat} {f c' : Addr} {h1 : Heap} {tk : Nat} {v : V} {u : Value} (I : Inv X pins σ H s) (hN : X.N.Nodup) (hj : X.N[j]? = some p) (L : Lam1 X.env.scope scope p) (e0 : Env0 X.prog X.w X.K X.mg X.base A outer s H) (hd : A.handled = none)
    (hns : h1.Ns s.heap.objs.size fun y => [(p, u)].reverse.lookup y) (kp : ∀ b o, s.heap.get? b = some o → h1.get? b = some o) (rv : RelV v u) :
    Inv (LamX.lamCx X A outer s H E scope f c') [] (σ.set j (some v)) H { s with heap := h1, toks := tk } := by
  have free := L.has I.ok
  have back : ∀ {y c}, (cloFrom X.env.cells scope.names []).lookup y = some c → X.env.cells.lookup y = some c := fun {y c} q => by
    rcases cloFrom_mem (PySem.mem_of_lookup q) with z | ⟨k1, k2⟩
    · cases z
    · obtain ⟨c1, hc⟩ := free _ k1 rfl
      have hc : X.env.cells.lookup y = some c1 := hc
      rw [k2, hc] <;> rfl
  have forth : ∀ {y}, scope.names.lookup y = some .free → ∃ c, (cloFrom X.env.cells scope.names []).lookup y = some c := fun {y} q => mem_lookup (cloFrom_has (cells := X.env.cells) (acc := []) (show (y, NameKind.free) ∈ scope.names from PySem.mem_of_lookup q))
  have cellK : ∀ {c : Addr} {w : Option Value}, s.heap.IsCell c w → h1.IsCell c w := fun {c w} ⟨o, ho, hd⟩ => ⟨o, kp _ _ ho, hd⟩
  have nex : ∀ b : Addr, b ∉ (LamX.lamCx X A outer s H E scope f c').ex := fun b z => absurd (show b ∈ ([] : List Addr) from z) (by simp)
  constructor
  · constructor
    · exact e0.mod
    · exact L.kind
    · rfl
    · rfl
    · exact Nat.le_refl _
    · exact fun y z c q1 q2 => I.ok.inj y z c (back q1) (back q2)
    · intro y hy
      have hy : scope.names.lookup y = some .cell ∨ scope.names.lookup y = some .free := hy
      exact hy.elim (fun k => absurd rfl (L.own _ (PySem.mem_of_lookup k)).1) forth
    · exact fun y c z _ => Bool.noConfusion (show false = true from z)
    · exact fun _ => hd
    · exact Around.frames_deeper e0.frames
    · exact .inr ⟨rfl, rfl⟩
    · exact fun b z => absurd z (nex b)
    · exact e0.bs
    · exact e0.bsz
    · exact fun b _ _ => nex b
    · exact fun b z => absurd z (nex b)
    · exact e0.funs
    · exact e0.frf
  · rfl
  · exact e0.bare
  · exact Un.kept kp
  · refine ⟨_, hns, fun i y w q1 q2 q3 => ?_⟩
    have q1 : X.N[i]? = some y := q1
    have q3 : Vis scope y := q3
    rcases q3 with k | k | k
    · have ey : y = p := (L.own _ (PySem.mem_of_lookup k)).2 rfl
      subst ey
      have ei : i = j := nodup_ix hN q1 hj
      subst ei
      have hl : i < σ.length := by
        have := (List.getElem?_eq_some_iff.mp q2).1
        simpa using this
      rw [List.getElem?_set_self hl] at q2
      cases q2
      exact ⟨u, rv, .inl ⟨k, by simp [List.lookup]⟩⟩
    · exact absurd rfl (L.own _ (PySem.mem_of_lookup k)).1
    · have ny : y ≠ p := fun z => by
        rw [z, L.par] at k
        cases k
      have ij : i ≠ j := fun z => ny (by
        subst z
        rw [hj] at q1
        exact (Option.some.inj q1).symm)
      rw [List.getElem?_set_ne (Ne.symm ij)] at q2
      obtain ⟨m, hn, hl⟩ := I.loc
      have vis : Vis X.env.scope y := (L.free _ (PySem.mem_of_lookup k) rfl).elim (fun k => .inr (.inl k)) (fun k => .inr (.inr k))
      obtain ⟨w', r, q⟩ := hl i y w q1 q2 vis
      obtain ⟨c2, h2⟩ := forth k
      refine ⟨w', r, .inr ⟨.inr k, c2, h2, ?_⟩⟩
      have c1 := back h2
      rcases q with ⟨k', _⟩ | ⟨_, c3, e', z⟩
      · have k' : X.env.scope.names.lookup y = some .local := k'
        rcases L.free _ (PySem.mem_of_lookup k) rfl with k2 | k2
        · rw [show X.env.scope.names.lookup y = some .cell from k2] at k'
          cases k'
        · rw [show X.env.scope.names.lookup y = some .free from k2] at k'
          cases k'
      · rw [c1] at e'
        cases e'
        exact cellK z
  · intro y c q
    obtain ⟨w', z⟩ := I.cell y c (back q)
    exact ⟨w', cellK z⟩
  · exact e0.hok.fresh (Nat.le_refl _)
  · exact fun y c q => I.freeC y c (back q)
  · exact fun q hq => absurd (show q ∈ ([] : List (Addr × Obj)) ++ [] from hq) (by simp)
  · exact e0.hok.kept kp
  · show (σ.set j (some v)).length = X.N.length
    rw [List.length_set]
    exact I.len
theorem lam_call {A : Around} {scope : Scope} {p : Str} {j k : Nat} {f c' : Addr} {pm ctv : Value} {params : Arguments} {body : Expr} {tb : TE} {v : V} {u : Value} {Q : VK} (I : Inv X pins σ H s) (hN : X.N.Nodup) (hj : X.N[j]? = some p) (L : Lam1 X.env.scope scope p)
    (e0 : Env0 X.prog X.w X.K X.mg X.base A X.stack s H) (hG : GA A) (hr : Room (k + 1) A) (hf : s.heap.get? f = some (PySem.W.kla_obj "<lambda>" (X.env.qual ++ "<lambda>") params body scope (cloFrom X.env.cells scope.names []) pm c' ctv))
    (hc : H c' = some (LamX.CodeO c' (X.env.qual ++ "<lambda>"))) (hbind : bindArgs (PySem.W.kla_fn "<lambda>" (X.env.qual ++ "<lambda>") params body scope (cloFrom X.env.cells scope.names []) pm (.ref c') ctv) ⟨[u], []⟩ = pure [(p, u)])
    (hbody : ∀ (A : Around) (outer : List Env) (s : Shared) (H : Hp), GA (A.deeper (LamX.lamEnv X scope s.heap.objs.size f c')) → Room k (A.deeper (LamX.lamEnv X scope s.heap.objs.size f c')) → PE (LamX.lamCx X A outer s H E0 scope f c') body tb) (rv : RelV v u) (ht : tb (σ.set j (some v)) H Q) :
    wpAny (model X.prog X.w) A (call (.ref f) [u]) (EP X pins σ Q) (fun _ _ => False) s := by
  obtain ⟨⟨oc, vs, t, g1, g2, g3⟩, _, _⟩ := I.hok c' _ hc
  have main : codeAny (model X.prog X.w) A (.call (.ref f) ⟨[u], []⟩) (CR (L2.CX X.prog X.w) X.stack X.prog X.w H s Q E0) s := by
    refine PySem.W.kla_callFunE hr.depth hf rfl L.co L.gen rfl ⟨c', oc, vs, t, rfl, g1, g2, g3⟩ ?_
    rw [hbind]
    refine wpAny_pure (wpAny_newFunctionEnv (fun y hy => (L.own y hy).1) (fun y hy => ?_) (fun h1 hns hsb => ⟨I.nolimit.fresh _ hsb, ?_⟩) L.kind)
    · have : y = (p, u) := by simpa using hy
      rw [this]
      exact L.par
    · have kp : ∀ b o, s.heap.get? b = some o → h1.get? b = some o := fun b o e => hsb.extBut b o (Nat.ne_of_lt (Heap.lt_size e)) (Heap.get?_push_of_some _ e)
      have J := lam_in (E := E0) (f := f) (c' := c') (tk := s.toks + [(p, u)].length) I hN hj L e0 hr.hd hns kp rv
      refine PySem.W.kla_codeExpr (wpAny_mono ((hbody A X.stack s H hG (hr.deeper _)).run [] _ _ H Q J ht) (fun y s' hq => ?_) fun e s' hq => hq)
      obtain ⟨w', H', J', rw', q⟩ := hq
      exact ⟨w', H', J'.os, J'.bare, J'.base, J'.hok, rw', q⟩
  refine wpAny_call (codeAny_mono main fun r s' hq => ?_)
  match r, hq with
  | .error e, hq =>
    obtain ⟨_, _, _, _, _, _, _, _, _, _, _, _, z⟩ := hq
    exact z.elim
  | .ok (.ret y), hq => exact I.after hq
end
end DL
set_option Elab.async false
set_option linter.all false
set_option maxRecDepth 100000
/-! DL.KSrt: sorted(xs, key=lambda one: ..). -/
namespace DL
open PySem PySem.Spec PyProof.Rows L2
open PySem.W (AllAlike Sortable EachIs dataLe alike sortVals dataKind)
open Classical
noncomputable section
/-- the keys, one after the other -/
def keyGo (mb : ME) (j : Nat) (δ : Lo) : List D → Hm → Option (List D × Hm)
  | [], h => some ([], h)
  | d :: ds, h => (mb (δ.set j (some d)) h).bind fun p => (keyGo mb j δ ds p.2).map fun q => (p.1 :: q.1, q.2)
/-- data without lists: reads alike whatever becomes of the heap -/
def pureD : D → Bool
  | .non | .bl _ | .int _ | .str _ => true
  | .tup ds => pureDs ds
  | _ => false
where pureDs : List D → Bool
  | [] => true
  | d :: ds => pureD d && pureDs ds
def sortBy (h : Hm) (ks ds : List D) : List D := ((ks.zip ds).mergeSort (dataLe false fun q => encD h q.1)).map (·.2)
def mSortKey (mx : ME) (mb : ME) (j : Nat) : ME := fun δ h => (mx δ h).bind fun p => match p.1 with
  | .ref r => (getL p.2 r).bind fun ds => (keyGo mb j δ ds p.2).bind fun q => if SortOk q.2 q.1 then some (newL q.2 (sortBy q.2 q.1 ds)) else none
  | .rol ds => (keyGo mb j δ ds p.2).bind fun q => if SortOk q.2 q.1 then some (newL q.2 (sortBy q.2 q.1 ds)) else none
  | _ => none
section
variable {X : Cx} {τ : Tb} {pins : List (Addr × Obj)} {σ : L2.St} {H : Hp} {s : Shared} {ρ : List Addr} {h : Hm}
theorem each_zip {R : Value → D → Prop} : ∀ {vs : List Value} {ds ks : List D}, EachIs R vs ds → ks.length = ds.length → EachIs (fun v q => R v q.2) vs (ks.zip ds)
  | _, [], ks, e, hl => by
    cases e
    cases ks with
    | nil => exact .nil
    | cons _ _ => simp at hl
  | _, d :: ds, ks, e, hl => by
    cases ks with
    | nil => simp at hl
    | cons k ks =>
      cases e with
      | cons e1 e2 => exact .cons e1 (each_zip e2 (by simpa using hl))
theorem each_snd {R : Value → D → Prop} : ∀ {vs : List Value} {qs : List (D × D)}, EachIs (fun v q => R v q.2) vs qs → EachIs R vs (qs.map (·.2))
  | _, [], e => by cases e; exact .nil
  | _, q :: qs, e => by
    cases e with
    | cons e1 e2 => exact .cons e1 (each_snd e2)
theorem keyGo_len {mb : ME} {j : Nat} {δ : Lo} : ∀ {ds : List D} {h : Hm} {ks : List D} {h' : Hm}, keyGo mb j δ ds h = some (ks, h') → ks.length = ds.length
  | [], _, _, _, e => by simp only [keyGo, Option.some.injEq, Prod.mk.injEq] at e; rw [← e.1]
  | d :: ds, h, ks, h', e => by
    simp only [keyGo] at e
    obtain ⟨p, e1, e⟩ := Option.bind_eq_some_iff.mp e
    obtain ⟨q, e2, e⟩ := Option.map_eq_some_iff.mp e
    cases e
    simp [keyGo_len e2]
/-- what is known in the middle of the sort: the keys so far at kS, the list at a empty -/
structure Mid (X : Cx) (τ : Tb) (pins : List (Addr × Obj)) (σ : L2.St) (kS a : Addr) (e1 : Nat) (H0 : Hp) (ρ0 : List Addr) (h : Hm) (kds : List D) (s : Shared) : Prop where
  mk :: ex : ∃ (H : Hp) (ρ : List Addr) (kA : List Value) (kv : List V) (e : Nat), Inv X ((kS, seqObj "list" kA.toArray e) :: (a, seqObj "list" #[] e1) :: pins) σ H s ∧ Ext (X.kt τ) H0 ρ0 H ρ ∧ Rp (X.kt τ) H ρ h ∧ Vals kv kA ∧ DVs (X.kt τ) H ρ kds kv ∧ kA.length = kds.length
theorem keyed_rest {A : Around} {P : PySem.Fin → Shared → Prop} {E : Value → Shared → Prop} {f : Value} {kS a : Addr} {e1 : Nat} {H0 : Hp} {ρ0 : List Addr} {h0 : Hm} {mb : ME} {j : Nat} {δ : Lo} {ds : List D} {ks : List D} {h' : Hm} {us : List Value} {vs : List V}
    (hka : kS ≠ a) (hf : FpOk X pins H0 kS) (st : Mid X τ pins σ kS a e1 H0 ρ0 h0 [] s) (w : DVs (X.kt τ) H0 ρ0 ds vs) (rv : Vals vs us) (hz : us.length ≤ sizeLine) (go : keyGo mb j δ ds h0 = some (ks, h')) (ok : SortOk h' ks) (hA : A.units + 8 < cLine)
    (turn : ∀ (pins' : List (Addr × Obj)) (H : Hp) (ρ : List Addr) (h : Hm) (d : D) (v : V) (u : Value) (kd : D) (h2 : Hm) (s' : Shared) (Q : VK), (∀ p ∈ pins, p ∈ pins') → Inv X pins' σ H s' → Ext (X.kt τ) H0 ρ0 H ρ → Rp (X.kt τ) H ρ h → DV (X.kt τ) H ρ d v → RelV v u → mb (δ.set j (some d)) h = some (kd, h2) →
      (∀ y H' ρ', Ext (X.kt τ) H ρ H' ρ' → Rp (X.kt τ) H' ρ' h2 → DV (X.kt τ) H' ρ' kd y → Q y H') → wpAny (model X.prog X.w) A (call f [u]) (EP X pins' σ Q) (fun _ _ => False) s')
    (fin : ∀ (h3 : Heap) (tk : Nat) (out : List Value) (c : Nat) (H : Hp) (ρ : List Addr) (s' : Shared), Inv X pins σ H s' → Ext (X.kt τ) H0 ρ0 H ρ → Rp (X.kt τ) H ρ h' → H a = none → H kS = none → (∀ b o, b ≠ a → b ≠ kS → s'.heap.get? b = some o → h3.get? b = some o) → h3.get? a = some (seqObj "list" out.toArray c) → EachIs (RD (X.kt τ) H ρ) out (sortBy h' ks ds) → P (.done (.ret .none)) { s' with heap := h3, toks := tk }) :
    wpAny (model X.prog X.w) A (ksk_rest a f false us.toArray e1 (.ref kS)) P E s := by
  have hlen : ds.length = us.length := by rw [w.length, rv.length]
  unfold ksk_rest
  refine wpAny_bind (wpAny_rule ?_)
  rw [List.forIn_toArray]
  refine wpAny_bind (ksk_fold (fun i s' => ∃ hi kds kr, Mid X τ pins σ kS a e1 H0 ρ0 hi kds s' ∧ kds.length = i ∧ ks = kds ++ kr ∧ keyGo mb j δ (ds.drop i) hi = some (kr, h')) us 0 s ⟨h0, [], ks, st, rfl, rfl, by simpa using go⟩ ?step ?done)
  case step =>
    intro i u s' hu hI
    obtain ⟨hi, kds, kr, mid, hl, ek, gi⟩ := hI
    simp only [Nat.zero_add] at hl gi ⊢
    have hiu : i < us.length := (List.getElem?_eq_some_iff.mp hu).1
    have hid : i < ds.length := by omega
    have ed : ds.drop i = ds[i] :: ds.drop (i + 1) := List.drop_eq_getElem_cons hid
    rw [ed] at gi
    simp only [keyGo] at gi
    obtain ⟨⟨kd, h2⟩, g1, gi⟩ := Option.bind_eq_some_iff.mp gi
    obtain ⟨⟨kr2, h3⟩, g2, gi⟩ := Option.map_eq_some_iff.mp gi
    cases gi
    obtain ⟨Hm1, ρm, kA, kv, e, I1, x1, R1, rk, wk, kl⟩ := mid.ex
    obtain ⟨v, hv, dv⟩ := w.get (List.getElem?_eq_getElem hid)
    obtain ⟨u', hu', ru⟩ := rv.get hv
    rw [hu] at hu'
    cases hu'
    refine wpAny_bind (wpAny_attempt (wpAny_mono (turn _ Hm1 ρm hi _ v u kd h2 s' (fun y H' => ∃ ρ', Ext (X.kt τ) Hm1 ρm H' ρ' ∧ Rp (X.kt τ) H' ρ' h2 ∧ DV (X.kt τ) H' ρ' kd y) (fun p hp => List.mem_cons_of_mem _ (List.mem_cons_of_mem _ hp)) I1 x1 R1 (DV.mono x1 _ _ dv) ru g1 fun y H' ρ' x R' y1 => ⟨ρ', x, R', y1⟩) (fun y s2 hy => ?_) fun _ _ z => z.elim))
    obtain ⟨yv, H2, I2, ry, ρ2, x2, R2, dy⟩ := hy
    have atK := (I2.pin (kS, seqObj "list" kA.toArray e) (List.mem_append_right _ List.mem_cons_self)).1
    have atA := (I2.pin (a, seqObj "list" #[] e1) (List.mem_append_right _ (List.mem_cons_of_mem _ List.mem_cons_self))).1
    have nK := (I2.pin (kS, seqObj "list" kA.toArray e) (List.mem_append_right _ List.mem_cons_self)).2.1
    try dsimp only at atK atA ⊢
    have sb := Heap.SameBut.update s2.heap kS (Obj.mapSeq (·.push y))
    obtain ⟨c2, hc2⟩ : ∃ c2, (s2.heap.update kS (Obj.mapSeq (·.push y))).get? kS = some (seqObj "list" (kA.toArray.push y) c2) := ⟨_, get?_update_seq atK (·.push y)⟩
    refine wpAny_bind (listUpdate_at atK rfl ?_ (by rw [List.size_toArray]; omega) (by rw [Array.size_push, List.size_toArray]; omega))
    refine wpAny_pure ⟨rfl, h2, kds ++ [kd], kr2, ⟨H2, ρ2, kA ++ [y], kv ++ [yv], c2, ?_, x1.trans x2, R2, rk.append (.cons ry .nil), (wk.mono x2).append (DVs.cons dy DVs.nil), by simp [kl]⟩, by simp [hl], by rw [ek]; simp, g2⟩
    -- the pins again
    have I3 : Inv X ((a, seqObj "list" #[] e1) :: pins) σ H2 s2 := I2.pins_of fun p hp => I2.pin p (List.mem_append_right _ (List.mem_cons_of_mem _ hp))
    obtain ⟨_, f1, f2, f3, f4, f5⟩ := hf
    have I4 := I3.turned (t' := s2.toks) (h' := s2.heap.update kS (Obj.mapSeq (·.push y))) (it := kS) (fun b o hb q => (sb.2 b hb).trans q) nK f1 f3 f4 fun p hp => by
      rcases List.mem_append.mp hp with z | z
      · exact f5 p (List.mem_append_left _ z)
      · rcases List.mem_cons.mp z with z | z
        · rw [z]
          exact Ne.symm hka
        · exact f5 p (List.mem_append_right _ z)
    refine I4.pins_of fun p hp => ?_
    rcases List.mem_cons.mp hp with z | z
    · subst z
      refine ⟨?_, nK, f1, f2, fun v z => ?_⟩
      · rw [hc2]
        simp
      · cases z
    · exact I4.pin p (List.mem_append_right _ z)
  case done =>
    intro s' hI
    obtain ⟨hi, kds, kr, mid, hl, ek, gi⟩ := hI
    rw [Nat.zero_add] at hl gi
    rw [List.drop_eq_nil_of_le (by omega)] at gi
    simp only [keyGo, Option.some.injEq, Prod.mk.injEq] at gi
    obtain ⟨rfl, rfl⟩ := gi
    rw [List.append_nil] at ek
    subst ek
    obtain ⟨Hm1, ρm, kA, kv, e, I1, x1, R1, rk, wk, kl⟩ := mid.ex
    have atK := (I1.pin (kS, seqObj "list" kA.toArray e) (List.mem_append_right _ List.mem_cons_self)).1
    have atA := (I1.pin (a, seqObj "list" #[] e1) (List.mem_append_right _ (List.mem_cons_of_mem _ List.mem_cons_self))).1
    try dsimp only at atK atA ⊢
    have I0 : Inv X pins σ Hm1 s' := I1.pins_of fun p hp => I1.pin p (List.mem_append_right _ (List.mem_cons_of_mem _ (List.mem_cons_of_mem _ hp)))
    refine wpAny_bind (listItems_at atK rfl ?_)
    obtain ⟨G, g1, g2⟩ := restrict s'.heap fun b => decide (b ≠ kS)
    have rd := rd_reads I1 R1 ok.there (each_rd wk rk)
    have e1' : EachIs (fun v d => ∃ as, Reads s'.heap v d as) kA (ks.map (encD hi)) := PySem.W.each_map (R := fun v d => ∃ as, Reads s'.heap v d as) (encD hi) rd
    have SA : PySem.W.SortsAt X.prog X.w A s' (dataKind s'.heap (ks.map (encD hi))) kA.toArray.toList := by
      rw [List.toList_toArray]
      refine PySem.W.SortsAt.data e1' ok.alike ok.sortable fun d hd => ?_
      obtain ⟨b, hb, rfl⟩ := List.mem_map.mp hd
      have := ok.deep b hb
      omega
    refine PySem.W.keyH_end (κ := dataKind s'.heap (ks.map (encD hi))) (h₁ := G) (vs := us) (fun b o hb q => ?_) (g2 kS (by simp)) atK atA hka SA (by rw [List.size_toArray]; omega) hz fun h3 tk c kp k3 => ?_
    · by_cases z : b = kS
      · subst z
        rw [g2 b (by simp)] at q
        cases q
      · rw [g1 b (by simpa using z)] at q
        exact q
    · have ez : (ks.zip ds).map (fun q => encD hi q.1) = ks.map (encD hi) := by
        have : ((ks.zip ds).map Prod.fst).map (encD hi) = ks.map (encD hi) := by rw [List.map_fst_zip (by omega)]
        rw [← this, List.map_map]
        rfl
      have ko : PySem.W.KeyedOut false ((ks.zip ds).map fun q => encD hi q.1) us (sortVals (dataKind s'.heap (ks.map (encD hi))) false kA us) := by
        rw [ez]
        exact ⟨s'.heap, kA, ok.alike, rfl, e1'⟩
      have eo := PySem.W.keyedOut_each (fun q : D × D => encD hi q.1) ko (each_zip (R := RD (X.kt τ) Hm1 ρm) (each_rd (w.mono x1) rv) (by omega))
      rw [List.toList_toArray] at k3
      exact fin h3 tk _ c Hm1 ρm s' I0 x1 R1 (I1.pin (a, seqObj "list" #[] e1) (List.mem_append_right _ (List.mem_cons_of_mem _ List.mem_cons_self))).2.1 (I1.pin (kS, seqObj "list" kA.toArray e) (List.mem_append_right _ List.mem_cons_self)).2.1 (fun b o n1 n2 q => kp b o n1 (by rw [g1 b (by simpa using n2)]; exact q)) k3 (each_snd eo)

theorem codeO_out (I : Inv X pins σ H s) (R : Rp (X.kt τ) H ρ h) {c : Addr} {q : Str} (e3 : H c = some (LamX.CodeO c q)) : c ∉ ρ := fun hm => by
  obtain ⟨i, hi⟩ := List.mem_iff_getElem?.mp hm
  have hl : i < h.length := by rw [← R.len]; exact (List.getElem?_eq_some_iff.mp hi).1
  obtain ⟨a, h1, h2⟩ := R.obj i _ (List.getElem?_eq_getElem hl)
  rw [hi] at h1
  cases h1
  obtain ⟨⟨oc, vs, t, g1, g2, _⟩, _, _⟩ := I.hok c _ e3
  revert h2
  cases h[i] with
  | lst ds =>
    rintro ⟨xs, q, _⟩
    rw [e3] at q
    cases q
  | dct kvs =>
    rintro ⟨zs, q, _⟩
    obtain ⟨⟨us, _, o, es, ep, r1, _, r2, _⟩, _, _⟩ := I.hok c _ q
    rw [g1] at r1
    cases r1
    rw [g2] at r2
    cases r2
/-- a list that was the builtin's own becomes one of ours -/
theorem adopt {a kS : Addr} {h3 : Heap} {tk c : Nat} {out : List Value} {vs : List V} (I : Inv X pins σ H s) (fa : FpOk X pins H a) (fk : FpOk X pins H kS) (k : ∀ b o, b ≠ a → b ≠ kS → s.heap.get? b = some o → h3.get? b = some o) (ha : h3.get? a = some (seqObj "list" out.toArray c)) (rv : Vals vs out) (hz : vs.length ≤ sizeLine) :
    Inv X pins σ (upd H a (.lst vs)) { s with heap := h3, toks := tk } := by
  have na := fa.1
  have nk := fk.1
  have ne : ∀ {b u}, H b = some u → b ≠ a ∧ b ≠ kS := fun {b u} q => ⟨ne_of_none q na, ne_of_none q nk⟩
  refine I.call (ch := [a, kS]) (g' := s.gens) (d' := s.drawn) ?_ (fun b o q => ?_) I.bare (fun b hb => ?_)
  · constructor
    · intro b o q n _ hx
      simp only [List.mem_cons, List.not_mem_nil, or_false, not_or] at hx
      exact k b o hx.1 hx.2 q
    · intro b o q n _ hx
      simp only [List.mem_cons, List.not_mem_nil, or_false, not_or] at hx
      exact ⟨o.slots, k b o hx.1 hx.2 q⟩
    · intro b o q n hx
      simp only [List.mem_cons, List.not_mem_nil, or_false, not_or] at hx
      rw [upd_ne hx.1]
      exact n
    · intro b o q hx
      simp only [List.mem_cons, List.not_mem_nil, or_false, not_or] at hx
      exact ⟨o, k b o hx.1 hx.2 q⟩
    · intro b xs q
      rw [upd_ne (ne q).1]
      exact q
    · intro b o u q
      rw [upd_ne (ne q).1]
      exact q
    · intro b ps q
      exact ⟨#[], by rw [upd_ne (ne q).1, q]; simp⟩
  · by_cases hb : b = a
    · subst hb
      rw [upd_same] at q
      cases q
      exact ⟨hz, out, c, rv, ha⟩
    · rw [upd_ne hb] at q
      refine (I.hok b o q).stay (fun d v hd z => ?_) (fun d hd => by rw [upd_ne (ne hd).1]; exact hd) fun d xs hd => by rw [upd_ne (ne hd).1]; exact hd
      rcases hd with hd | hd
      · rw [hd] at z ⊢
        exact k b v hb (ne q).2 z
      · exact k d v (ne hd).1 (ne hd).2 z
  · have hb' : b = a ∨ b = kS := by simpa using hb
    rcases hb' with z | z
    · rw [z]
      exact ⟨fa.2.2.2.1, fa.2.1, fa.2.2.2.2.1, fa.2.2.2.2.2⟩
    · rw [z]
      exact ⟨fk.2.2.2.1, fk.2.1, fk.2.2.2.2.1, fk.2.2.2.2.2⟩
end
end
end DL
set_option Elab.async false
set_option linter.all false
set_option maxRecDepth 100000
/-! DL.LamSort: sorted(xs, key=lambda one: ..), the whole call. -/
namespace DL
open PySem PySem.Spec PyProof.Rows L2
open Classical
noncomputable section
section
variable {X : Cx} {τ : Tb} {pins : List (Addr × Obj)} {σ : L2.St} {H : Hp} {s : Shared} {ρ : List Addr} {h : Hm}
theorem keyed_sort {c' f : Addr} {q : Str} {fo : Obj} {l : Addr} {us : List Value} {vs : List V} {ds ks : List D} {mb : ME} {j : Nat} {δ : Lo} {h' : Hm} {Q : VK} (hc : X.calm = true) (hu : Rm X.A) (I : Inv X ((f, fo) :: pins) σ H s) (R : Rp (X.kt τ) H ρ h) (hl : s.heap.IsList l us.toArray) (w : DVs (X.kt τ) H ρ ds vs) (rv : Vals vs us)
    (hz : us.length ≤ sizeLine) (go : keyGo mb j δ ds h = some (ks, h')) (ok : SortOk h' ks)
    (turn : ∀ (pins' : List (Addr × Obj)) (H1 : Hp) (ρ1 : List Addr) (h1 : Hm) (d : D) (v : V) (u : Value) (kd : D) (h2 : Hm) (s' : Shared) (Q : VK), (∀ p ∈ (f, fo) :: pins, p ∈ pins') → Inv X pins' σ H1 s' → Ext (X.kt τ) H ρ H1 ρ1 → Rp (X.kt τ) H1 ρ1 h1 → DV (X.kt τ) H1 ρ1 d v → RelV v u → mb (δ.set j (some d)) h1 = some (kd, h2) →
      (∀ y H' ρ', Ext (X.kt τ) H1 ρ1 H' ρ' → Rp (X.kt τ) H' ρ' h2 → DV (X.kt τ) H' ρ' kd y → Q y H') → wpAny (model X.prog X.w) X.A.in1.in1 (call (.ref f) [u]) (EP X pins' σ Q) (fun _ _ => False) s')
    (k : ∀ v H' ρ', Ext (X.kt τ) H ρ H' ρ' → Rp (X.kt τ) H' ρ' (newL h' (sortBy h' ks ds)).2 → DV (X.kt τ) H' ρ' (newL h' (sortBy h' ks ds)).1 v → Q v H') :
    wpAny (model X.prog X.w) X.A (call (.builtin "sorted") [.ref l] [(Str.ofString "key", .ref f)]) (EP X pins σ Q) X.xe s := by
  refine PySem.W.sorted_of_sort hl hz (PyProof.Rows.ksk_s1 _ _) (fun _ => PyProof.Rows.ksk_l1 _ _) fun E' => ?_
  rw [PyProof.Rows.ksk_t1]
  -- the copy stands at a
  obtain ⟨a, ea⟩ : ∃ a, s.heap.objs.size + 1 = a := ⟨_, rfl⟩
  have ho := PySem.W.copyHeap_at s.heap us
  rw [ea] at ho ⊢
  obtain ⟨hp, ehp⟩ : ∃ hp, PySem.W.copyHeap s.heap us = hp := ⟨_, rfl⟩
  have old1 : ∀ b o, s.heap.get? b = some o → hp.get? b = some o := fun b o e => by
    rw [← ehp]
    exact PySem.W.copyHeap_old e
  rw [ehp] at ho ⊢
  have alt : a < hp.objs.size := Heap.lt_size ho
  obtain ⟨e1, ho1⟩ : ∃ e1, (hp.update a (Obj.mapSeq fun _ => (#[] : Array Value))).get? a = some (seqObj "list" #[] e1) := ⟨_, get?_update_seq ho fun _ => #[]⟩
  have szS : ((hp.update a (Obj.mapSeq fun _ => (#[] : Array Value))).push (seqObj "tuple" us.toArray 0)).objs.size = hp.objs.size + 1 := by rw [size_push', Heap.size_update]
  unfold ksk_tree
  refine wpAny_bind (listItems_at ho rfl ?_)
  refine wpAny_bind (listUpdate_at ho rfl ?_ (by rw [List.size_toArray]; exact hz) (Nat.zero_le _))
  refine wpAny_bind (seqEpoch_at ho1 rfl ?_)
  refine wpAny_bind (wpAny_newTuple ?_ (by show us.length ≤ _; exact hz))
  refine wpAny_bind (wpAny_newList ?_ (Nat.zero_le _))
  refine wpAny_holding ?_
  obtain ⟨kS, ekS⟩ : ∃ kS, ((hp.update a (Obj.mapSeq fun _ => (#[] : Array Value))).push (seqObj "tuple" us.toArray 0)).objs.size = kS := ⟨_, rfl⟩
  have old2 : ∀ b o, s.heap.get? b = some o → (((hp.update a (Obj.mapSeq fun _ => (#[] : Array Value))).push (seqObj "tuple" us.toArray 0)).push (seqObj "list" #[] 0)).get? b = some o := fun b o e =>
    PySem.W.sortingHeap_old (h := hp) (vs := us) (by rw [← ea]; exact Nat.ne_of_lt (Nat.lt_succ_of_lt (Heap.lt_size e))) (old1 b o e)
  have hkS : s.heap.objs.size ≤ kS := by
    have : s.heap.objs.size ≤ hp.objs.size := by omega
    omega
  have ha0 : s.heap.objs.size ≤ a := by omega
  have hka : kS ≠ a := by omega
  have I1 : Inv X ((f, fo) :: pins) σ H { s with heap := ((hp.update a (Obj.mapSeq fun _ => (#[] : Array Value))).push (seqObj "tuple" us.toArray 0)).push (seqObj "list" #[] 0) } := I.kept (t' := s.toks) old2
  have fk : FpOk X ((f, fo) :: pins) H kS := I.fpOk hkS (I.hok.fresh hkS)
  have fa : FpOk X ((f, fo) :: pins) H a := I.fpOk ha0 (I.hok.fresh ha0)
  have atK : (((hp.update a (Obj.mapSeq fun _ => (#[] : Array Value))).push (seqObj "tuple" us.toArray 0)).push (seqObj "list" #[] 0)).get? kS = some (seqObj "list" #[] 0) := by
    rw [← ekS]
    exact Heap.get?_push_size _ rfl
  have atA : (((hp.update a (Obj.mapSeq fun _ => (#[] : Array Value))).push (seqObj "tuple" us.toArray 0)).push (seqObj "list" #[] 0)).get? a = some (seqObj "list" #[] e1) := Heap.get?_push_of_some _ (Heap.get?_push_of_some _ ho1)
  have I2 : Inv X ((kS, seqObj "list" #[] 0) :: (a, seqObj "list" #[] e1) :: (f, fo) :: pins) σ H { s with heap := ((hp.update a (Obj.mapSeq fun _ => (#[] : Array Value))).push (seqObj "tuple" us.toArray 0)).push (seqObj "list" #[] 0) } := by
    refine I1.pins_of fun p hm => ?_
    rcases List.mem_cons.mp hm with z | hm
    · rw [z]
      exact ⟨atK, fk.1, fk.2.1, fk.2.2.1, fun v z => nomatch z⟩
    · rcases List.mem_cons.mp hm with z | hm
      · rw [z]
        exact ⟨atA, fa.1, fa.2.1, fa.2.2.1, fun v z => nomatch z⟩
      · exact I1.pin p (List.mem_append_right _ hm)
  show wpAny _ _ (ksk_rest a (.ref f) false us.toArray e1 (.ref ((hp.update a (Obj.mapSeq fun _ => (#[] : Array Value))).push (seqObj "tuple" us.toArray 0)).objs.size)) _ _ _
  rw [ekS]
  refine keyed_rest (τ := τ) (pins := (f, fo) :: pins) hka fk ⟨H, ρ, [], [], 0, I2, Ext.refl, R, .nil, DVs.nil, rfl⟩ w rv hz go ok ?_ turn fun h3 tk out c H3 ρ3 s3 I3 x3 R3 na nk kp k3 eo => ⟨rfl, ?_⟩
  · show X.A.units + 1 + 1 + 8 < cLine
    have : X.A.units + 20 < cLine := hu
    omega
  · obtain ⟨vs', r', w'⟩ := rd_each eo
    have lz : vs'.length ≤ sizeLine := by
      have h1 : (sortBy h' ks ds).length ≤ ds.length := by
        unfold sortBy
        rw [List.length_map, List.length_mergeSort, List.length_zip]
        exact Nat.min_le_right _ _
      rw [← w'.length]
      have h2 : ds.length = us.length := by rw [w.length, rv.length]
      omega
    have J := adopt (tk := tk) I3 ⟨na, fa.2⟩ ⟨nk, fk.2⟩ kp k3 r' lz
    have J2 : Inv X pins σ (upd H3 a (.lst vs')) { s3 with heap := h3, toks := tk } := J.pins_of fun p hm => J.pin p (List.mem_append_right _ (List.mem_cons_of_mem _ hm))
    exact ⟨.ref a, _, J2, rfl, fin_new R3 (fun v H4 ρ4 x4 R4 v4 => k v H4 ρ4 (x3.trans x4) R4 v4) na w'⟩
theorem L_sortKey {c P : Addr} {e : Expr} {params : Arguments} {body : Expr} {scope : Scope} {lpos kpos p pos : Pos} {pn : Str} {j k : Nat} {mx mb : ME} (hc : X.calm = true) (hN : X.N.Nodup) (hG : GA X.A) (hr : Room (k + 3) X.A) (hs : X.stack = X.env :: X.outer) (hfr : X.env.frame = some X.env.locals)
    (TB : LamX.TabB X.base X.mg c P) (hcode : X.env.code = .ref c) (hm : (P, X.env.qual ++ "<lambda>") ∈ τ) (huq : ∀ q ∈ τ, q.1 = P → q.2 = X.env.qual ++ "<lambda>") (hdef : defaultsOf params X.env = ([], [])) (L : Lam1 X.env.scope scope pn) (hj : X.N[j]? = some pn)
    (hbind : ∀ (u pm ctv : Value) (c' : Addr), bindArgs (PySem.W.kla_fn "<lambda>" (X.env.qual ++ "<lambda>") params body scope (cloFrom X.env.cells scope.names []) pm (.ref c') ctv) ⟨[u], []⟩ = pure [(pn, u)])
    (hg : Gl X "sorted") (hms : X.mg "sorted" = none) (hx : PE X e (LE (X.kt τ) mx))
    (hbody : ∀ (f c' : Addr) (A : Around) (outer : List Env) (s : Shared) (H : Hp), GA (A.deeper (LamX.lamEnv X scope s.heap.objs.size f c')) → Room k (A.deeper (LamX.lamEnv X scope s.heap.objs.size f c')) → PE (LamX.lamCx X A outer s H E0 scope f c') body (LE (X.kt τ) mb))
    (he : starEach [e] X.env = (false, eval e X.env) :: starEach [] X.env := by rfl) (he2 : backTo pos (starEach [e] X.env) = (false, eval e X.env) :: backTo pos (starEach [] X.env) := by rfl) (hpl : (backTo pos (starEach [e] X.env)).any (·.1) = false := by rfl) :
    PE X (.Call (.Name "sorted" p) [e] [⟨some "key", .Lambda params body scope lpos, kpos⟩] pos) (LE (X.kt τ) (mSortKey mx mb j)) := by
  constructor
  intro pins s σ H Q I hq
  obtain ⟨δ, ρ, h, r, h', s0, R, q, kk⟩ := hq
  unfold mSortKey at q
  obtain ⟨⟨d1, h1⟩, m1, q⟩ := Option.bind_eq_some_iff.mp q
  have rm : Rm X.A := by
    have := hr.un
    show X.A.units + 20 < cLine
    omega
  refine wpAny_Call_Name_kw (ld_blt I hg hms PyProof.Rows.Boot.«sorted» ?_ (by decide) (by decide))
  refine PyProof.Rows.callWith_kw (thn ((pa_cons hx pa_nil he).run pos pins s σ H (fun vs H1 => ∃ v ρ1, vs = [v] ∧ Ext (X.kt τ) H ρ H1 ρ1 ∧ Rp (X.kt τ) H1 ρ1 h1 ∧ DV (X.kt τ) H1 ρ1 d1 v) I ⟨δ, ρ, h, d1, h1, s0, R, m1, fun v H1 ρ1 x1 R1 v1 => ⟨v, ρ1, rfl, x1, R1, v1⟩⟩) fun us s1 hus => ?_) he2 hpl
  obtain ⟨vs, H1, I1, r1, v, ρ1, rfl, x1, R1, v1⟩ := hus
  obtain ⟨u, rfl, ru⟩ := r1.one
  show wpAny _ _ (evalAll [(do let v ← eval (.Lambda params body scope lpos) X.env; standAt pos; pure v)]) _ _ s1
  refine wpAny_evalAll_cons (wpAny_bind (LamX.lam_make2 (T := τ) I1 TB hcode hm huq R1.tabs hdef (L.has I1.ok) fun f c' pm ctv H2 s2 I2 ex T2 of nf nfr hcc => wpAny_bind (wpAny_standAt (wpAny_pure (wpAny_evalAll_nil ?_)))))
  show wpAny _ _ (call (.builtin "sorted") [u] [(Str.ofString "key", .ref f)]) _ _ s2
  obtain ⟨x2, R2⟩ := lam_state I2 R1 ex T2
  have nL : f ≠ X.env.locals := fun z => nfr (by rw [hs]; exact List.mem_filterMap.mpr ⟨X.env, List.mem_cons_self, by rw [hfr, z]⟩)
  have nF : f ∉ X.fs := fun z => nfr (by
    rw [hs]
    obtain ⟨e', he', q'⟩ := List.mem_filterMap.mp z
    exact List.mem_filterMap.mpr ⟨e', List.mem_cons_of_mem _ he', q'⟩)
  have I3 : Inv X ((f, PySem.W.kla_obj "<lambda>" (X.env.qual ++ "<lambda>") params body scope (cloFrom X.env.cells scope.names []) pm c' ctv) :: pins) σ H2 s2 := I2.pins_of fun p hp => by
    rcases List.mem_cons.mp hp with z | z
    · rw [z]
      exact ⟨of, nf, nL, nF, fun v z => nomatch z⟩
    · exact I2.pin p (List.mem_append_right _ z)
  have hco : c' ∉ ρ1 := codeO_out I2 R2 hcc
  have s2v : SV (X.kt τ) H2 ρ1 δ σ := (s0.mono x1).mono x2
  have turn : ∀ (pins' : List (Addr × Obj)) (Hz : Hp) (ρz : List Addr) (hz : Hm) (d : D) (v : V) (u : Value) (kd : D) (h2 : Hm) (s' : Shared) (Q : VK), (∀ q ∈ (f, PySem.W.kla_obj "<lambda>" (X.env.qual ++ "<lambda>") params body scope (cloFrom X.env.cells scope.names []) pm c' ctv) :: pins, q ∈ pins') → Inv X pins' σ Hz s' → Ext (X.kt τ) H2 ρ1 Hz ρz → Rp (X.kt τ) Hz ρz hz → DV (X.kt τ) Hz ρz d v → RelV v u → mb (δ.set j (some d)) hz = some (kd, h2) →
      (∀ y H' ρ', Ext (X.kt τ) Hz ρz H' ρ' → Rp (X.kt τ) H' ρ' h2 → DV (X.kt τ) H' ρ' kd y → Q y H') → wpAny (model X.prog X.w) X.A.in1.in1 (call (.ref f) [u]) (EP X pins' σ Q) (fun _ _ => False) s' := by
    intro pins' Hz ρz hz d v u kd h2 s' Q sub Iz xz Rz dz rz mz kz
    have ofz := (Iz.pin _ (List.mem_append_right _ (sub _ List.mem_cons_self))).1
    have ccz := (xz.keep c' _ hcc (LamX.codeO_ne) hco).1
    exact lam_call (k := k) Iz hN hj L (Iz.env0.in1.in1) hG (hr.in1.in1) ofz ccz (hbind u pm ctv c') (fun A outer s H => hbody f c' A outer s H) rz ⟨_, ρz, hz, kd, h2, (s2v.mono xz).set dz, Rz, mz, kz⟩
  cases d1 with
  | ref r0 =>
    simp only at q
    obtain ⟨ds, q1, q⟩ := Option.bind_eq_some_iff.mp q
    obtain ⟨⟨ks, hk⟩, q2, q⟩ := Option.bind_eq_some_iff.mp q
    simp only at q
    split at q
    · rename_i ok
      cases q
      obtain ⟨a, ra, rfl⟩ := (DV.mono x2 _ _ v1).refI
      obtain rfl : u = Value.ref a := ru
      obtain ⟨xs, ha, w⟩ := R2.rd q1 ra
      obtain ⟨its, rv, pl, hz⟩ := I3.list ha
      exact keyed_sort (c' := c') (q := X.env.qual) hc rm I3 R2 pl.isList w rv (by rw [← rv.length]; exact hz) q2 ok turn fun v H' ρ' x R' y => kk v H' ρ' ((x1.trans x2).trans x) R' y
    · cases q
  | rol ds =>
    simp only at q
    obtain ⟨⟨ks, hk⟩, q2, q⟩ := Option.bind_eq_some_iff.mp q
    simp only at q
    split at q
    · rename_i ok
      cases q
      obtain ⟨a, xs, rfl, ha, w⟩ := (DV.mono x2 _ _ v1).rolI
      obtain rfl : u = Value.ref a := ru
      obtain ⟨its, rv, pl, hz⟩ := I3.list ha
      exact keyed_sort (c' := c') (q := X.env.qual) hc rm I3 R2 pl.isList w rv (by rw [← rv.length]; exact hz) q2 ok turn fun v H' ρ' x R' y => kk v H' ρ' ((x1.trans x2).trans x) R' y
    · cases q
  | _ => simp at q
end
end
end DL
set_option Elab.async false
set_option linter.all false
set_option maxRecDepth 100000
/-! DL.EndT: the law's end, where some defs make lambdas: cs tells of each such def its code object, the table there and the name. -/
namespace DL
open PySem PySem.Spec PyProof.Rows L2

abbrev tOf3 (cs : List (Addr × Addr × Str)) : Tb := cs.map fun p => (p.2.1, p.2.2)
theorem end_tab {P : Program} {w : World} {K : PySem.W.Frag} {mg mb : Str → Option Value} {k : Nat} {fa a : Addr} {fd : FuncData} {x : Str} {F : FD} {s₁ : Shared} {ns : List Int} {H : Hp} {cs : List (Addr × Addr × Str)} {vs : List Value} (KX : K.In s₁.heap) (hns : s₁.heap.Ns mainGlobals mg)
    (hb : s₁.heap.Ns builtinsNs mb) (hbb : ∀ x : Str, x ≠ "__name__" → mb x = bootBuiltins x) (hlim : s₁.heap.NoLimit) (hg : s₁.gens = #[]) (hr : Room k callerA)
    (eT : ∀ p ∈ cs, s₁.heap.get? p.2.1 = some { cls := .none, data := .fields #[] }) (nT : ∀ p ∈ cs, K.lookup p.2.1 = none) (cT : ∀ p ∈ cs, PySem.W.CodeHd s₁.heap p.1 p.2.1)
    (hbm : ∃ (bm : Addr) (ob : Obj), mg "__builtins__" = some (.ref bm) ∧ bm ≠ builtinsNs ∧ s₁.heap.get? bm = some ob ∧ ob.cls = .type "module" ∧ ob.dict = some builtinsNs ∧ ob.data = .plain)
    (ha : s₁.heap.get? a = some { cls := .type "list", data := .seq vs.toArray })
    (C : ∀ base : Heap, K.In base → base.Ns mainGlobals mg → (∀ p ∈ cs, LamX.TabB base mg p.1 p.2.1) → FnG P w K mg base CX0 k fa fd [x] (spF ⟨K, w, mg, tOf3 cs⟩ 1 F)) (hbind : ∀ (s : Shared) (u : Value), BindsTo s fd ⟨[u], []⟩ [(x, u)]) (law : ∃ h', F [.rol (ns.map D.int)] [] = some (.bl true, h'))
    (hH : ∀ p ∈ cs, H p.2.1 = some (.tbl #[])) (hO : ∀ b u, H b = some u → (b = a ∧ ∃ o xs, u = .frz o (.lst xs)) ∨ b ∈ cs.map (·.2.1)) (hR : RoL ⟨K, w, mg, tOf3 cs⟩ H a (ns.map V.int)) (hok : HOk P w H s₁.heap) (nK : H a ≠ none → K.lookup a = none) :
    codeAny (model P w) callerA (.call (.ref fa) ⟨[.ref a], []⟩) (fun r s' => r = .ok (.ret (.bool true)) ∧ OldK s₁.heap s'.heap ∧ s'.os = s₁.os ∧ AllBare s'.gens) s₁ := by
  have inT : ∀ {b}, b ∈ cs.map (·.2.1) → ∃ p ∈ cs, p.2.1 = b := fun {b} q => let ⟨p, hp, e⟩ := List.mem_map.mp q; ⟨p, hp, e⟩
  -- what is tracked is a list or a table; all else is base
  have plainly : ∀ {b : Addr} {o : Obj}, s₁.heap.get? b = some o → (∀ xs n, o.data ≠ .seq xs n) → o.data ≠ .fields #[] → H b = none := fun {b o} q n1 n2 => by
    cases q2 : H b with
    | none => rfl
    | some u =>
      rcases hO b u q2 with ⟨e, _⟩ | e
      · rw [e, ha] at q
        cases q
        exact absurd rfl (n1 _ _)
      · obtain ⟨p, hp, e⟩ := inT e
        rw [← e, eT p hp] at q
        cases q
        exact absurd rfl n2
  have stay : ∀ {b : Addr} {o : Obj}, s₁.heap.get? b = some o → H b = none → (hidT s₁.heap H).get? b = some o := fun q z => hidT_get q z
  have dicts : ∀ {b : Addr} {m : Str → Option Value}, s₁.heap.Ns b m → (hidT s₁.heap H).Ns b m := fun {b m} q => by
    obtain ⟨o, es, ep, q1, q2, q3⟩ := q
    exact ⟨o, es, ep, stay q1 (plainly q1 (fun xs n z => by rw [q2] at z; cases z) fun z => by rw [q2] at z; cases z), q2, q3⟩
  have inB : K.In (hidT s₁.heap H) := fun b o q => stay (KX b o q) (by
    cases q2 : H b with
    | none => rfl
    | some u =>
      rcases hO b u q2 with ⟨e, _⟩ | e
      · rw [e] at q q2
        rw [nK (by rw [q2]; simp)] at q
        cases q
      · obtain ⟨p, hp, e⟩ := inT e
        rw [← e, nT p hp] at q
        cases q)
  obtain ⟨mc, l1, l2⟩ := hlim
  have md : Mod K mg (hidT s₁.heap H) := { kin := inB, glob := dicts hns, blt := ⟨mb, dicts hb, hbb⟩, nolimit := ⟨mc, dicts l1, l2⟩ }
  have tb : ∀ p ∈ cs, LamX.TabB (hidT s₁.heap H) mg p.1 p.2.1 := fun p hp => by
    have here := eT p hp
    constructor
    · obtain ⟨o, us, file, tf, flags, tg, inF, text, tt, q1, r1, r2, r3, rest⟩ := cT p hp
      refine ⟨o, us, file, tf, flags, tg, inF, text, tt, stay q1 (plainly q1 (fun xs n z => ?_) fun z => ?_), r1, r2, r3, rest⟩
      · rw [r2] at z
        cases z
      · rw [r2] at z
        cases z
        simp at r3
    · obtain ⟨bm, ob, b1, b2, b3, b4, b5, b6⟩ := hbm
      refine ⟨bm, ob, b1, b2, fun q => ?_, fun q => ?_, stay b3 (plainly b3 (fun xs n z => ?_) fun z => ?_), b4, b5, b6⟩
      · obtain ⟨o, es, ep, e, hd, _⟩ := hns
        rw [q, e] at b3
        cases b3
        rw [hd] at b6
        cases b6
      · rw [q, here] at b3
        cases b3
        cases b6
      · rw [b6] at z
        cases z
      · rw [b6] at z
        cases z
    · intro z
      obtain ⟨o, es, ep, e, hd, _⟩ := hns
      rw [z, here] at e
      cases e
      cases hd
  have e0 : Env0 P w K mg (hidT s₁.heap H) callerA [] s₁ H :=
    { frames := rfl, mod := md, bs := fun b o q => of_hidT q, bsz := Nat.le_of_eq (hidT_size _ _), funs := trivial, frf := fun b z => (List.not_mem_nil z).elim, hok := hok, bare := .of_eq hg }
  obtain ⟨h', e⟩ := law
  have R0 : Rp ⟨K, w, mg, tOf3 cs⟩ H [] [] := ⟨rfl, List.nodup_nil, fun i o q => by simp at q, fun t ht => by
    obtain ⟨p, hp, rfl⟩ := List.mem_map.mp ht
    exact ⟨#[], hH p hp, True.intro, fun pos cv hc => by
      have hc : codeAmong pos [] = some cv := hc
      simp [codeAmong] at hc⟩⟩
  have dv : DVs ⟨K, w, mg, tOf3 cs⟩ H [] [.rol (ns.map D.int)] [.ref a] := DVs.cons (by simp only [DV]; exact ⟨a, _, rfl, hR, DVs.ints ns⟩) DVs.nil
  refine codeAny_mono ((C _ inB (dicts hns) tb).goes (us := [Value.ref a]) (vs := [V.ref a]) rfl hr e0 (hbind s₁ (.ref a)) (.cons rfl .nil) (Q := fun v _ => v = .bl true) (E := E0) ⟨rfl, _, [], [], _, _, dv, R0, e, fun v H' ρ' _ _ v1 => by simpa [DV] using v1⟩) ?_
  intro r s' z
  match r, z with
  | .ok (.ret u), ⟨v, H', os, bare, un, ok2, rv, q⟩ =>
    subst q
    cases rv
    have same : ∀ b o, b ∉ cs.map (·.2.1) → s₁.heap.get? b = some o → s'.heap.get? b = some o := fun b o nb q => by
      cases q2 : H b with
      | none => exact un.keep b o q q2 List.not_mem_nil List.not_mem_nil
      | some t =>
        rcases hO b t q2 with ⟨_, ob, xs, rfl⟩ | z
        · have t1 := (hok b _ q2).1
          rw [q] at t1
          cases t1
          exact (ok2 b _ (un.frzs b o _ q2)).1
        · exact absurd z nb
    have more : ∀ p ∈ cs, ∃ ps : Array Value, s'.heap.get? p.2.1 = some { cls := .none, data := .fields ps } := fun p hp => by
      obtain ⟨ps, q⟩ := un.tbls p.2.1 #[] (hH p hp)
      exact ⟨_, ok2 _ _ q⟩
    refine ⟨rfl, ⟨fun b o q => ?_, fun b o q => ?_⟩, os, bare⟩
    · by_cases hbT : b ∈ cs.map (·.2.1)
      · obtain ⟨p, hp, rfl⟩ := inT hbT
        obtain ⟨ps, hps⟩ := more p hp
        rw [eT p hp] at q
        cases q
        exact .inr (.inl ⟨((cT p hp).tab (eT p hp)).isCodeTable, rfl, #[], ps, rfl, by rw [Array.empty_append]; exact hps⟩)
      · exact .inl (same b o hbT q)
    · by_cases hbT : b ∈ cs.map (·.2.1)
      · obtain ⟨p, hp, rfl⟩ := inT hbT
        obtain ⟨ps, hps⟩ := more p hp
        exact ⟨_, hps⟩
      · exact ⟨o, same b o hbT q⟩
theorem law_endT {P : Program} {w : World} {K : PySem.W.Frag} {mg mb : Str → Option Value} {k : Nat} {fa a : Addr} {fd : FuncData} {x : Str} {F : FD} {s₁ : Shared} {ns : List Int} {cs : List (Addr × Addr × Str)} {vs : List Value} (KX : K.In s₁.heap) (hns : s₁.heap.Ns mainGlobals mg)
    (hb : s₁.heap.Ns builtinsNs mb) (hbb : ∀ x : Str, x ≠ "__name__" → mb x = bootBuiltins x) (hlim : s₁.heap.NoLimit) (hg : s₁.gens = #[]) (hr : Room k callerA)
    (eT : ∀ p ∈ cs, s₁.heap.get? p.2.1 = some { cls := .none, data := .fields #[] }) (nT : ∀ p ∈ cs, K.lookup p.2.1 = none) (cT : ∀ p ∈ cs, PySem.W.CodeHd s₁.heap p.1 p.2.1)
    (hbm : ∃ (bm : Addr) (ob : Obj), mg "__builtins__" = some (.ref bm) ∧ bm ≠ builtinsNs ∧ s₁.heap.get? bm = some ob ∧ ob.cls = .type "module" ∧ ob.dict = some builtinsNs ∧ ob.data = .plain)
    (ha : s₁.heap.get? a = some { cls := .type "list", data := .seq vs.toArray }) (hi : IntsAre vs ns) (hl : ns.length ≤ sizeLine)
    (C : ∀ base : Heap, K.In base → base.Ns mainGlobals mg → (∀ p ∈ cs, LamX.TabB base mg p.1 p.2.1) → FnG P w K mg base CX0 k fa fd [x] (spF ⟨K, w, mg, tOf3 cs⟩ 1 F)) (hbind : ∀ (s : Shared) (u : Value), BindsTo s fd ⟨[u], []⟩ [(x, u)]) (law : ∃ h', F [.rol (ns.map D.int)] [] = some (.bl true, h')) :
    codeAny (model P w) callerA (.call (.ref fa) ⟨[.ref a], []⟩) (fun r s' => r = .ok (.ret (.bool true)) ∧ OldK s₁.heap s'.heap ∧ s'.os = s₁.os ∧ AllBare s'.gens) s₁ := by
  have rv := vals_ints hi
  have isT : ∀ {b : Addr}, b ∈ cs.map (·.2.1) → s₁.heap.get? b = some { cls := .none, data := .fields #[] } := fun {b} q => by
    obtain ⟨p, hp, rfl⟩ := List.mem_map.mp q
    exact eT p hp
  have aT : a ∉ cs.map (·.2.1) := fun z => by
    have q := isT z
    rw [ha] at q
    cases q
  have mT : ∀ p ∈ cs, p.2.1 ∈ cs.map (·.2.1) := fun p hp => List.mem_map.mpr ⟨p, hp, rfl⟩
  let T0 : Hp := fun b => if b ∈ cs.map (·.2.1) then some (.tbl #[]) else none
  have t0 : ∀ {b : Addr}, b ∈ cs.map (·.2.1) → T0 b = some (.tbl #[]) := fun q => if_pos q
  have t1 : ∀ {b : Addr}, b ∉ cs.map (·.2.1) → T0 b = none := fun q => if_neg q
  by_cases hk : K.lookup a = none
  · let sc : Obj := { cls := .type "list", data := .seq vs.toArray }
    have Ha : upd T0 a (.frz sc (.lst (ns.map V.int))) a = some (.frz sc (.lst (ns.map V.int))) := upd_same
    have Hb : ∀ b u, upd T0 a (.frz sc (.lst (ns.map V.int))) b = some u → (b = a ∧ u = .frz sc (.lst (ns.map V.int))) ∨ (b ∈ cs.map (·.2.1) ∧ u = .tbl #[]) := fun b u q => by
      by_cases z : b = a
      · subst z
        rw [upd_same] at q
        exact .inl ⟨rfl, (Option.some.inj q).symm⟩
      · rw [upd_ne z] at q
        by_cases m : b ∈ cs.map (·.2.1)
        · rw [t0 m] at q
          exact .inr ⟨m, (Option.some.inj q).symm⟩
        · rw [t1 m] at q
          cases q
    refine end_tab (H := upd T0 a (.frz sc (.lst (ns.map V.int)))) KX hns hb hbb hlim hg hr eT nT cT hbm ha C hbind law (fun p hp => ?_) (fun b u q => ?_) (.inl ⟨sc, Ha⟩) (fun b u q => ?_) fun _ => hk
    · rw [upd_ne (fun z => aT (by rw [← z]; exact mT p hp))]
      exact t0 (mT p hp)
    · rcases Hb b u q with ⟨e1, e2⟩ | ⟨m, _⟩
      · exact .inl ⟨e1, sc, _, e2⟩
      · exact .inr m
    · rcases Hb b u q with ⟨rfl, rfl⟩ | ⟨m, rfl⟩
      · exact ⟨ha, by simpa using hl, vs, 0, rv, ha⟩
      · exact isT m
  · obtain ⟨o, ho⟩ := Option.ne_none_iff_exists'.mp hk
    have q := KX a o ho
    rw [ha] at q
    cases q
    refine end_tab (H := T0) KX hns hb hbb hlim hg hr eT nT cT hbm ha C hbind law (fun p hp => t0 (mT p hp)) (fun b u q => ?_) (.inr (.inr ⟨_, vs.toArray, 0, ho, rfl, rfl, rfl, ?_, by simpa using rv⟩)) (fun b u q => ?_) fun z => absurd (t1 aT) z
    · by_cases m : b ∈ cs.map (·.2.1)
      · exact .inr m
      · rw [t1 m] at q
        cases q
    · have := hi.length
      rw [List.size_toArray]
      omega
    · by_cases m : b ∈ cs.map (·.2.1)
      · rw [t0 m] at q
        cases q
        exact isT m
      · rw [t1 m] at q
        cases q
/-- the law's row: every script of at most n ints of at most 2^20 bits -/
theorem walk_lawT {l : PySem.W.OpenLaw} {n k : Nat} {q : Program} {loose : List Str} {XP : (Str → Option Value) → Heap → Prop} {YP : World → Heap → Prop} {d : DefRec} {K : Params → PySem.W.Frag} {F : FD} {x : Str} (hn : l.most = some n) (hn2 : n ≤ sizeLine) (hdf : d.params.defaults = []) (hr : Room k callerA)
    (hY : ∀ (w : World) (h : Heap), YP w h → (K w.params).In h)
    (C : ∀ (w : World) (mg : Str → Option Value) (fa : Addr) (h : Heap), YP w h → (K w.params).In h → h.Ns mainGlobals mg → mg d.name = some (.ref fa) →
      ∃ (fd : FuncData) (cs : List (Addr × Addr × Str)), (∀ p ∈ cs, h.get? p.2.1 = some { cls := .none, data := .fields #[] }) ∧ (∀ p ∈ cs, (K w.params).lookup p.2.1 = none) ∧ (∀ p ∈ cs, PySem.W.CodeHd h p.1 p.2.1) ∧ (∀ (s : Shared) (u : Value), BindsTo s fd ⟨[u], []⟩ [(x, u)]) ∧
        ∀ base : Heap, (K w.params).In base → base.Ns mainGlobals mg → (∀ p ∈ cs, LamX.TabB base mg p.1 p.2.1) → FnG l.prog w (K w.params) mg base CX0 k fa fd [x] (spF ⟨K w.params, w, mg, tOf3 cs⟩ 1 F))
    (law : ∀ ns : List Int, ns.length ≤ n → (∀ z ∈ ns, Builtin.Int.intBits z ≤ 1048576) → ∃ h', F [.rol (ns.map D.int)] [] = some (.bl true, h')) : PySem.W.WalkO q loose XP YP l.row.toRowW d [] (fun f vs => PySem.call f vs) := by
  refine Att.attach_callB hn hdf fun w s₀ s₁ mg mb fa o pm cd doc a vs ns G Y ho hd hcd hmg hobj hints hlen hbits hg => ?_
  have KX := hY w _ Y
  obtain ⟨fd, cs, eT, nT, cT, b1, b2⟩ := C w mg fa _ Y KX G.T.g hmg
  exact law_endT KX G.T.g G.T.b G.T.builtins G.T.nolimit hg hr eT nT cT G.T.bmain hobj hints (Nat.le_trans hlen hn2) b2 b1 (law ns hlen hbits)
end DL
set_option Elab.async false
set_option linter.all false
set_option maxRecDepth 100000
/-! DL.MulIx: *, subscripts whatever the object is; what a room leaves. -/
namespace DL
open PySem PySem.Spec PyProof.Rows L2
def dMul : F2 := fI CMul fun i j => .int (i * j)
theorem O_mul {X : Cx} {τ : Tb} : OpD X τ (binaryOp .Mult) dMul := opd_I op_mul fun _ _ _ _ => by simp [DV]
def dMulA : F2 := fun x y h => match x with
  | .int _ => dMul x y h
  | _ => dTMul x y h
theorem O_mulA {X : Cx} {τ : Tb} : OpD X τ (binaryOp .Mult) dMulA := by
  intro pins s σ H x y v u Q I rx ry ⟨ρ, h, d, e, r, h', R, v1, v2, q, k⟩
  cases d with
  | int i => exact O_mul pins s σ H x y v u Q I rx ry ⟨ρ, h, _, e, r, h', R, v1, v2, q, k⟩
  | non => exact O_tmul pins s σ H x y v u Q I rx ry ⟨ρ, h, _, e, r, h', R, v1, v2, q, k⟩
  | bl b => exact O_tmul pins s σ H x y v u Q I rx ry ⟨ρ, h, _, e, r, h', R, v1, v2, q, k⟩
  | str b => exact O_tmul pins s σ H x y v u Q I rx ry ⟨ρ, h, _, e, r, h', R, v1, v2, q, k⟩
  | tup b => exact O_tmul pins s σ H x y v u Q I rx ry ⟨ρ, h, _, e, r, h', R, v1, v2, q, k⟩
  | rol b => exact O_tmul pins s σ H x y v u Q I rx ry ⟨ρ, h, _, e, r, h', R, v1, v2, q, k⟩
  | ref b => exact O_tmul pins s σ H x y v u Q I rx ry ⟨ρ, h, _, e, r, h', R, v1, v2, q, k⟩
  | ty b => exact O_tmul pins s σ H x y v u Q I rx ry ⟨ρ, h, _, e, r, h', R, v1, v2, q, k⟩
/-- o[i], o a list, a tuple, a text or a dict -/
def dIxA : F2 := fun x y h => match x with
  | .ref i => match getK h i with
    | some _ => dIxD x y h
    | none => dIx x y h
  | _ => dIx x y h
theorem dIxA_or {x y r : D} {h h' : Hm} (q : dIxA x y h = some (r, h')) : dIx x y h = some (r, h') ∨ dIxD x y h = some (r, h') := by
  unfold dIxA at q
  split at q
  · split at q
    · exact .inr q
    · exact .inl q
  · exact .inl q
theorem m2_or {f g k : F2} {ma mb : ME} (fg : ∀ {x y r : D} {h h' : Hm}, k x y h = some (r, h') → f x y h = some (r, h') ∨ g x y h = some (r, h')) {δ : Lo} {h h' : Hm} {r : D} (q : m2 k ma mb δ h = some (r, h')) : m2 f ma mb δ h = some (r, h') ∨ m2 g ma mb δ h = some (r, h') := by
  unfold m2 at q ⊢
  obtain ⟨⟨d1, h1⟩, e1, q⟩ := Option.bind_eq_some_iff.mp q
  obtain ⟨⟨d2, h2⟩, e2, q⟩ := Option.bind_eq_some_iff.mp q
  rcases fg q with z | z
  · exact .inl (by rw [e1, Option.bind_some, e2, Option.bind_some]; exact z)
  · exact .inr (by rw [e1, Option.bind_some, e2, Option.bind_some]; exact z)
theorem _root_.L2.PE.either {X : Cx} {e : Expr} {t t' : TE} (h : PE X e t) (h' : PE X e t') : PE X e (fun σ H Q => t σ H Q ∨ t' σ H Q) := ⟨fun pins s σ H Q I q => q.elim (h.run pins s σ H Q I) (h'.run pins s σ H Q I)⟩
theorem L_ixA {X : Cx} {τ : Tb} {a b : Expr} {ma mb : ME} {pos : Pos} (hu : Rm X.A) (ha : PE X a (LE (X.kt τ) ma)) (hb : PE X b (LE (X.kt τ) mb)) (hs : PlainIx b) (hs2 : NoSl b) : PE X (.Subscript a b pos) (LE (X.kt τ) (m2 dIxA ma mb)) :=
  ((L_ix ha hb hs).either (L_ixD hu ha hb hs2)).imp fun σ H Q ⟨δ, ρ, h0, d, h', s, R, q, k⟩ => (m2_or dIxA_or q).elim (fun z => .inl ⟨δ, ρ, h0, d, h', s, R, z, k⟩) fun z => .inr ⟨δ, ρ, h0, d, h', s, R, z, k⟩
/-- a built-in type by its name -/
theorem L_bty {X : Cx} {τ : Tb} {x : Str} {T : String} {pos : Pos} (hg : Gl X x) (hm : X.mg x = none) (hv : bootBuiltins x = some (.type T)) (hn : x ≠ "__name__" := by decide) (hd : (x == ("__debug__" : Str)) = false := by decide) : PE X (.Name x pos) (LE (X.kt τ) (mC (.ty T))) :=
  L_c (pe_bltn hg hm hv (v := .ty T) rfl hn hd) fun _ _ => by simp [DV]
/-- xs.pop(i), d.pop(k) -/
def mPopA (mo mi : ME) : ME := fun δ h => (mo δ h).bind fun p => match p.1 with
  | .ref r => match getK p.2 r with
    | some _ => mPopD mo mi δ h
    | none => mMeth fPop mo (aCons mi aNil) δ h
  | _ => none
theorem L_popA {X : Cx} {τ : Tb} {o e : Expr} {mo mb : ME} {apos cpos : Pos} (hu : Rm X.A) (ho : PE X o (LE (X.kt τ) mo)) (he : PE X e (LE (X.kt τ) mb)) (m : M1 X o "pop" apos e cpos) (h : PE X (.Call (.Attribute o "pop" apos) [e] [] cpos) (tBM X.K "list" (rDm (X.kt τ) fPop) (LE (X.kt τ) mo) (LA (X.kt τ) (aCons mb aNil)))) :
    PE X (.Call (.Attribute o "pop" apos) [e] [] cpos) (LE (X.kt τ) (mPopA mo mb)) :=
  (h.either (L_popD hu ho he m)).imp fun σ H Q ⟨δ, ρ, h0, d, h', s, R, q, k⟩ => by
    unfold mPopA at q
    obtain ⟨⟨d1, h1⟩, e1, q⟩ := Option.bind_eq_some_iff.mp q
    cases d1 with
    | ref r =>
      simp only at q
      split at q
      · exact .inr ⟨δ, ρ, h0, d, h', s, R, q, k⟩
      · exact .inl (LE.meth ⟨δ, ρ, h0, d, h', s, R, q, k⟩)
    | _ => simp at q
/-! ### what a room leaves -/
theorem Rm.of {k : Nat} {A : Around} (r : Room k A) : Rm A := by
  have := r.un
  show A.units + 20 < cLine
  omega
theorem u64 {k : Nat} {A : Around} (r : Room k A) : A.units + 64 < cLine := by have := r.un; omega
theorem u70 {k : Nat} {A : Around} (r : Room k A) : A.units + 70 < cLine := by have := r.un; omega
/-- a comprehension's block, by one look -/
def blkB (N : List Str) (sc scope : Scope) (own : List (Str × Nat)) : Bool :=
  decide (scope.kind = .function) && ((scope.names.all fun y => decide (scope.names.lookup y.1 = some y.2)) && ((own.all fun p => decide (N[p.2]? = some p.1)) &&
    ((scope.names.all fun y => !decide (y.2 = .free) || decide (sc.names.lookup y.1 = some .cell) || decide (sc.names.lookup y.1 = some .free)) &&
      scope.names.all fun y => (!decide (y.2 = .local) && !decide (y.2 = .cell)) || decide (y.1 ∈ own.map (·.1)) || decide (y.1 ∉ N))))
theorem blk_mk {N : List Str} {sc scope : Scope} {own : List (Str × Nat)} (h : blkB N sc scope own = true) : BlkOk N sc scope own := by
  unfold blkB at h
  simp only [Bool.and_eq_true, Bool.or_eq_true, Bool.not_eq_true', decide_eq_true_eq, decide_eq_false_iff_not, List.all_eq_true] at h
  obtain ⟨h1, h2, h3, h4, h5⟩ := h
  refine ⟨h1, h2, h3, fun y hy e => ?_, fun y hy e => ?_⟩
  · rcases h4 y hy with (z | z) | z
    · exact absurd e z
    · exact .inl z
    · exact .inr z
  · rcases h5 y hy with (z | z) | z
    · exact absurd e (fun w => w.elim z.1 z.2)
    · exact .inl z
    · exact .inr z
end DL
set_option Elab.async false
set_option linter.all false
set_option maxRecDepth 100000
/-! DL.Exc: what raises: calls, raise, try .. except. -/
namespace DL
open PySem PySem.Spec PyProof.Rows L2

inductive RX where
  | ok (d : D) | ex (c : Str) (fs : List (Str × D))
abbrev FDX := List D → Hm → Option (RX × Hm)
abbrev MX := Lo → Hm → Option (RX × Hm)
def XEnd (K : Kx) (W : WX) (Q : VK) (σ : L2.St) (H : Hp) (ρ : List Addr) (h' : Hm) : RX → Prop
  | .ok d => ∀ v H' ρ', Ext K H ρ H' ρ' → Rp K H' ρ' h' → DV K H' ρ' d v → Q v H'
  | .ex c fs => ∀ H' ρ' cls dd, Ext K H ρ H' ρ' → Rp K H' ρ' h' → ExAt K H' ρ' c fs cls dd → W cls dd σ H'
/-- an expression that may raise -/
def LX (K : Kx) (W : WX) (m : MX) : TE := fun σ H Q => ∃ δ ρ h r h', SV K H ρ δ σ ∧ Rp K H ρ h ∧ m δ h = some (r, h') ∧ XEnd K W Q σ H ρ h' r
theorem XEnd.mono {K : Kx} {W : WX} {Q : VK} {σ : L2.St} {H H1 : Hp} {ρ ρ1 : List Addr} {h' : Hm} {r : RX} (x : Ext K H ρ H1 ρ1) (e : XEnd K W Q σ H ρ h' r) : XEnd K W Q σ H1 ρ1 h' r := by
  cases r with
  | ok d => exact fun v H' ρ' y => e v H' ρ' (x.trans y)
  | ex c fs => exact fun H' ρ' cls dd y => e H' ρ' cls dd (x.trans y)
def xOf (m : ME) : MX := fun δ h => (m δ h).map fun p => (.ok p.1, p.2)
def xCall (F : FDX) (r : MA) : MX := fun δ h => (r δ h).bind fun p => F p.1 p.2
/-- e's value, then more of it -/
def xThen (m : MX) (F : FDX) : MX := fun δ h => (m δ h).bind fun p => match p.1 with
  | .ok d => F [d] p.2
  | .ex c fs => some (.ex c fs, p.2)
def fOk (F : FD) : FDX := fun ds h => (F ds h).map fun p => (.ok p.1, p.2)
def sRetX (m : MX) : MS := fun δ h => (m δ h).bind fun p => match p.1 with
  | .ok d => some (.rt d, δ, p.2)
  | .ex c fs => some (.ex c fs, δ, p.2)
def sDropX (m : MX) : MS := fun δ h => (m δ h).bind fun p => match p.1 with
  | .ok _ => some (.nx, δ, p.2)
  | .ex c fs => some (.ex c fs, δ, p.2)
def sSetX (i : Nat) (m : MX) : MS := fun δ h => (m δ h).bind fun p => match p.1 with
  | .ok d => some (.nx, δ.set i (some d), p.2)
  | .ex c fs => some (.ex c fs, δ, p.2)
def sAsgX (m : MX) (g : MG) : MS := fun δ h => (m δ h).bind fun p => match p.1 with
  | .ok d => (g d δ p.2).bind fun q => some (.nx, q.1, q.2)
  | .ex c fs => some (.ex c fs, δ, p.2)

def XR (K : Kx) (Q : VK) (E : XK) (H : Hp) (ρ : List Addr) (h' : Hm) : RX → Prop
  | .ok d => ∀ v H' ρ', Ext K H ρ H' ρ' → Rp K H' ρ' h' → DV K H' ρ' d v → Q v H'
  | .ex c fs => ∀ H' ρ' cls dd, Ext K H ρ H' ρ' → Rp K H' ρ' h' → ExAt K H' ρ' c fs cls dd → E cls dd H'
def spX (K : Kx) (n : Nat) (F : FDX) : Sp := fun vs H Q E => vs.length = n ∧ ∃ ds ρ h r h', DVs K H ρ ds vs ∧ Rp K H ρ h ∧ F ds h = some (r, h') ∧ XR K Q E H ρ h' r
def runX (N : Nat) (m : MS) : FDX := fun ds h => (m (ds.map some ++ List.replicate (N - ds.length) none) h).bind fun p => match p.1 with
  | .nx => some (.ok .non, p.2.2)
  | .rt d => some (.ok d, p.2.2)
  | .ex c fs => some (.ex c fs, p.2.2)
  | _ => none

section
variable {X : Cx} {τ : Tb} {W : WX} {e tg : Expr} {es : List Expr} {m : MX} {me : ME} {mr : MA} {g : MG} {pos : Pos} {vs : List Nat}
theorem X_of (h : PE X e (LE (X.kt τ) me)) : PE X e (LX (X.kt τ) W (xOf me)) := h.imp fun σ H Q ⟨δ, ρ, h0, r, h', s, R, q, k⟩ => by
  unfold xOf at q
  obtain ⟨⟨d1, h1⟩, e1, q⟩ := Option.map_eq_some_iff.mp q
  cases q
  exact ⟨δ, ρ, h0, d1, h1, s, R, e1, k⟩
theorem S_retX (h : PE X e (LX (X.kt τ) W m)) : PS X (.Return (some e) pos) (LS (X.kt τ) W (sRetX m)) := (ps_ret h).imp fun Z σ H ⟨δ, ρ, h0, f, δ', h', s, R, q, k⟩ => by
  unfold sRetX at q
  obtain ⟨⟨r, h1⟩, e1, q⟩ := Option.bind_eq_some_iff.mp q
  refine ⟨δ, ρ, h0, r, h1, s, R, e1, ?_⟩
  cases r with
  | ok d => cases q; exact k
  | ex c fs => cases q; exact fun H' ρ' cls dd x R' y => k σ H' ρ' cls dd x R' (s.mono x) y
theorem S_exprX (h : PE X e (LX (X.kt τ) W m)) (hs : swapsWith e none pos.line X.env = pure false := by rfl) : PS X (.Expr e pos) (LS (X.kt τ) W (sDropX m)) := (ps_expr h hs).imp fun Z σ H ⟨δ, ρ, h0, f, δ', h', s, R, q, k⟩ => by
  unfold sDropX at q
  obtain ⟨⟨r, h1⟩, e1, q⟩ := Option.bind_eq_some_iff.mp q
  refine ⟨δ, ρ, h0, r, h1, s, R, e1, ?_⟩
  cases r with
  | ok d => cases q; exact fun v H' ρ' x R' _ => k σ H' ρ' x R' (s.mono x)
  | ex c fs => cases q; exact fun H' ρ' cls dd x R' y => k σ H' ρ' cls dd x R' (s.mono x) y
theorem S_setX {i : Nat} {x : Str} {pos' : Pos} (hN : X.N.Nodup) (hi : X.N[i]? = some x) (hx : Loc X.env.scope x) (he : PE X e (LX (X.kt τ) W m)) (hs : swapsWith e (some (.Name x pos')) pos.line X.env = pure false := by rfl) (hf : X.fn x = true ∨ X.env.scope.names.lookup x = some .local := by first | exact .inl rfl | exact .inr rfl | assumption) :
    PS X (.Assign [.Name x pos'] e pos) (LS (X.kt τ) W (sSetX i m)) := (ps_set hN hi hx he hs hf).imp fun Z σ H ⟨δ, ρ, h0, f, δ', h', s, R, q, k⟩ => by
  unfold sSetX at q
  obtain ⟨⟨r, h1⟩, e1, q⟩ := Option.bind_eq_some_iff.mp q
  refine ⟨δ, ρ, h0, r, h1, s, R, e1, ?_⟩
  cases r with
  | ok d => cases q; exact fun v H1 ρ1 x1 R1 v1 => k _ H1 ρ1 x1 R1 ((s.mono x1).set v1)
  | ex c fs => cases q; exact fun H' ρ' cls dd x R' y => k σ H' ρ' cls dd x R' (s.mono x) y
theorem S_asgX (he : PE X e (LX (X.kt τ) W m)) (hg : PG X tg (LG (X.kt τ) vs g)) (hs : swapsWithSole [tg] e pos.line X.env = pure false := by rfl) (hw : swappedStores [tg] e X.env = pure none := by rfl)
    (h1 : (assignEach [tg] X.env).map (·.2) = [assign tg X.env] := by rfl) : PS X (.Assign [tg] e pos) (LS (X.kt τ) W (sAsgX m g)) := (ps_asg he hg hs hw h1).imp fun Z σ H ⟨δ, ρ, h0, f, δ', h', s, R, q, k⟩ => by
  unfold sAsgX at q
  obtain ⟨⟨r, h1⟩, e1, q⟩ := Option.bind_eq_some_iff.mp q
  refine ⟨δ, ρ, h0, r, h1, s, R, e1, ?_⟩
  cases r with
  | ok d =>
    obtain ⟨⟨δ2, h2⟩, e2, q⟩ := Option.bind_eq_some_iff.mp q
    cases q
    exact fun v H1 ρ1 x1 R1 v1 => ⟨d, δ, ρ1, h1, δ2, h2, v1, s.mono x1, R1, e2, fun σ2 H2 ρ2 x2 R2 s2 _ => k σ2 H2 ρ2 (x1.trans x2) R2 s2⟩
  | ex c fs => cases q; exact fun H' ρ' cls dd x R' y => k σ H' ρ' cls dd x R' (s.mono x) y

/-! ### the call of a def that may raise -/
variable {k : Nat} {f : Addr} {fd : FuncData} {ps : List Str} {x : Str} {p : Pos} {n : Nat} {F : FDX} {sp : Sp} {t : TA}
theorem callX (tk : Takes X W) (hG : GA X.A) (C : FnG X.prog X.w X.K X.mg X.base (L2.CX X.prog X.w) k f fd ps sp) (hr : Room k X.A) (hg : Gl X x) (hm : X.mg x = some (.ref f)) (hk : PySem.W.keepIn X.K (.ref f) = true) (hb : Binds X.K fd ps [])
    (ha : PA X (e :: es) t) (hdb : (x == ("__debug__" : Str)) = false := by decide) (he : starEach (e :: es) X.env = (false, eval e X.env) :: starEach es X.env := by rfl) (hpl : (backTo pos (starEach es X.env)).any (·.1) = false := by rfl) :
    PE X (.Call (.Name x p) (e :: es) [] pos) (fun σ H Q => t σ H fun vs H1 => sp vs H1 Q (fun cls d H' => W cls d σ H')) := by
  constructor
  intro pins s σ H Q I h
  refine wpAny_Call_Name_kw (ld_glob I hg hm (PySem.W.callWith_K I.ok.mod.kin hk (thn (ha.run pos pins s σ H _ I h) ?_) he hpl) hdb)
  rintro us s1 ⟨vs, H1, I1, rv, q⟩
  refine ⟨I1.kIn, wpAny_call (codeAny_mono (C.goes hG hr I1.env0 ?_ rv q) ?_)⟩
  · have hl : us.length = ps.length := rv.length.symm.trans (C.many _ _ _ _ q)
    have := hb s1 us I1.kIn (by simpa using hl)
    simpa using this
  · intro r s' z
    match r, z with
    | .error e', z => exact tk _ _ (XE.of_call I1 (fun _ _ _ y => y) z)
    | .ok (.ret u), z => exact I1.after z
theorem X_call (tk : Takes X W) (hG : GA X.A) (C : FnG X.prog X.w X.K X.mg X.base (L2.CX X.prog X.w) k f fd ps (spX (X.kt τ) n F)) (hr : Room k X.A) (hg : Gl X x) (hm : X.mg x = some (.ref f)) (hk : PySem.W.keepIn X.K (.ref f) = true) (hb : Binds X.K fd ps []) (hn : n = ps.length)
    (hl : ps.length = (e :: es).length) (ha : PA X (e :: es) (LA (X.kt τ) mr)) (hal : ∀ δ h ds h', mr δ h = some (ds, h') → ds.length = (e :: es).length) (hdb : (x == ("__debug__" : Str)) = false := by decide) (he : starEach (e :: es) X.env = (false, eval e X.env) :: starEach es X.env := by rfl) (hpl : (backTo pos (starEach es X.env)).any (·.1) = false := by rfl) :
    PE X (.Call (.Name x p) (e :: es) [] pos) (LX (X.kt τ) W (xCall F mr)) := by
  refine (callX tk hG C hr hg hm hk hb ha hdb he hpl).imp fun σ H Q ⟨δ, ρ, h, r, h', s, R, q, k2⟩ => ?_
  unfold xCall at q
  obtain ⟨⟨ds, h1⟩, e1, q⟩ := Option.bind_eq_some_iff.mp q
  refine ⟨δ, ρ, h, ds, h1, s, R, e1, fun vs H1 ρ1 x1 R1 v1 => ?_⟩
  refine ⟨by rw [← v1.length, hal _ _ _ _ e1, hn, hl], ds, ρ1, h1, r, h', v1, R1, q, ?_⟩
  cases r with
  | ok d => exact fun v H2 ρ2 x2 R2 v2 => k2 v H2 ρ2 (x1.trans x2) R2 v2
  | ex c fs => exact fun H2 ρ2 cls dd x2 R2 y => k2 H2 ρ2 cls dd (x1.trans x2) R2 y
end

/-! ### a def that may raise -/
theorem fn_x {P : Program} {w : World} {K : PySem.W.Frag} {mg : Str → Option Value} {base : Heap} {k : Nat} {f : Addr} {x qual : Str} {st : Stmt} {fd : FuncData} {N ps : List Str} {m : MS} (F : Fun K x qual st f fd) (S : FnScope N ps (defScope st))
    (body : ∀ (cdv : Value) (A : Around) (outer : List Env) (s : Shared) (H : Hp) (E : XK), GA (A.deeper (envOfC qual (defScope st) s.heap.objs.size f cdv)) → Room k (A.deeper (envOfC qual (defScope st) s.heap.objs.size f cdv)) →
      ∀ W : WX, Takes (cxOf (L2.CX P w) P w K mg base N qual (defScope st) f cdv A outer s H E) W → PassesOwn (model P w) (A.deeper (envOfC qual (defScope st) s.heap.objs.size f cdv)) (envOfC qual (defScope st) s.heap.objs.size f cdv) (cxOf (L2.CX P w) P w K mg base N qual (defScope st) f cdv A outer s H E).xe →
      PSs (cxOf (L2.CX P w) P w K mg base N qual (defScope st) f cdv A outer s H E) (defBody st) (LS ⟨K, w, mg, τ⟩ W m)) :
    FnG P w K mg base (L2.CX P w) (k + 1) f fd ps (spX ⟨K, w, mg, τ⟩ ps.length (runX N.length m)) := by
  refine fnG_of F S (fun vs H Q E h => h.1) fun cdv A outer s H E Q vs g hr h => ?_
  refine ⟨_, body cdv A outer s H E g hr (fun cls d _ H' => E cls d H') (takes_of rfl rfl rfl rfl) (passes_of rfl), ?_⟩
  obtain ⟨_, ds, ρ, h0, d, h', w, R, q, k2⟩ := h
  unfold runX at q
  obtain ⟨⟨fl, δ', h1⟩, e1, q⟩ := Option.bind_eq_some_iff.mp q
  refine ⟨_, ρ, h0, fl, δ', h1, SV.start w N, R, e1, ?_⟩
  cases fl with
  | nx =>
    cases q
    exact fun σ' H' ρ' x1 R1 _ => k2 .non H' ρ' x1 R1 (by simp [DV])
  | rt d' =>
    cases q
    exact fun v H' ρ' x1 R1 v1 => k2 v H' ρ' x1 R1 v1
  | brk => cases q
  | ct => cases q
  | ex c fs =>
    cases q
    exact fun σ' H' ρ' cls dd x1 R1 _ y => k2 H' ρ' cls dd x1 R1 y
end DL
set_option Elab.async false
set_option linter.all false
set_option maxRecDepth 100000
/-! DL.Rse: raise C(..), the own __init__ of an exception class, try .. except C as e. -/
namespace DL
open PySem PySem.Spec PyProof.Rows L2

/-! ### __init__(self, f1, ..): self.f1 = f1; .. -/
/-- the slots behind the fields, as self.f = p writes them one after the other -/
def putFs (xs : List V) : List (Str × Nat) → List (Str × V) → Option (List (Str × V))
  | [], fs => some fs
  | (f, i) :: r, fs => match xs[i]? with
    | some v => putFs xs r ((f, v) :: fs)
    | none => none
/-- the same on data -/
def putDs (xs : List D) : List (Str × Nat) → List (Str × D) → Option (List (Str × D))
  | [], fs => some fs
  | (f, i) :: r, fs => match xs[i]? with
    | some v => putDs xs r ((f, v) :: fs)
    | none => none
def spInit (K : PySem.W.Frag) (n : Nat) (w : List (Str × Nat)) : Sp := fun vs H Q _ => ∃ (a C : Addr) (xs : List V) (fs : List (Str × V)), vs = .ref a :: xs ∧ xs.length = n ∧ H a = some (exo a C none) ∧ OexC K C ∧
  putFs (.ref a :: xs) w [] = some fs ∧ (∀ f i, (f, i) ∈ w → PySem.W.findIn K (.ref C) f = some none) ∧ ∀ d H', H d = none → d ≠ a → H' = upd (upd H d (exd d fs)) a (exo a C (some d)) → Q .non H'
/-- its body, read: slot 0 is self -/
def InitB (X : Cx) (w : List (Str × Nat)) (body : List Stmt) : Prop :=
  PSs X body (fun Z σ H => ∃ (a C : Addr) (xs : List V) (fs : List (Str × V)), (∀ (i : Nat) (v : V), xs[i]? = some v → σ[i]? = some (some v)) ∧ xs[0]? = some (.ref a) ∧ OexC X.K C ∧ (∀ f i, (f, i) ∈ w → PySem.W.findIn X.K (.ref C) f = some none) ∧
    ((H a = some (exo a C none) ∧ w ≠ [] ∧ w.length ≤ 800 ∧ putFs xs w [] = some fs ∧ ∀ d H', H d = none → d ≠ a → H' = upd (upd H d (exd d fs)) a (exo a C (some d)) → Z.nx σ H') ∨
      ∃ d fs0, d ≠ a ∧ H a = some (exo a C (some d)) ∧ H d = some (exd d fs0) ∧ fs0.length + w.length ≤ 900 ∧ putFs xs w fs0 = some fs ∧ Z.nx σ (upd H d (exd d fs))))
theorem upd_upd {H : Hp} {a : Addr} {o o' : HO} : upd (upd H a o) a o' = upd H a o' := by
  funext b
  by_cases h : b = a
  · subst h; simp [upd_same]
  · simp [upd_ne h]
theorem upd_self {H : Hp} {a : Addr} {o : HO} (h : H a = some o) : upd H a o = H := by
  funext b
  by_cases z : b = a
  · subst z; rw [upd_same, h]
  · rw [upd_ne z]
theorem upd_comm {H : Hp} {a b : Addr} {o o' : HO} (h : a ≠ b) : upd (upd H a o) b o' = upd (upd H b o') a o := by
  funext c
  by_cases h1 : c = a
  · subst h1
    rw [upd_ne h, upd_same, upd_same]
  · by_cases h2 : c = b
    · subst h2
      rw [upd_same, upd_ne h1, upd_same]
    · rw [upd_ne h2, upd_ne h1, upd_ne h1, upd_ne h2]
theorem init_nil {X : Cx} {τ : Tb} : InitB X [] [] := by
 unfold InitB
 exact pss_nil.imp fun Z σ H ⟨a, C, xs, fs, h1, h2, T, h3, h⟩ => by
  rcases h with ⟨_, z, _⟩ | ⟨d, fs0, _, ea, ed, _, q, k⟩
  · exact absurd rfl z
  · simp only [putFs, Option.some.injEq] at q
    subst q
    rw [upd_self ed] at k
    exact k
theorem init_cons {X : Cx} {τ : Tb} {x : Str} {f : Str} {i : Nat} {w : List (Str × Nat)} {body : List Stmt} {p p1 p2 pos : Pos} {self : Str} (hs0 : X.N[0]? = some self) (hi : X.N[i]? = some x) (v0 : Vis X.env.scope self) (vi : Vis X.env.scope x)
    (hd : (x == ("__debug__" : Str)) = false := by decide) (hd0 : (self == ("__debug__" : Str)) = false := by decide) (hcd : (x == ("__classdict__" : Str)) = false := by decide) (hcd0 : (self == ("__classdict__" : Str)) = false := by decide)
    (hs : swapsWith (.Name x p) (some (.Attribute (.Name self p1) f p2)) pos.line X.env = pure false) (h : InitB X w body) : InitB X ((f, i) :: w) (.Assign [.Attribute (.Name self p1) f p2] (.Name x p) pos :: body) := by
  unfold InitB at h ⊢
  refine (pss_cons (ps_ost (pv 0 hs0 v0 hd0 hcd0) (pv i hi vi hd hcd) hs) h).imp fun Z σ H ⟨a, C, xs, fs, h1, h2, T, h3, hh⟩ => ?_
  have s0 := h1 0 _ h2
  rcases hh with ⟨ea, _, hl, q, k⟩ | ⟨d, fs0, nda, ea, ed, hl, q, k⟩
  · simp only [putFs] at q
    split at q
    · rename_i v hv
      refine ⟨v, h1 _ _ hv, .ref a, s0, a, C, rfl, T, h3 f i List.mem_cons_self, .inl ⟨ea, fun dx n ne => ?_⟩⟩
      refine ⟨a, C, xs, fs, h1, h2, T, fun g j m => h3 g j (List.mem_cons_of_mem _ m), .inr ⟨dx, [(f, v)], ne, upd_same, by rw [upd_ne ne, upd_same], ?_, q, ?_⟩⟩
      · simp at hl ⊢; omega
      · refine k dx _ n ne ?_
        rw [upd_comm (Ne.symm ne), upd_upd]
    · cases q
  · simp only [putFs] at q
    split at q
    · rename_i v hv
      refine ⟨v, h1 _ _ hv, .ref a, s0, a, C, rfl, T, h3 f i List.mem_cons_self, .inr ⟨d, fs0, ea, ed, by simp at hl; omega, ?_⟩⟩
      refine ⟨a, C, xs, fs, h1, h2, T, fun g j m => h3 g j (List.mem_cons_of_mem _ m), .inr ⟨d, (f, v) :: fs0, nda, by rw [upd_ne (Ne.symm nda)]; exact ea, upd_same, by simp at hl ⊢; omega, q, ?_⟩⟩
      rw [upd_upd]
      exact k
    · cases q

theorem init_ok {P : Program} {w : World} {K : PySem.W.Frag} {mg : Str → Option Value} {base : Heap} {k n : Nat} {f : Addr} {x qual : Str} {st : Stmt} {fd : FuncData} {N ps : List Str} {wr : List (Str × Nat)} (F : Fun K x qual st f fd) (S : FnScope N ps (defScope st)) (hn : ps.length = n + 1) (hw : wr ≠ []) (hl : wr.length ≤ 800)
    (body : ∀ (cdv : Value) (A : Around) (outer : List Env) (s : Shared) (H : Hp) (E : XK), InitB (cxOf L2.CX0 P w K mg base N qual (defScope st) f cdv A outer s H E).nox wr (defBody st)) :
    FnOk P w K mg base L2.CX0 (k + 1) f fd ps (spInit K n wr) := by
  refine F.ok S (fun vs H Q E h => ?_) fun cdv A outer s H vs Q E hr h => ?_
  · obtain ⟨a, C, xs, fs, rfl, e, _⟩ := h
    simp [e, hn]
  · obtain ⟨a, C, xs, fs, rfl, e, ea, T, q, h3, k⟩ := h
    refine ⟨_, body cdv A outer s H E, a, C, .ref a :: xs, fs, fun i v h => ?_, rfl, T, h3, .inl ⟨ea, hw, hl, q, k⟩⟩
    have hi := (List.getElem?_eq_some_iff.mp h).1
    unfold L2.start
    rw [List.getElem?_append_left (by simpa using hi), List.getElem?_map, h]
    rfl
theorem putFs_of {K : Kx} {H : Hp} {ρ : List Addr} {d0 : D} {v0 : V} {ds : List D} {xs : List V} (w : DVs K H ρ ds xs) : ∀ (wr : List (Str × Nat)) (fs fs' : List (Str × D)) (gs : List (Str × V)), (∀ p ∈ wr, p.2 ≠ 0) → DFs K H ρ fs gs → putDs (d0 :: ds) wr fs = some fs' → ∃ gs', putFs (v0 :: xs) wr gs = some gs' ∧ DFs K H ρ fs' gs'
  | [], fs, fs', gs, _, r, q => by
    simp only [putDs, Option.some.injEq] at q
    subst q
    exact ⟨gs, rfl, r⟩
  | (f, i) :: wr, fs, fs', gs, hz, r, q => by
    simp only [putDs] at q
    split at q
    · rename_i d hd
      have hi : i ≠ 0 := hz (f, i) List.mem_cons_self
      obtain ⟨j, rfl⟩ := Nat.exists_eq_succ_of_ne_zero hi
      obtain ⟨v, hv, dv⟩ := w.get (i := j) (by simpa using hd)
      obtain ⟨gs', e1, e2⟩ := putFs_of w wr ((f, d) :: fs) fs' ((f, v) :: gs) (fun p m => hz p (List.mem_cons_of_mem _ m)) (by simp only [DFs]; exact ⟨v, gs, rfl, dv, r⟩) q
      refine ⟨gs', ?_, e2⟩
      simp only [putFs]
      have : (v0 :: xs)[j.succ]? = some v := by simpa using hv
      rw [this]
      exact e1
    · cases q
def sRaise (c : Str) (n : Nat) (w : List (Str × Nat)) (mr : MA) : MS := fun δ h => (mr δ h).bind fun p => if p.1.length = n ∧ n ≤ 1000 then (putDs (.non :: p.1) w []).map fun fs => (.ex c fs, δ, p.2) else none
section
variable {X : Cx} {τ : Tb} {W : WX} {e : Expr} {es : List Expr} {mr : MA} {pos pos' p : Pos} {C fI : Addr} {x : Str} {k n : Nat} {fd : FuncData} {ps : List Str} {wr : List (Str × Nat)}
theorem S_raise (hc : X.calm = true) (tk : Takes X W) (T : OexC X.K C) (iC : PySem.W.findIn X.K (.ref C) "__init__" = some (some (.ref fI))) (tI : PySem.W.typeIn X.K (.ref fI) = some (.type "function"))
    (F1 : FnOk X.prog X.w X.K X.mg X.base L2.CX0 k fI fd ps (spInit X.K n wr)) (hr : Room (k + 1) X.A) (hb : Binds X.K fd ps []) (hg : Gl X x) (hm : X.mg x = some (.ref C)) (hno : ∀ f i, (f, i) ∈ wr → PySem.W.findIn X.K (.ref C) f = some none) (hz : ∀ p ∈ wr, p.2 ≠ 0)
    (ha : PA X (e :: es) (LA (X.kt τ) mr)) (hdb : (x == ("__debug__" : Str)) = false := by decide) (he : starEach (e :: es) X.env = (false, eval e X.env) :: starEach es X.env := by rfl) (hpl : (backTo pos (starEach es X.env)).any (·.1) = false := by rfl) :
    PS X (.Raise (some (.Call (.Name x p) (e :: es) [] pos)) none pos') (LS (X.kt τ) W (sRaise x n wr mr)) := by
  refine (ps_raise hc tk (pmk_oex (dvs := []) T iC tI F1 hr hb .nil pass0 hg hm ha hdb he hpl)).imp fun Z σ H ⟨δ, ρ, h, f, δ', h', s, R, q, k2⟩ => ?_
  unfold sRaise at q
  obtain ⟨⟨ds, h1⟩, e1, q⟩ := Option.bind_eq_some_iff.mp q
  simp only at q
  split at q
  · rename_i hl
    obtain ⟨fs, e2, q⟩ := Option.map_eq_some_iff.mp q
    cases q
    refine ⟨δ, ρ, h, ds, _, s, R, e1, fun vs H1 ρ1 x1 R1 v1 => ⟨by rw [← v1.length]; omega, fun a na => ?_⟩⟩
    obtain ⟨gs, e3, rf⟩ := putFs_of (v0 := .ref a) v1 wr [] fs [] hz (by simp [DFs]) e2
    refine ⟨a, C, vs, gs, by simp, by rw [← v1.length]; exact hl.1, upd_same, T, e3, hno, fun d H' nd ne eH => ⟨rfl, d, gs, ?_⟩⟩
    rw [upd_ne ne] at nd
    subst eH
    refine ⟨upd_same, by rw [upd_ne ne]; exact upd_same, nd, ?_⟩
    have e4 : upd (del (upd (upd (upd H1 a (exo a C none)) d (exd d gs)) a (exo a C (some d))) a) d (.xd gs) = upd H1 d (.xd gs) := by
      funext b
      by_cases hbd : b = d
      · subst hbd
        rw [upd_same, upd_same]
      · rw [upd_ne hbd, upd_ne hbd]
        by_cases hba : b = a
        · subst hba
          rw [del_same, na]
        · rw [del_ne hba, upd_ne hba, upd_ne hbd, upd_ne hba]
    rw [e4]
    obtain ⟨x2, R2⟩ := R1.other (o := .xd gs) nd
    exact k2 σ _ _ _ _ (x1.trans x2) R2 ((s.mono x1).mono x2) ⟨hm, .inr ⟨d, gs, rfl, upd_same, R1.fresh nd, DFs.mono x2 _ _ rf⟩⟩
  · cases q

/-! ### try .. except C as n -/
def sTry (i : Nat) (cat : Str → Option Bool) (mb : MS) (mh : Str → List (Str × D) → MS) : MS := fun δ h => (mb δ h).bind fun p => match p.1 with
  | .ex c fs => match cat c with
    | some true => if i < p.2.1.length then (mh c fs (p.2.1.set i none) p.2.2).bind fun q => match q.1 with
        | .ex _ _ => none
        | f => some (f, q.2.1.set i none, q.2.2)
      else none
    | some false => some p
    | none => none
  | _ => some p
/-- the reading of an except suite: the exception at a in slot i -/
def LH (K : Kx) (i : Nat) (a : Addr) (cls : Value) (d : Option Addr) (m : Str → List (Str × D) → MS) : TS := fun Z σ H => ∃ δ ρ h c fs f δ' h', SV K H ρ δ σ ∧ Rp K H ρ h ∧ σ[i]? = some (some (.ref a)) ∧ ExAt K H ρ c fs cls d ∧ m c fs δ h = some (f, δ', h') ∧
  LEnd K (fun _ _ _ _ => False) Z H ρ δ' h' f
def LHE (K : Kx) (i : Nat) (a : Addr) (cls : Value) (d : Option Addr) (m : Str → List (Str × D) → ME) : TE := fun σ H Q => ∃ δ ρ h c fs r h', SV K H ρ δ σ ∧ Rp K H ρ h ∧ σ[i]? = some (some (.ref a)) ∧ ExAt K H ρ c fs cls d ∧ m c fs δ h = some (r, h') ∧
  ∀ v H' ρ', Ext K H ρ H' ρ' → Rp K H' ρ' h' → DV K H' ρ' r v → Q v H'
def LHA (K : Kx) (i : Nat) (a : Addr) (cls : Value) (d : Option Addr) (m : Str → List (Str × D) → MA) : TA := fun σ H Q => ∃ δ ρ h c fs r h', SV K H ρ δ σ ∧ Rp K H ρ h ∧ σ[i]? = some (some (.ref a)) ∧ ExAt K H ρ c fs cls d ∧ m c fs δ h = some (r, h') ∧
  ∀ vs H' ρ', Ext K H ρ H' ρ' → Rp K H' ρ' h' → DVs K H' ρ' r vs → Q vs H'
theorem SV.unset {K : Kx} {H : Hp} {ρ : List Addr} {δ : Lo} {σ : L2.St} (s : SV K H ρ δ σ) (i : Nat) (v : Option V) : SV K H ρ (δ.set i none) (σ.set i v) := by
  refine ⟨by simp [s.1], fun j d h => ?_⟩
  by_cases hj : j = i
  · subst hj
    have hl : j < δ.length := by
      have := (List.getElem?_eq_some_iff.mp h).1
      simpa using this
    rw [List.getElem?_set_self hl] at h
    cases h
  · rw [List.getElem?_set_ne (Ne.symm hj)] at h
    obtain ⟨u, h1, h2⟩ := s.2 j d h
    exact ⟨u, by rw [List.getElem?_set_ne (Ne.symm hj)]; exact h1, h2⟩
theorem S_try {i : Nat} {c : Value} {nm : Str} {np : Pos} {b0 : Stmt} {body suite : List Stmt} {cat : Str → Option Bool} {mb : MS} {mh : Str → List (Str × D) → MS} (hs : X.stack = X.env :: X.outer) (hf : X.env.frame = some X.env.locals) (hN : X.N.Nodup) (hi : X.N[i]? = some nm) (hln : X.env.kindOf nm = some .local) (hc : Names X x c) (tk : Takes X W)
    (hcat : ∀ (c' : Str) (b : Bool) (cls : Value), cat c' = some b → X.mg c' = some cls → PySem.W.exmOne X.K cls c = some b)
    (hb : ∀ (W' : WX) (pn : List (Addr × Obj)) (xe : Value → Shared → Prop), Takes (X.tr pn xe) W' → PassesOwn (model X.prog X.w) X.A X.env xe → PSs (X.tr pn xe) body (LS (X.kt τ) W' mb))
    (hsu : ∀ (a : Addr) (oe : Obj) (cls : Value) (d : Option Addr) (pn : List (Addr × Obj)), Zc cls d oe → (∃ vs, oe.data = .fields vs) → PSs (X.suite a ((a, oe) :: pn)) (b0 :: suite) (LH (X.kt τ) i a cls d mh)) :
    PS X (.Try body [.ExceptHandler (some (.Name x np)) (some nm) (b0 :: suite) pos'] [] [] pos) (LS (X.kt τ) W (sTry i cat mb mh)) := by
  refine (ps_try_as hs hf hN hi hln hc tk hb hsu).imp fun Z σ H ⟨δ, ρ, h, f, δ', h', s, R, q, k⟩ => ?_
  unfold sTry at q
  obtain ⟨⟨f1, δ1, h1⟩, e1, q⟩ := Option.bind_eq_some_iff.mp q
  refine ⟨δ, ρ, h, f1, δ1, h1, s, R, e1, ?_⟩
  cases f1 with
  | nx => cases q; exact k
  | brk => cases q; exact k
  | ct => cases q; exact k
  | rt d => cases q; exact k
  | ex c' fs =>
    simp only at q
    intro σ1 H1 ρ1 cls dd x1 R1 s1 y1
    split at q
    · rename_i hct
      split at q
      · rename_i hlt
        obtain ⟨⟨f2, δ2, h2⟩, e2, q⟩ := Option.bind_eq_some_iff.mp q
        refine ⟨true, hcat _ _ _ hct y1.1, fun _ a na => ?_, fun (z : true = false) => absurd z (by decide)⟩
        refine ⟨_, ρ1, h1, c', fs, f2, δ2, h2, s1.unset i _, R1, ?_, y1, e2, ?_⟩
        · rw [List.getElem?_set_self (by rw [← s1.1]; exact hlt)]
        · cases f2 with
          | nx => cases q; exact fun σ2 H2 ρ2 x2 R2 s2 => k _ H2 ρ2 (x1.trans x2) R2 (s2.unset i none)
          | brk => cases q; exact fun σ2 H2 ρ2 x2 R2 s2 => k _ H2 ρ2 (x1.trans x2) R2 (s2.unset i none)
          | ct => cases q; exact fun σ2 H2 ρ2 x2 R2 s2 => k _ H2 ρ2 (x1.trans x2) R2 (s2.unset i none)
          | rt d => cases q; exact fun v H2 ρ2 x2 R2 s2 => k v H2 ρ2 (x1.trans x2) R2 s2
          | ex c2 fs2 => cases q
      · cases q
    · rename_i hct
      cases q
      exact ⟨false, hcat _ _ _ hct y1.1, fun (z : false = true) => absurd z (by decide), fun _ => k σ1 H1 ρ1 cls dd x1 R1 s1 y1⟩
    · cases q
end

/-! ### in the except suite -/
section
variable {X : Cx} {τ : Tb} {i : Nat} {a : Addr} {cls : Value} {d : Option Addr} {e : Expr} {es : List Expr} {pos : Pos} {me : ME} {m : Str → List (Str × D) → ME} {mr : Str → List (Str × D) → MA} {st : Stmt} {rest : List Stmt} {ms : MS} {mt mu : Str → List (Str × D) → MS}
def hFld (c : Str) (f : Str) : Str → List (Str × D) → ME := fun c' fs δ h => if c' = c then (fs.lookup f).map fun d => (d, h) else none
def hACons (m : Str → List (Str × D) → ME) (r : Str → List (Str × D) → MA) : Str → List (Str × D) → MA := fun c fs => aCons (m c fs) (r c fs)
theorem H_of (h : PE X e (LE (X.kt τ) me)) : PE X e (LHE (X.kt τ) i a cls d (fun _ _ => me)) := h.imp fun σ H Q ⟨δ, ρ, h0, c, fs, r, h', s, R, _, _, q, k⟩ => ⟨δ, ρ, h0, r, h', s, R, q, k⟩
theorem DFs.lookup {K : Kx} {H : Hp} {ρ : List Addr} {f : Str} {x : D} : ∀ {fs : List (Str × D)} {gs : List (Str × V)}, DFs K H ρ fs gs → fs.lookup f = some x → ∃ v, gs.lookup f = some v ∧ DV K H ρ x v
  | [], gs, _, h => by simp at h
  | (g, y) :: fs, gs, r, h => by
    simp only [DFs] at r
    obtain ⟨v, r', rfl, h1, h2⟩ := r
    by_cases hg : (f == g) = true
    · simp only [List.lookup, hg, Option.some.injEq] at h ⊢
      subst h
      exact ⟨v, rfl, h1⟩
    · simp only [List.lookup, Bool.eq_false_iff.mpr hg] at h ⊢
      exact DFs.lookup h2 h
theorem H_fld {oe : Obj} {pn : List (Addr × Obj)} {C : Addr} {c f x : Str} {p : Pos} (T : XfC X.K C) (hno : PySem.W.findIn X.K (.ref C) f = some none) (hm : X.mg c = some (.ref C)) (hz : Zc cls d oe) (hf : ∃ vs, oe.data = .fields vs)
    (hi : X.N[i]? = some x) (hv : Vis X.env.scope x) (hd : (x == ("__debug__" : Str)) = false := by decide) (hcd : (x == ("__classdict__" : Str)) = false := by decide)
    (hb : attributeBase (.Name x p) f X.env (eval (.Name x p) X.env) = eval (.Name x p) X.env := by rfl) :
    PE (X.suite a ((a, oe) :: pn)) (.Attribute (.Name x p) f pos) (LHE (X.kt τ) i a cls d (hFld c f)) := by
  refine (pe_xf (X := X) T hno hz hf (pv (X := X.suite a ((a, oe) :: pn)) i hi hv hd hcd) hb).imp fun σ H Q ⟨δ, ρ, h0, c', fs, r, h', s, R, hs, y, q, k⟩ => ?_
  unfold hFld at q
  split at q
  · rename_i hc
    subst hc
    obtain ⟨x', e1, q⟩ := Option.map_eq_some_iff.mp q
    cases q
    obtain ⟨y1, y2⟩ := y
    have ec : cls = .ref C := by
      have z : X.mg c' = some cls := y1
      rw [hm] at z
      exact (Option.some.inj z).symm
    rcases y2 with ⟨rfl, _⟩ | ⟨dd, gs, ed, eh, _, rf⟩
    · simp at e1
    · obtain ⟨v, l, dv⟩ := rf.lookup e1
      exact ⟨_, hs, rfl, ec, dd, gs, v, ed, eh, l, k v H ρ Ext.refl R dv⟩
  · cases q
theorem HA_nil : PA X [] (LHA (X.kt τ) i a cls d (fun _ _ => aNil)) := pa_nil.imp fun σ H Q ⟨δ, ρ, h0, c, fs, r, h', s, R, _, _, q, k⟩ => by
  cases q
  exact k [] H ρ Ext.refl R DVs.nil
theorem HA_cons (ha : PE X e (LHE (X.kt τ) i a cls d m)) (hr : PA X es (LHA (X.kt τ) i a cls d mr)) (hs : starEach (e :: es) X.env = (false, eval e X.env) :: starEach es X.env := by rfl) : PA X (e :: es) (LHA (X.kt τ) i a cls d (hACons m mr)) :=
  (pa_cons ha hr hs).imp fun σ H Q ⟨δ, ρ, h0, c, fs, r, h', s, R, hv, y, q, k⟩ => by
    unfold hACons aCons at q
    obtain ⟨⟨d1, h1⟩, e1, q⟩ := Option.bind_eq_some_iff.mp q
    obtain ⟨⟨ds, h2⟩, e2, q⟩ := Option.bind_eq_some_iff.mp q
    cases q
    refine ⟨δ, ρ, h0, c, fs, d1, h1, s, R, hv, y, e1, fun v H1 ρ1 x1 R1 v1 => ?_⟩
    refine ⟨δ, ρ1, h1, c, fs, ds, _, s.mono x1, R1, hv, y.mono x1, e2, fun vs H2 ρ2 x2 R2 w2 => ?_⟩
    exact k _ H2 ρ2 (x1.trans x2) R2 (DVs.cons (DV.mono x2 _ _ v1) w2)
theorem H_tup {x1} (h : PA X es (LHA (X.kt τ) i a cls d mr)) : PE X (.Tuple es x1 pos) (LHE (X.kt τ) i a cls d (fun c fs => mTup (mr c fs))) := by
  refine (pe_tup h).imp fun σ H Q ⟨δ, ρ, h0, c, fs, r, h', s, R, hv, y, q, k⟩ => ?_
  unfold mTup at q
  obtain ⟨⟨ds, h1⟩, e1, q⟩ := Option.bind_eq_some_iff.mp q
  split at q
  · rename_i hz
    cases q
    refine ⟨δ, ρ, h0, c, fs, ds, _, s, R, hv, y, e1, fun vs H1 ρ1 x1 R1 v1 => ⟨by rw [← v1.length]; exact hz, fun p hp => ?_⟩⟩
    exact fin_tup R1 (fun v H2 ρ2 x2 R2 v2 => k v H2 ρ2 (x1.trans x2) R2 v2) hp v1
  · cases q
theorem H_ret (h : PE X e (LHE (X.kt τ) i a cls d m)) : PS X (.Return (some e) pos) (LH (X.kt τ) i a cls d (fun c fs => sRet (m c fs))) := (ps_ret h).imp fun Z σ H ⟨δ, ρ, h0, c, fs, f, δ', h', s, R, hv, y, q, k⟩ => by
  unfold sRet at q
  obtain ⟨⟨d1, h1⟩, e1, q⟩ := Option.bind_eq_some_iff.mp q
  cases q
  exact ⟨δ, ρ, h0, c, fs, d1, _, s, R, hv, y, e1, k⟩
theorem Hs_one (h : PS X st (LH (X.kt τ) i a cls d mt)) : PSs X [st] (LH (X.kt τ) i a cls d mt) := pss_one h
/-- a suite that doesn't look at the exception -/
theorem Hs_of (h : PSs X rest (LS (X.kt τ) (fun _ _ _ _ => False) ms)) : PSs X rest (LH (X.kt τ) i a cls d (fun _ _ => ms)) := h.imp fun Z σ H ⟨δ, ρ, h0, c, fs, f, δ', h', s, R, _, _, q, k⟩ => ⟨δ, ρ, h0, f, δ', h', s, R, q, k⟩
end
end DL
set_option Elab.async false
set_option linter.all false
set_option maxRecDepth 100000
/-! DL.Ends: small terms for the generator: what an except clause catches, a def's code object, the table of exceptions. -/
namespace DL
open PySem PySem.Spec PyProof.Rows L2
abbrev noW : WX := fun _ _ _ _ => False
/-- except x as n, x one class: it catches just this class -/
theorem cat_one {K : PySem.W.Frag} {mg : Str → Option Value} {x : Str} {C : Addr} (m : mg x = some (.ref C)) (e : PySem.W.exmOne K (.ref C) (.ref C) = some true) : ∀ (c' : Str) (b : Bool) (cls : Value), (if c' = x then some true else none) = some b → mg c' = some cls → PySem.W.exmOne K cls (.ref C) = some b := by
  intro c' b cls q m'
  split at q
  · rename_i h
    subst h
    cases q
    rw [m] at m'
    cases m'
    exact e
  · cases q
/-- an own class catches its own -/
theorem exm_own {K : PySem.W.Frag} {S : Addr} (h1 : PySem.W.subIn K (.ref S) (.type "BaseException") = some true) (h2 : PySem.W.isClsIn K S = true) (h3 : PySem.W.typeIn K (.ref S) = some (.type "type")) (h4 : PySem.W.subIn K (.ref S) (.ref S) = some true) : PySem.W.exmOne K (.ref S) (.ref S) = some true := by
  unfold PySem.W.exmOne
  have h5 : (PySem.W.clsIn K S).isSome = true := h2
  simp only [h1, PySem.W.kitCls, h3, h4, h5]
  simp
/-- a def that makes a lambda: its code object is known -/
theorem fn_l {P : Program} {w : World} {K : PySem.W.Frag} {mg : Str → Option Value} {base : Heap} {τ : Tb} {k : Nat} {f : Addr} {x qual : Str} {st : Stmt} {fd : FuncData} {N ps : List Str} {m : MS} {cv : Value} (F : Fun K x qual st f fd) (S : FnScope N ps (defScope st)) (hcv : fd.code = cv)
    (body : ∀ (A : Around) (outer : List Env) (s : Shared) (H : Hp) (E : XK), GA (A.deeper (envOfC qual (defScope st) s.heap.objs.size f cv)) → Room k (A.deeper (envOfC qual (defScope st) s.heap.objs.size f cv)) →
      PSs (cxOf L2.CX0 P w K mg base N qual (defScope st) f cv A outer s H E).nox (defBody st) (LS ⟨K, w, mg, τ⟩ (fun _ _ _ _ => False) m)) :
    FnG P w K mg base L2.CX0 (k + 1) f fd ps (spF ⟨K, w, mg, τ⟩ ps.length (runF N.length m)) := by
  obtain ⟨oc, od, kV, doc, pm, an, cdv, ct, osl, e, lk, hcd⟩ := F.ex
  subst e
  have ec : cdv = cv := hcv
  subst ec
  constructor
  · exact fun vs H Q E h => h.1
  intro A outer s H args us vs Q E g hr e0 hb rv hsp
  have len := hsp.1
  have up : ∀ b o, base.get? b = some o → s.heap.get? b = some o := fun b o q => (e0.bs b o q).1
  have inK := e0.mod.kin.keeps up
  refine codeAny_call_function hr.depth (inK _ _ lk) rfl S.co S.gen rfl (PySem.W.codeRec_of inK hcd) (hb _ _ _ _ ?_)
  refine wpAny_newFunctionEnv_cells S.kind ?_ ?_
  · intro y hy
    cases S.par y.1 (List.of_mem_zip hy).1 with
    | inl q => exact Or.inl q
    | inr q => exact Or.inr ⟨q, PySem.W.cellsFrom_some _ _ _ (Or.inl q)⟩
  · intro env he s1 made
    subst he
    have ga : GA (A.deeper (envOfC qual (defScope st) s.heap.objs.size f cdv)) := g
    have bd := (body A outer s H E ga (hr.deeper _)).nox
    obtain ⟨_, ds, ρ, h0, d, h', w1, R, q, k2⟩ := hsp
    unfold runF at q
    obtain ⟨⟨fl, δ', h1⟩, e1, q⟩ := Option.bind_eq_some_iff.mp q
    have at0 : LS ⟨K, w, mg, τ⟩ (fun _ _ _ _ => False) m { nx := fun _ H' => Q .non H', rt := Q } (start N vs) H := by
      refine ⟨_, ρ, h0, fl, δ', h1, SV.start w1 N, R, e1, ?_⟩
      cases fl with
      | nx =>
        cases q
        exact fun σ' H' ρ' x1 R1 _ => k2 .non H' ρ' x1 R1 (by simp [DV])
      | rt d' =>
        cases q
        exact fun v H' ρ' x1 R1 v1 => k2 v H' ρ' x1 R1 v1
      | brk => cases q
      | ct => cases q
      | ex c fs => cases q
    have I := inv_start (CX := L2.CX0) (E := E) S hr.hd e0 len rv made
    have lim : s.heap.NoLimit := e0.mod.nolimit.keeps up
    refine ⟨lim.keeps made.toInCall.keep, codeAny_func (wpAny_mono (bd.run [] s1 (start N vs) H _ I at0) ?_ (fun _ _ z => z))⟩
    intro fl s' hs
    cases fl with
    | ret u =>
      obtain ⟨v, _, H', J, q1, q2⟩ := hs
      exact ⟨v, H', J.os, J.bare, J.base, J.hok, q1, q2⟩
    | next =>
      obtain ⟨_, H', J, q2⟩ := hs
      exact ⟨.non, H', J.os, J.bare, J.base, J.hok, rfl, q2⟩
    | brk =>
      obtain ⟨_, _, _, q⟩ := hs
      cases q
    | cont =>
      obtain ⟨_, _, _, q⟩ := hs
      cases q
/-- a lambda's scope, by one look -/
def lam1B (sc scope : Scope) (p : Str) : Bool :=
  decide (scope.kind = .function) && (!scope.isCoroutine && (!scope.isGenerator && (decide (scope.names.lookup p = some .local) && ((scope.names.all fun y => !decide (y.2 = .cell) && (!decide (y.2 = .local) || decide (y.1 = p))) &&
    scope.names.all fun y => !decide (y.2 = .free) || decide (sc.names.lookup y.1 = some .cell) || decide (sc.names.lookup y.1 = some .free)))))
theorem lam1_mk {sc scope : Scope} {p : Str} (h : lam1B sc scope p = true) : Lam1 sc scope p := by
  unfold lam1B at h
  simp only [Bool.and_eq_true, Bool.or_eq_true, Bool.not_eq_true', decide_eq_true_eq, decide_eq_false_iff_not, List.all_eq_true] at h
  obtain ⟨h1, h2, h3, h4, h5, h6⟩ := h
  refine ⟨h1, h2, h3, h4, fun y hy => ⟨(h5 y hy).1, fun e => ?_⟩, fun y hy e => ?_⟩
  · rcases (h5 y hy).2 with z | z
    · exact absurd e z
    · exact z
  · rcases h6 y hy with (z | z) | z
    · exact absurd e z
    · exact .inl z
    · exact .inr z
/-- a class's body: its i-th statement -/
def clsAt (st : Stmt) (i : Nat) : Stmt := match st with
  | .ClassDef (body := b) .. => b.getD i (.Pass ⟨0, 0, 0, 0⟩)
  | _ => .Pass ⟨0, 0, 0, 0⟩
end DL
set_option Elab.async false
set_option linter.all false
set_option maxRecDepth 100000
/-! DL.Wp: what a mirror ends with: Wp (an expression, a call), Ws (a statement), and a rule a construct. -/
namespace DL
open PySem PySem.Spec PyProof.Rows L2
def Wp {α : Type} (o : Option (α × Hm)) (Q : α → Hm → Prop) : Prop := ∃ a h', o = some (a, h') ∧ Q a h'
def Ws (o : Option (Fl × Lo × Hm)) (Q : Fl → Lo → Hm → Prop) : Prop := ∃ f δ h', o = some (f, δ, h') ∧ Q f δ h'
theorem Wp.imp {α : Type} {o : Option (α × Hm)} {Q Q' : α → Hm → Prop} (w : Wp o Q) (i : ∀ a h, Q a h → Q' a h) : Wp o Q' := let ⟨a, h, e, q⟩ := w; ⟨a, h, e, i a h q⟩
theorem Ws.imp {o : Option (Fl × Lo × Hm)} {Q Q' : Fl → Lo → Hm → Prop} (w : Ws o Q) (i : ∀ f δ h, Q f δ h → Q' f δ h) : Ws o Q' := let ⟨a, b, h, e, q⟩ := w; ⟨a, b, h, e, i a b h q⟩
@[simp] theorem wp_some {α : Type} {a : α} {h : Hm} {Q : α → Hm → Prop} : Wp (some (a, h)) Q ↔ Q a h := ⟨fun ⟨_, _, e, q⟩ => by cases e; exact q, fun q => ⟨_, _, rfl, q⟩⟩
@[simp] theorem wp_none {α : Type} {Q : α → Hm → Prop} : Wp (none : Option (α × Hm)) Q ↔ False := ⟨(fun h => by obtain ⟨_, _, e, _⟩ := h; cases e), False.elim⟩
@[simp] theorem ws_some {f : Fl} {δ : Lo} {h : Hm} {Q : Fl → Lo → Hm → Prop} : Ws (some (f, δ, h)) Q ↔ Q f δ h := ⟨fun ⟨_, _, _, e, q⟩ => by cases e; exact q, fun q => ⟨_, _, _, rfl, q⟩⟩
@[simp] theorem ws_none {Q : Fl → Lo → Hm → Prop} : Ws none Q ↔ False := ⟨(fun h => by obtain ⟨_, _, _, e, _⟩ := h; cases e), False.elim⟩
theorem wp_bind {α β : Type} {o : Option (α × Hm)} {f : α × Hm → Option (β × Hm)} {Q : β → Hm → Prop} : Wp (o.bind f) Q ↔ Wp o fun a h => Wp (f (a, h)) Q := by
  constructor
  · rintro ⟨b, h', e, q⟩
    obtain ⟨⟨a, h1⟩, e1, e2⟩ := Option.bind_eq_some_iff.mp e
    exact ⟨a, h1, e1, b, h', e2, q⟩
  · rintro ⟨a, h1, e1, b, h', e2, q⟩
    exact ⟨b, h', by rw [e1]; exact e2, q⟩
theorem ws_bind {α : Type} {o : Option (α × Hm)} {f : α × Hm → Option (Fl × Lo × Hm)} {Q : Fl → Lo → Hm → Prop} : Ws (o.bind f) Q ↔ Wp o fun a h => Ws (f (a, h)) Q := by
  constructor
  · rintro ⟨b, δ, h', e, q⟩
    obtain ⟨⟨a, h1⟩, e1, e2⟩ := Option.bind_eq_some_iff.mp e
    exact ⟨a, h1, e1, b, δ, h', e2, q⟩
  · rintro ⟨a, h1, e1, b, δ, h', e2, q⟩
    exact ⟨b, δ, h', by rw [e1]; exact e2, q⟩
theorem ws_bind3 {o : Option (Fl × Lo × Hm)} {f : Fl × Lo × Hm → Option (Fl × Lo × Hm)} {Q : Fl → Lo → Hm → Prop} : Ws (o.bind f) Q ↔ Ws o fun a δ h => Ws (f (a, δ, h)) Q := by
  constructor
  · rintro ⟨b, δ, h', e, q⟩
    obtain ⟨⟨a, δ1, h1⟩, e1, e2⟩ := Option.bind_eq_some_iff.mp e
    exact ⟨a, δ1, h1, e1, b, δ, h', e2, q⟩
  · rintro ⟨a, δ1, h1, e1, b, δ, h', e2, q⟩
    exact ⟨b, δ, h', by rw [e1]; exact e2, q⟩
theorem wp_bind3 {β : Type} {o : Option (Fl × Lo × Hm)} {f : Fl × Lo × Hm → Option (β × Hm)} {Q : β → Hm → Prop} : Wp (o.bind f) Q ↔ Ws o fun a δ h => Wp (f (a, δ, h)) Q := by
  constructor
  · rintro ⟨b, h', e, q⟩
    obtain ⟨⟨a, δ1, h1⟩, e1, e2⟩ := Option.bind_eq_some_iff.mp e
    exact ⟨a, δ1, h1, e1, b, h', e2, q⟩
  · rintro ⟨a, δ1, h1, e1, b, h', e2, q⟩
    exact ⟨b, h', by rw [e1]; exact e2, q⟩
/-- a value that is there -/
def oK {α : Type} : Option α → (α → Hm → Prop) → Hm → Prop
  | some a, Q, h => Q a h
  | none, _, _ => False
@[simp] theorem oK_some {α : Type} {a : α} {Q : α → Hm → Prop} {h : Hm} : oK (some a) Q h = Q a h := rfl
@[simp] theorem oK_none {α : Type} {Q : α → Hm → Prop} {h : Hm} : oK none Q h = False := rfl
theorem wp_map {α : Type} {o : Option α} {h : Hm} {Q : α → Hm → Prop} : Wp (o.map fun a => (a, h)) Q ↔ oK o Q h := by
  cases o with
  | none => simp
  | some a => simp
theorem wp_oK {α β : Type} {o : Option α} {f : α → Option (β × Hm)} {h : Hm} {Q : β → Hm → Prop} : Wp (o.bind f) Q ↔ oK o (fun a _ => Wp (f a) Q) h := by
  cases o with
  | none => simp
  | some a => simp
def varK : Option (Option D) → (D → Hm → Prop) → Hm → Prop
  | some (some d), Q, h => Q d h
  | _, _, _ => False
@[simp] theorem varK_some {d : D} {Q : D → Hm → Prop} {h : Hm} : varK (some (some d)) Q h = Q d h := rfl
def blK (Q : Bool → Hm → Prop) : D → Hm → Prop
  | .bl b, h => Q b h
  | _, _ => False
@[simp] theorem blK_bl {Q : Bool → Hm → Prop} {b : Bool} {h : Hm} : blK Q (.bl b) h = Q b h := rfl
section
variable {δ : Lo} {h : Hm} {a b m : ME} {r : MA} {t u : MT} {Q : D → Hm → Prop} {P : Bool → Hm → Prop} {L : List D → Hm → Prop} {S : Fl → Lo → Hm → Prop} {G : Lo → Hm → Prop} {x y : MS} {g : MG} {gs : MGs} {F : FD}
@[simp] theorem w_var {i : Nat} : Wp (mVar i δ h) Q ↔ varK δ[i]? Q h := by
  unfold mVar varK
  split <;> simp_all
@[simp] theorem w_c {d : D} : Wp (mC d δ h) Q ↔ Q d h := by simp [mC]
@[simp] theorem w_m2 {f : F2} : Wp (m2 f a b δ h) Q ↔ Wp (a δ h) fun d h => Wp (b δ h) fun e h => Wp (f d e h) Q := by simp only [m2, wp_bind]
@[simp] theorem w_m1 {f : F1} : Wp (m1 f a δ h) Q ↔ Wp (a δ h) fun d h => Wp (f d h) Q := by simp only [m1, wp_bind]
@[simp] theorem w_tOf : Wp (tOf m δ h) P ↔ Wp (m δ h) (blK P) := by
  simp only [tOf, wp_bind]
  refine iff_of_eq (congrArg _ (funext fun d => funext fun h => ?_))
  cases d <;> simp [blK]
@[simp] theorem w_tTru : Wp (tTru m δ h) P ↔ Wp (m δ h) fun d h => oK (dTru d h) P h := by simp only [tTru, wp_bind, wp_map]
@[simp] theorem w_andT : Wp (tAndM t u δ h) P ↔ Wp (t δ h) fun c h => if c = true then Wp (u δ h) P else P false h := by
  simp only [tAndM, wp_bind]
  refine iff_of_eq (congrArg _ (funext fun d => funext fun h => ?_))
  cases d <;> simp
@[simp] theorem w_orT : Wp (tOrM t u δ h) P ↔ Wp (t δ h) fun c h => if c = true then P true h else Wp (u δ h) P := by
  simp only [tOrM, wp_bind]
  refine iff_of_eq (congrArg _ (funext fun d => funext fun h => ?_))
  cases d <;> simp
@[simp] theorem w_notT : Wp (tNotM t δ h) P ↔ Wp (t δ h) fun c h => P (!c) h := by simp only [tNotM, wp_bind, wp_some]
@[simp] theorem w_tYes : Wp (tYesM δ h) P ↔ P true h := by simp [tYesM]
@[simp] theorem w_mIf : Wp (mIf t a b δ h) Q ↔ Wp (t δ h) fun c h => if c = true then Wp (a δ h) Q else Wp (b δ h) Q := by
  simp only [mIf, wp_bind]
  refine iff_of_eq (congrArg _ (funext fun d => funext fun h => ?_))
  cases d <;> simp
@[simp] theorem w_andV : Wp (mAndV a b δ h) Q ↔ Wp (a δ h) (blK fun c h => if c = true then Wp (b δ h) Q else Q (.bl false) h) := by
  simp only [mAndV, wp_bind]
  refine iff_of_eq (congrArg _ (funext fun d => funext fun h => ?_))
  cases d <;> simp [blK]
  rename_i c
  cases c <;> simp
@[simp] theorem w_orV : Wp (mOrV a b δ h) Q ↔ Wp (a δ h) (blK fun c h => if c = true then Q (.bl true) h else Wp (b δ h) Q) := by
  simp only [mOrV, wp_bind]
  refine iff_of_eq (congrArg _ (funext fun d => funext fun h => ?_))
  cases d <;> simp [blK]
  rename_i c
  cases c <;> simp
@[simp] theorem w_notV : Wp (mNotV a δ h) Q ↔ Wp (a δ h) (blK fun c h => Q (.bl (!c)) h) := by
  simp only [mNotV, wp_bind]
  refine iff_of_eq (congrArg _ (funext fun d => funext fun h => ?_))
  cases d <;> simp [blK]
@[simp] theorem w_aNil : Wp (aNil δ h) L ↔ L [] h := by simp [aNil]
@[simp] theorem w_aCons : Wp (aCons m r δ h) L ↔ Wp (m δ h) fun d h => Wp (r δ h) fun ds h => L (d :: ds) h := by simp only [aCons, wp_bind, wp_some]
@[simp] theorem w_mTup : Wp (mTup r δ h) Q ↔ Wp (r δ h) fun ds h => ds.length ≤ sizeLine ∧ Q (.tup ds) h := by
  simp only [mTup, wp_bind]
  refine iff_of_eq (congrArg _ (funext fun d => funext fun h => ?_))
  by_cases z : d.length ≤ sizeLine <;> simp [z]
@[simp] theorem w_mLst : Wp (mLst r δ h) Q ↔ Wp (r δ h) fun ds h => ds.length ≤ sizeLine ∧ Q (.ref h.length) (h ++ [.lst ds]) := by
  simp only [mLst, wp_bind]
  refine iff_of_eq (congrArg _ (funext fun d => funext fun h => ?_))
  by_cases z : d.length ≤ sizeLine <;> simp [z, newL]
@[simp] theorem w_mCall : Wp (mCall F r δ h) Q ↔ Wp (r δ h) fun ds h => Wp (F ds h) Q := by simp only [mCall, wp_bind]
/-- what comes behind a statement -/
def sqK (k : Lo → Hm → Prop) (S : Fl → Lo → Hm → Prop) : Fl → Lo → Hm → Prop
  | .nx, δ, h => k δ h
  | f, δ, h => S f δ h
@[simp] theorem sqK_nx {k : Lo → Hm → Prop} : sqK k S .nx δ h = k δ h := rfl
@[simp] theorem sqK_brk {k : Lo → Hm → Prop} : sqK k S .brk δ h = S .brk δ h := rfl
@[simp] theorem sqK_ct {k : Lo → Hm → Prop} : sqK k S .ct δ h = S .ct δ h := rfl
@[simp] theorem sqK_rt {k : Lo → Hm → Prop} {d : D} : sqK k S (.rt d) δ h = S (.rt d) δ h := rfl
@[simp] theorem sqK_ex {k : Lo → Hm → Prop} {c : Str} {fs : List (Str × D)} : sqK k S (.ex c fs) δ h = S (.ex c fs) δ h := rfl
@[simp] theorem w_sNil : Ws (sNil δ h) S ↔ S .nx δ h := by simp [sNil]
@[simp] theorem w_sBrk : Ws (sBrk δ h) S ↔ S .brk δ h := by simp [sBrk]
@[simp] theorem w_sCt : Ws (sCt δ h) S ↔ S .ct δ h := by simp [sCt]
@[simp] theorem w_sRetN : Ws (sRetN δ h) S ↔ S (.rt .non) δ h := by simp [sRetN]
@[simp] theorem w_sSeq : Ws (sSeq x y δ h) S ↔ Ws (x δ h) (sqK (fun δ h => Ws (y δ h) S) S) := by
  simp only [sSeq, ws_bind3]
  refine iff_of_eq (congrArg _ (funext fun d => funext fun δ => funext fun h => ?_))
  cases d <;> simp
@[simp] theorem w_sRet : Ws (sRet m δ h) S ↔ Wp (m δ h) fun d h => S (.rt d) δ h := by simp only [sRet, ws_bind, ws_some]
@[simp] theorem w_sDrop : Ws (sDrop m δ h) S ↔ Wp (m δ h) fun d h => S .nx δ h := by simp only [sDrop, ws_bind, ws_some]
@[simp] theorem w_sIf : Ws (sIf t x y δ h) S ↔ Wp (t δ h) fun c h => if c = true then Ws (x δ h) S else Ws (y δ h) S := by
  simp only [sIf, ws_bind]
  refine iff_of_eq (congrArg _ (funext fun d => funext fun h => ?_))
  cases d <;> simp
@[simp] theorem w_sAsg : Ws (sAsg m g δ h) S ↔ Wp (m δ h) fun d h => Wp (g d δ h) fun δ h => S .nx δ h := by simp only [sAsg, ws_bind, ws_some]
@[simp] theorem w_sSet {i : Nat} : Ws (sSet i m δ h) S ↔ Wp (m δ h) fun d h => S .nx (δ.set i (some d)) h := by simp only [sSet, ws_bind, ws_some]
def parK (k : D → D → Prop) : List D → Prop
  | [a, b] => k a b
  | _ => False
@[simp] theorem parK_two {k : D → D → Prop} {a b : D} : parK k [a, b] = k a b := rfl
@[simp] theorem w_sPar {i j : Nat} : Ws (sPar i j r δ h) S ↔ Wp (r δ h) fun ds h => parK (fun a b => S .nx ((δ.set i (some a)).set j (some b)) h) ds := by
  simp only [sPar, ws_bind]
  refine iff_of_eq (congrArg _ (funext fun d => funext fun h => ?_))
  match d with
  | [] => simp [parK]
  | [a] => simp [parK]
  | [a, b] => simp
  | a :: b :: c :: d => simp [parK]
@[simp] theorem w_gN {i : Nat} {d : D} : Wp (gN i d δ h) G ↔ G (δ.set i (some d)) h := by simp [gN]
def tupK (n : Nat) (k : List D → Prop) : D → Prop
  | .tup ds => ds.length = n ∧ k ds
  | _ => False
@[simp] theorem tupK_tup {n : Nat} {k : List D → Prop} {ds : List D} : tupK n k (.tup ds) = (ds.length = n ∧ k ds) := rfl
@[simp] theorem w_gTup {n : Nat} {d : D} : Wp (gTupM n gs d δ h) G ↔ tupK n (fun ds => Wp (gs ds δ h) G) d := by
  cases d <;> simp [gTupM, tupK]
  rename_i ds
  by_cases z : ds.length = n <;> simp [z]
@[simp] theorem w_gNil {ds : List D} : Wp (gNilM ds δ h) G ↔ ds = [] ∧ G δ h := by
  cases ds <;> simp [gNilM]
@[simp] theorem w_gCons {d : D} {ds : List D} : Wp (gConsM g gs (d :: ds) δ h) G ↔ Wp (g d δ h) fun δ h => Wp (gs ds δ h) G := by simp only [gConsM, wp_bind]
/-- a statement by itself; what comes behind it stays shut -/
theorem ws_cut (f : ∀ K : Lo → Hm → Prop, (∀ δ h, Ws (y δ h) S → K δ h) → Ws (x δ h) (sqK K S)) : Ws (sSeq x y δ h) S := w_sSeq.mpr (f _ fun _ _ q => q)
/-- what a def ends with -/
def retK (Q : D → Hm → Prop) : Fl → Lo → Hm → Prop
  | .nx, _, h => Q .non h
  | .rt d, _, h => Q d h
  | _, _, _ => False
@[simp] theorem retK_nx : retK Q .nx δ h = Q .non h := rfl
@[simp] theorem retK_rt {d : D} : retK Q (.rt d) δ h = Q d h := rfl
theorem w_runF {N : Nat} {ds : List D} : Wp (runF N x ds h) Q ↔ Ws (x (ds.map some ++ List.replicate (N - ds.length) none) h) (retK Q) := by
  simp only [runF, wp_bind3]
  refine iff_of_eq (congrArg _ (funext fun d => funext fun δ => funext fun h => ?_))
  cases d <;> simp [retK]
end

/-! ### loops -/
section
variable {gd : Hm → Prop} {g : MG} {b : MS} {t : MT} {e : ME} {mi : MI} {δ : Lo} {h : Hm} {S : Fl → Lo → Hm → Prop} {Q : D → Hm → Prop}
@[simp] theorem w_sFor : Ws (sFor mi g b δ h) S ↔ Wp (mi δ h) fun s h => Ws (forGo s.guard g b s.items δ h) S := by simp only [sFor, ws_bind]
/-- behind the body: what holds for the next item -/
def forK (I : Lo → Hm → Prop) (S : Fl → Lo → Hm → Prop) : Fl → Lo → Hm → Prop
  | .nx, δ, h => I δ h
  | .ct, δ, h => I δ h
  | .brk, δ, h => S .nx δ h
  | .rt d, δ, h => S (.rt d) δ h
  | .ex c fs, δ, h => S (.ex c fs) δ h
@[simp] theorem forK_nx {I : Lo → Hm → Prop} : forK I S .nx δ h = I δ h := rfl
@[simp] theorem forK_ct {I : Lo → Hm → Prop} : forK I S .ct δ h = I δ h := rfl
@[simp] theorem forK_brk {I : Lo → Hm → Prop} : forK I S .brk δ h = S .nx δ h := rfl
@[simp] theorem forK_rt {I : Lo → Hm → Prop} {d : D} : forK I S (.rt d) δ h = S (.rt d) δ h := rfl
@[simp] theorem forK_ex {I : Lo → Hm → Prop} {c : Str} {fs : List (Str × D)} : forK I S (.ex c fs) δ h = S (.ex c fs) δ h := rfl
open Classical in
theorem ws_forGo_cons {d : D} {ds : List D} (hg : gd h) : Ws (forGo gd g b (d :: ds) δ h) S ↔ Wp (g d δ h) fun δ h => Ws (b δ h) (forK (fun δ h => Ws (forGo gd g b ds δ h) S) S) := by
  rw [forGo, if_pos hg]
  simp only [ws_bind, ws_bind3]
  refine iff_of_eq (congrArg _ (funext fun δ => funext fun h => congrArg _ (funext fun d => funext fun δ => funext fun h => ?_)))
  cases d <;> simp
open Classical in
theorem ws_forGo_nil (hg : gd h) : Ws (forGo gd g b [] δ h) S ↔ S .nx δ h := by
  rw [forGo, if_pos hg]
  simp
/-- a for loop by what holds ahead of each item; rest: the items still to come -/
theorem for_inv (I : Nat → Lo → Hm → Prop) (items : List D) (h0 : I 0 δ h) (step : ∀ (i : Nat) (d : D) (δ : Lo) (h : Hm), items[i]? = some d → I i δ h → gd h ∧ Wp (g d δ h) fun δ h => Ws (b δ h) (forK (I (i + 1)) S))
    (fin : ∀ δ h, I items.length δ h → gd h ∧ S .nx δ h) : Ws (forGo gd g b items δ h) S := by
  have key : ∀ (n i : Nat) (δ : Lo) (h : Hm), items.length - i = n → i ≤ items.length → I i δ h → Ws (forGo gd g b (items.drop i) δ h) S := by
    intro n
    induction n with
    | zero =>
      intro i δ h hn hi hI
      have : i = items.length := by omega
      subst this
      rw [List.drop_length, ws_forGo_nil (fin _ _ hI).1]
      exact (fin _ _ hI).2
    | succ n ih =>
      intro i δ h hn hi hI
      have hl : i < items.length := by omega
      rw [List.drop_eq_getElem_cons hl]
      obtain ⟨s1, s2⟩ := step i _ δ h (List.getElem?_eq_getElem hl) hI
      rw [ws_forGo_cons s1]
      refine s2.imp fun δ h w => w.imp fun f δ h q => ?_
      cases f with
      | nx => exact ih (i + 1) δ h (by omega) hl q
      | ct => exact ih (i + 1) δ h (by omega) hl q
      | brk => exact q
      | rt d => exact q
      | ex c fs => exact q
  have := key items.length 0 δ h (by omega) (Nat.zero_le _) h0
  simpa using this
open Classical in
theorem compGo_inv (ix : Nat) (δw : Lo) (I : Nat → List D → Hm → Prop) (items : List D) (step : ∀ (i : Nat) (d : D) (acc : List D) (h : Hm), items[i]? = some d → h[ix]? = some (.lst acc) → I i acc h →
      gd h ∧ Wp (g d δw h) fun δ h => Wp (t δ h) fun c h => if c = true then Wp (e δ h) fun y h => h[ix]? = some (.lst acc) ∧ acc.length < sizeLine ∧ I (i + 1) (acc ++ [y]) (h.set ix (.lst (acc ++ [y]))) else h[ix]? = some (.lst acc) ∧ I (i + 1) acc h)
    (fin : ∀ acc h, h[ix]? = some (.lst acc) → I items.length acc h → gd h) {acc : List D} (hx : h[ix]? = some (.lst acc)) (h0 : I 0 acc h) : ∃ acc' h', compGo gd g t e ix δw items h = some h' ∧ h'[ix]? = some (.lst acc') ∧ I items.length acc' h' := by
  have key : ∀ (n i : Nat) (acc : List D) (h : Hm), items.length - i = n → i ≤ items.length → h[ix]? = some (.lst acc) → I i acc h → ∃ acc' h', compGo gd g t e ix δw (items.drop i) h = some h' ∧ h'[ix]? = some (.lst acc') ∧ I items.length acc' h' := by
    intro n
    induction n with
    | zero =>
      intro i acc h hn hi hx hI
      have : i = items.length := by omega
      subst this
      exact ⟨acc, h, by rw [List.drop_length, compGo, if_pos (fin _ _ hx hI)], hx, hI⟩
    | succ n ih =>
      intro i acc h hn hi hx hI
      have hl : i < items.length := by omega
      rw [List.drop_eq_getElem_cons hl]
      obtain ⟨s1, δ1, h1, e1, c, h2, e2, s2⟩ := step i _ acc h (List.getElem?_eq_getElem hl) hx hI
      rw [compGo, if_pos s1, e1]
      simp only [Option.bind_some, e2]
      cases c with
      | true =>
        simp only [if_true] at s2 ⊢
        obtain ⟨y, h3, e3, hx3, hz, I3⟩ := s2
        simp only [e3, Option.bind_some]
        have g3 : getL h3 ix = some acc := by unfold getL; rw [hx3]
        simp only [g3, if_pos hz]
        exact ih (i + 1) _ _ (by omega) hl (by rw [List.getElem?_set_self (List.getElem?_eq_some_iff.mp hx3).1]) I3
      | false =>
        simp only [Bool.false_eq_true, if_false] at s2 ⊢
        exact ih (i + 1) _ _ (by omega) hl s2.1 s2.2
  have := key items.length 0 acc h (by omega) (Nat.zero_le _) hx h0
  simpa using this
/-- a comprehension by what holds ahead of each item: I (how many items are done) (what is told so far) (the heap) -/
theorem comp_inv {vs : List Nat} (I : Nat → List D → Hm → Prop) (items : List D) (gdd : Hm → Prop) {hb : Hm}
    (h0 : I 0 [] (hb ++ [.lst []])) (step : ∀ (i : Nat) (d : D) (acc : List D) (h : Hm), items[i]? = some d → h[hb.length]? = some (.lst acc) → I i acc h →
      gdd h ∧ Wp (g d (wipeL δ vs) h) fun δ h => Wp (t δ h) fun c h => if c = true then Wp (e δ h) fun y h => h[hb.length]? = some (.lst acc) ∧ acc.length < sizeLine ∧ I (i + 1) (acc ++ [y]) (h.set hb.length (.lst (acc ++ [y]))) else h[hb.length]? = some (.lst acc) ∧ I (i + 1) acc h)
    (fin : ∀ acc h, h[hb.length]? = some (.lst acc) → I items.length acc h → gdd h ∧ Q (.ref hb.length) h) (hm : mi δ h = some (⟨items, gdd⟩, hb)) : Wp (mComp mi g t e vs δ h) Q := by
  obtain ⟨acc', h', e1, e2, e3⟩ := compGo_inv (gd := gdd) (g := g) (t := t) (e := e) hb.length (wipeL δ vs) I items step (fun acc h hx i => (fin acc h hx i).1) (h := hb ++ [.lst []]) (acc := []) (by simp) h0
  refine ⟨.ref hb.length, h', ?_, (fin _ _ e2 e3).2⟩
  unfold mComp
  rw [hm]
  simp only [Option.bind_some, e1, Option.map_some]
end
end DL
set_option Elab.async false
set_option linter.all false
set_option maxRecDepth 100000
/-! DL.Wpo: the rules of Wp for operations, built-ins, methods. -/
namespace DL
open PySem PySem.Spec PyProof.Rows L2
/-- what stands at an index of the heap, if it is a list (a dict) -/
def lsK (k : List D → Prop) : Option MO → Prop
  | some (.lst xs) => k xs
  | _ => False
def dcK (k : List (D × D) → Prop) : Option MO → Prop
  | some (.dct kvs) => k kvs
  | _ => False
def moK (k : List D → Prop) (j : List (D × D) → Prop) : Option MO → Prop
  | some (.lst xs) => k xs
  | some (.dct kvs) => j kvs
  | none => False
@[simp] theorem lsK_lst {k : List D → Prop} {xs : List D} : lsK k (some (.lst xs)) = k xs := rfl
@[simp] theorem dcK_dct {k : List (D × D) → Prop} {xs : List (D × D)} : dcK k (some (.dct xs)) = k xs := rfl
@[simp] theorem moK_lst {k : List D → Prop} {j : List (D × D) → Prop} {xs : List D} : moK k j (some (.lst xs)) = k xs := rfl
@[simp] theorem moK_dct {k : List D → Prop} {j : List (D × D) → Prop} {xs : List (D × D)} : moK k j (some (.dct xs)) = j xs := rfl
theorem getL_lst {h : Hm} {r : Nat} {xs : List D} (e : h[r]? = some (.lst xs)) : getL h r = some xs := by unfold getL; rw [e]
theorem getL_dct {h : Hm} {r : Nat} {xs : List (D × D)} (e : h[r]? = some (.dct xs)) : getL h r = none := by unfold getL; rw [e]
theorem getL_no {h : Hm} {r : Nat} (e : h[r]? = none) : getL h r = none := by unfold getL; rw [e]
theorem getK_dct {h : Hm} {r : Nat} {xs : List (D × D)} (e : h[r]? = some (.dct xs)) : getK h r = some xs := by unfold getK; rw [e]
theorem getK_lst {h : Hm} {r : Nat} {xs : List D} (e : h[r]? = some (.lst xs)) : getK h r = none := by unfold getK; rw [e]
theorem getK_no {h : Hm} {r : Nat} (e : h[r]? = none) : getK h r = none := by unfold getK; rw [e]
theorem mo_cases (o : Option MO) : o = none ∨ (∃ xs, o = some (.lst xs)) ∨ ∃ kvs, o = some (.dct kvs) := by
  match o with
  | none => exact .inl rfl
  | some (.lst xs) => exact .inr (.inl ⟨xs, rfl⟩)
  | some (.dct xs) => exact .inr (.inr ⟨xs, rfl⟩)
section
variable {δ : Lo} {h : Hm} {a b m mo mi mv : ME} {r : MA} {Q : D → Hm → Prop} {S : Fl → Lo → Hm → Prop} {G : Lo → Hm → Prop} {i j : Int} {xs ys : List D} {x y d e : D}
/-! ints -/
@[simp] theorem w_dSub : Wp (dSub (.int i) (.int j) h) Q ↔ Q (.int (i - j)) h := by simp [dSub, fI]
@[simp] theorem w_dFdiv : Wp (dFdiv (.int i) (.int j) h) Q ↔ CDiv i j ∧ Q (.int (i / j)) h := by
  simp only [dFdiv, fI]; split <;> simp_all
@[simp] theorem w_dMod : Wp (dMod (.int i) (.int j) h) Q ↔ 0 < j ∧ Q (.int (i % j)) h := by
  simp only [dMod, fI]; by_cases z : 0 < j <;> simp [z]
@[simp] theorem w_dPow : Wp (dPow (.int i) (.int j) h) Q ↔ CPow i j ∧ Q (.int (i ^ j.toNat)) h := by
  simp only [dPow, fI]; split <;> simp_all
@[simp] theorem w_dLt : Wp (dLt (.int i) (.int j) h) Q ↔ Q (.bl (decide (i < j))) h := by simp [dLt, fI]
@[simp] theorem w_dLe : Wp (dLe (.int i) (.int j) h) Q ↔ Q (.bl (decide (i ≤ j))) h := by simp [dLe, fI]
@[simp] theorem w_dGt : Wp (dGt (.int i) (.int j) h) Q ↔ Q (.bl (decide (j < i))) h := by simp [dGt, fI]
@[simp] theorem w_dGe : Wp (dGe (.int i) (.int j) h) Q ↔ Q (.bl (decide (j ≤ i))) h := by simp [dGe, fI]
@[simp] theorem w_dNeg : Wp (dNeg (.int i) h) Q ↔ Q (.int (-i)) h := by simp [dNeg]
@[simp] theorem w_dMulA_int : Wp (dMulA (.int i) (.int j) h) Q ↔ CMul i j ∧ Q (.int (i * j)) h := by
  simp only [dMulA, dMul, fI]; split <;> simp_all
@[simp] theorem w_dMulA_tup : Wp (dMulA (.tup xs) (.int j) h) Q ↔ (j ≤ 1000 ∧ -1000 ≤ j ∧ xs.length ≤ 1000) ∧ Q (.tup (List.replicate j.toNat xs).flatten) h := by
  simp only [dMulA, dTMul]; by_cases z : j ≤ 1000 ∧ -1000 ≤ j ∧ xs.length ≤ 1000
  · rw [if_pos z]; simp only [wp_some]; exact ⟨fun q => ⟨z, q⟩, fun q => q.2⟩
  · rw [if_neg z]; simp only [wp_none, false_iff]; exact fun q => z q.1
@[simp] theorem w_dAdd_int : Wp (dAdd (.int i) (.int j) h) Q ↔ Q (.int (i + j)) h := by simp [dAdd]
@[simp] theorem w_dAdd_tup : Wp (dAdd (.tup xs) (.tup ys) h) Q ↔ xs.length + ys.length ≤ sizeLine ∧ Q (.tup (xs ++ ys)) h := by
  simp only [dAdd]; by_cases z : xs.length + ys.length ≤ sizeLine <;> simp only [z, if_true, if_false, wp_some, wp_none, true_and, false_and]
@[simp] theorem w_dAdd_str {s t : Str} : Wp (dAdd (.str s) (.str t) h) Q ↔ s.length + t.length ≤ sizeLine ∧ Q (.str (s ++ t)) h := by
  simp only [dAdd]; by_cases z : s.length + t.length ≤ sizeLine <;> simp only [z, if_true, if_false, wp_some, wp_none, true_and, false_and]
@[simp] theorem w_dAdd_ref {k l : Nat} : Wp (dAdd (.ref k) (.ref l) h) Q ↔ lsK (fun xs => lsK (fun ys => xs.length + ys.length ≤ sizeLine ∧ Q (.ref h.length) (h ++ [.lst (xs ++ ys)])) h[l]?) h[k]? := by
  simp only [dAdd]
  rcases mo_cases h[k]? with e | ⟨xs, e⟩ | ⟨xs, e⟩
  · simp [getL_no e, e, lsK]
  · rcases mo_cases h[l]? with e' | ⟨ys, e'⟩ | ⟨ys, e'⟩
    · simp [getL_lst e, e, getL_no e', e', lsK]
    · simp only [getL_lst e, e, getL_lst e', e', lsK, newL]; by_cases z : xs.length + ys.length ≤ sizeLine <;> simp only [z, if_true, if_false, wp_some, wp_none, true_and, false_and]
    · simp [getL_lst e, e, getL_dct e', e', lsK]
  · simp [getL_dct e, e, lsK]
/-! ==, is -/
@[simp] theorem w_dEq_int : Wp (dEq (.int i) (.int j) h) Q ↔ Q (.bl (decide (i = j))) h := by simp [dEq]
@[simp] theorem w_dEq_str {s t : Str} : Wp (dEq (.str s) (.str t) h) Q ↔ Q (.bl (decide (s = t))) h := by simp [dEq]
@[simp] theorem w_dEq_bl {s t : Bool} : Wp (dEq (.bl s) (.bl t) h) Q ↔ Q (.bl (decide (s = t))) h := by simp [dEq]
@[simp] theorem w_dEq_non : Wp (dEq .non .non h) Q ↔ Q (.bl true) h := by simp [dEq]
@[simp] theorem w_dNe_int : Wp (dNe (.int i) (.int j) h) Q ↔ Q (.bl (!decide (i = j))) h := by simp [dNe]
@[simp] theorem w_dNe_str {s t : Str} : Wp (dNe (.str s) (.str t) h) Q ↔ Q (.bl (!decide (s = t))) h := by simp [dNe]
/-- data that is told apart by its reading -/
def cmpd : D → Bool
  | .tup _ | .rol _ | .ref _ => true
  | _ => false
theorem w_dEq_g {p q : PyData} (hx : cmpd x = true) (e1 : py h deepest x = some p) (e2 : py h deepest y = some q) (s1 : SeqAt.shaped p = true) (s2 : SeqAt.shaped q = true) : Wp (dEq x y h) Q ↔ Q (.bl (PyData.eqv p q)) h := by
  have : dEq x y h = eqG false x y h := by cases x <;> simp [cmpd] at hx <;> (cases y <;> rfl)
  rw [this]
  simp only [eqG, e1, e2, Option.bind_some, s1, s2, and_self, if_true, wp_some, Bool.false_bne]
theorem w_dNe_g {p q : PyData} (hx : cmpd x = true) (e1 : py h deepest x = some p) (e2 : py h deepest y = some q) (s1 : SeqAt.shaped p = true) (s2 : SeqAt.shaped q = true) : Wp (dNe x y h) Q ↔ Q (.bl (!PyData.eqv p q)) h := by
  have : dNe x y h = eqG true x y h := by cases x <;> simp [cmpd] at hx <;> (cases y <;> rfl)
  rw [this]
  simp only [eqG, e1, e2, Option.bind_some, s1, s2, and_self, if_true, wp_some, Bool.true_bne]
@[simp] theorem w_dIsN_non : Wp (dIsN .non .non h) Q ↔ Q (.bl true) h := by simp [dIsN]
@[simp] theorem w_dIsN_tup : Wp (dIsN (.tup xs) .non h) Q ↔ Q (.bl false) h := by simp [dIsN]
@[simp] theorem w_dIsN_int : Wp (dIsN (.int i) .non h) Q ↔ Q (.bl false) h := by simp [dIsN]
@[simp] theorem w_dIsN_ref {k : Nat} : Wp (dIsN (.ref k) .non h) Q ↔ Q (.bl false) h := by simp [dIsN]
@[simp] theorem w_dNotN_non : Wp (dNotN .non .non h) Q ↔ Q (.bl false) h := by simp [dNotN]
@[simp] theorem w_dNotN_tup : Wp (dNotN (.tup xs) .non h) Q ↔ Q (.bl true) h := by simp [dNotN]
@[simp] theorem w_dNotN_int : Wp (dNotN (.int i) .non h) Q ↔ Q (.bl true) h := by simp [dNotN]
@[simp] theorem w_dNotN_ref {k : Nat} : Wp (dNotN (.ref k) .non h) Q ↔ Q (.bl true) h := by simp [dNotN]
/-! o[i] -/
theorem atI_nat {α : Type} {xs : List α} (n : Nat) : atI xs (n : Int) = xs[n]? := by
  unfold atI ixN
  rw [if_pos (Int.natCast_nonneg n)]
  by_cases z : (n : Int) < xs.length
  · rw [if_pos z]; simp
  · rw [if_neg z, List.getElem?_eq_none (by omega)]; rfl
@[simp] theorem atI_0 {α : Type} {xs : List α} : atI xs 0 = xs[0]? := atI_nat 0
@[simp] theorem atI_1 {α : Type} {xs : List α} : atI xs 1 = xs[1]? := atI_nat 1
@[simp] theorem atI_2 {α : Type} {xs : List α} : atI xs 2 = xs[2]? := atI_nat 2
@[simp] theorem atI_3 {α : Type} {xs : List α} : atI xs 3 = xs[3]? := atI_nat 3
@[simp] theorem atI_4 {α : Type} {xs : List α} : atI xs 4 = xs[4]? := atI_nat 4
@[simp] theorem atI_5 {α : Type} {xs : List α} : atI xs 5 = xs[5]? := atI_nat 5
@[simp] theorem atI_6 {α : Type} {xs : List α} : atI xs 6 = xs[6]? := atI_nat 6
@[simp] theorem atI_7 {α : Type} {xs : List α} : atI xs 7 = xs[7]? := atI_nat 7
@[simp] theorem atI_cast {α : Type} {xs : List α} {n : Nat} : atI xs (n : Int) = xs[n]? := atI_nat n
theorem ixN_nat (l n : Nat) : ixN l (n : Int) = if n < l then some n else none := by
  unfold ixN
  rw [if_pos (Int.natCast_nonneg n)]
  by_cases z : n < l
  · rw [if_pos z, if_pos (by omega)]; simp
  · rw [if_neg z, if_neg (by omega)]
@[simp] theorem ixN_0 {l : Nat} : ixN l 0 = if 0 < l then some 0 else none := ixN_nat l 0
@[simp] theorem ixN_1 {l : Nat} : ixN l 1 = if 1 < l then some 1 else none := ixN_nat l 1
@[simp] theorem ixN_2 {l : Nat} : ixN l 2 = if 2 < l then some 2 else none := ixN_nat l 2
@[simp] theorem ixN_3 {l : Nat} : ixN l 3 = if 3 < l then some 3 else none := ixN_nat l 3
@[simp] theorem ixN_4 {l : Nat} : ixN l 4 = if 4 < l then some 4 else none := ixN_nat l 4
@[simp] theorem ixN_5 {l : Nat} : ixN l 5 = if 5 < l then some 5 else none := ixN_nat l 5
@[simp] theorem ixN_6 {l : Nat} : ixN l 6 = if 6 < l then some 6 else none := ixN_nat l 6
@[simp] theorem ixN_7 {l : Nat} : ixN l 7 = if 7 < l then some 7 else none := ixN_nat l 7
@[simp] theorem ixN_cast {l n : Nat} : ixN l (n : Int) = if n < l then some n else none := ixN_nat l n
@[simp] theorem w_ixA_tup : Wp (dIxA (.tup xs) (.int i) h) Q ↔ oK (atI xs i) Q h := by
  simp only [dIxA, dIx, wp_map]
@[simp] theorem w_ixA_rol : Wp (dIxA (.rol xs) (.int i) h) Q ↔ oK (atI xs i) Q h := by
  simp only [dIxA, dIx, wp_map]
/-- the index of a list, the key of a dict -/
def ixL (Q : D → Hm → Prop) (h : Hm) (xs : List D) : D → Prop
  | .int i => oK (atI xs i) Q h
  | _ => False
@[simp] theorem ixL_int : ixL Q h xs (.int i) = oK (atI xs i) Q h := rfl
@[simp] theorem w_ixA_ref {k : Nat} : Wp (dIxA (.ref k) y h) Q ↔ moK (fun xs => ixL Q h xs y) (fun kvs => oK (tkey y) (fun key _ => oK (dLook kvs key) Q h) h) h[k]? := by
  rcases mo_cases h[k]? with e | ⟨xs, e⟩ | ⟨xs, e⟩
  · simp only [dIxA, getK_no e, e, moK, iff_false]
    rintro ⟨_, _, z, _⟩
    cases y <;> simp [dIx, getL_no e] at z
  · simp only [dIxA, getK_lst e, e, moK, ixL]
    cases y <;> simp [dIx, getL_lst e, wp_map]
  · simp only [dIxA, getK_dct e, e, moK, dIxD, Option.bind_some, wp_oK, wp_map]
    cases tkey y with
    | none => simp
    | some key => simp [wp_map]
/-! in -/
@[simp] theorem w_in_dct {neg : Bool} {k : Nat} {kvs : List (D × D)} (e : h[k]? = some (.dct kvs)) : Wp (dInG neg x (.ref k) h) Q ↔ oK (tkey x) (fun key h => Q (.bl (neg != (dLook kvs key).isSome)) h) h := by
  simp only [dInG, e, dInD, getK_dct e, Option.bind_some]
  cases tkey x <;> simp
theorem w_in_lst {neg : Bool} {k : Nat} {p : PyData} {ps : List PyData} {xs : List D} (e : h[k]? = some (.lst xs)) (e1 : py h deepest x = some p) (e2 : py h deepest (.ref k) = some (.list ps)) (s1 : SeqAt.shaped p = true) (s2 : SeqAt.shaped (.list ps) = true) :
    Wp (dInG neg x (.ref k) h) Q ↔ Q (.bl (neg != ps.any fun z => PyData.eqv z p)) h := by
  simp only [dInG, e, e1, e2, Option.bind_some, s1, s2, and_self, if_true, wp_some]
/-! o[i] = v, o[i] += v, del -/
def ixS (k : Hm → Prop) (h : Hm) (r : Nat) (xs : List D) (v : D) : D → Prop
  | .int i => oK (ixN xs.length i) (fun j _ => k (h.set r (.lst (xs.set j v)))) h
  | _ => False
@[simp] theorem ixS_int {k : Hm → Prop} {r : Nat} {v : D} : ixS k h r xs v (.int i) = oK (ixN xs.length i) (fun j _ => k (h.set r (.lst (xs.set j v)))) h := rfl
def setK (h : Hm) (o i v : D) (k : Hm → Prop) : Prop := ∃ h', setAny h o i v = some h' ∧ k h'
def intK (P : Int → Hm → Prop) : D → Hm → Prop
  | .int i, h => P i h
  | _, _ => False
@[simp] theorem intK_int {P : Int → Hm → Prop} : intK P (.int i) h = P i h := rfl
def optI (k : Int → Prop) : Option D → Prop
  | some (.int n) => k n
  | _ => False
@[simp] theorem optI_int {k : Int → Prop} {n : Int} : optI k (some (.int n)) = k n := rfl
def refK (k : Nat → Prop) : D → Prop
  | .ref r => k r
  | _ => False
@[simp] theorem refK_ref {k : Nat → Prop} {n : Nat} : refK k (.ref n) = k n := rfl
@[simp] theorem w_augAdd : Ws (sAugAdd mo mi mv δ h) S ↔ Wp (mo δ h) fun o h => Wp (mi δ h) fun y h => refK (fun r => intK (fun i h => (0 ≤ i ∧ i < 2 ^ 63) ∧ lsK (fun xs => optI (fun n => Wp (mv δ h) (intK fun m h => setK h (.ref r) (.int i) (.int (n + m)) fun h => S .nx δ h)) xs[i.toNat]?) h[r]?) y h) o := by
  simp only [sAugAdd, ws_bind]
  refine iff_of_eq (congrArg _ (funext fun o => funext fun h => congrArg _ (funext fun i => funext fun h => propext ?_)))
  cases o <;> simp [refK]
  rename_i r
  cases i <;> simp [intK]
  rename_i i
  by_cases z : 0 ≤ i ∧ i < 9223372036854775808
  · rw [if_pos z]
    simp only [z, and_self, true_and]
    rcases mo_cases h[r]? with e | ⟨xs, e⟩ | ⟨xs, e⟩
    · simp [getL_no e, e, lsK]
    · simp only [getL_lst e, e, lsK, Option.bind_some]
      cases hx : xs[i.toNat]? with
      | none => simp [optI]
      | some w =>
        cases w <;> simp [optI]
        simp only [ws_bind]
        refine iff_of_eq (congrArg _ (funext fun o => funext fun h => propext ?_))
        cases o <;> simp [intK]
        rename_i n m
        unfold setK
        cases hs : setAny h (.ref r) (.int i) (.int (n + m)) <;> simp
    · simp [getL_dct e, e, lsK]
  · rw [if_neg z]
    simp only [ws_none, false_iff]
    exact fun q => z q.1
@[simp] theorem setK_ref {r : Nat} {v : D} {k : Hm → Prop} : setK h (.ref r) y v k ↔ moK (fun xs => ixS k h r xs v y) (fun kvs => oK (tkey y) (fun key _ => kvs.length < sizeLine ∧ k (h.set r (.dct (dPut kvs y key v)))) h) h[r]? := by
  unfold setK setAny
  rcases mo_cases h[r]? with e | ⟨xs, e⟩ | ⟨xs, e⟩
  · simp [e, moK]
  · simp only [e, moK, ixS]
    cases y <;> simp
    rename_i i
    cases ixN xs.length i <;> simp
  · simp only [e, moK]
    cases tkey y with
    | none => simp
    | some key =>
      by_cases z : xs.length < sizeLine <;> simp [z]
@[simp] theorem w_gSubA {v : D} : Wp (gSubA mo mi v δ h) G ↔ Wp (mo δ h) fun o h => Wp (mi δ h) fun i h => setK h o i v fun h => G δ h := by
  simp only [gSubA, wp_bind]
  refine iff_of_eq (congrArg _ (funext fun o => funext fun h => congrArg _ (funext fun i => funext fun h => propext ?_)))
  unfold setK
  cases setAny h o i v <;> simp
@[simp] theorem w_delD : Ws (sDelD mo mi δ h) S ↔ Wp (mo δ h) fun o h => Wp (mi δ h) fun i h => ∃ r, o = .ref r ∧ dcK (fun kvs => oK (tkey i) (fun key _ => (dLook kvs key).isSome = true ∧ S .nx δ (h.set r (.dct (dDrop kvs key)))) h) h[r]? := by
  simp only [sDelD, ws_bind]
  refine iff_of_eq (congrArg _ (funext fun o => funext fun h => congrArg _ (funext fun i => funext fun h => propext ?_)))
  cases o <;> simp
  rename_i r
  rcases mo_cases h[r]? with e | ⟨xs, e⟩ | ⟨xs, e⟩
  · simp [getK_no e, e, dcK]
  · simp [getK_lst e, e, dcK]
  · simp only [getK_dct e, e, dcK, Option.bind_some]
    cases tkey i with
    | none => simp
    | some key => simp only [Option.bind_some, oK_some]; split <;> simp_all
/-! slices -/
def oI (o : Option Int) (k : Option Int → Prop) : Prop := k o
@[simp] theorem w_oNone {P : Option Int → Hm → Prop} : Wp (oNone δ h) P ↔ P none h := by simp [oNone]
@[simp] theorem w_oSome {P : Option Int → Hm → Prop} : Wp (oSome m δ h) P ↔ Wp (m δ h) (intK fun i h => P (some i) h) := by
  simp only [oSome, wp_bind]
  refine iff_of_eq (congrArg _ (funext fun d => funext fun h => propext ?_))
  cases d <;> simp [intK]
@[simp] theorem w_mSl {lo hi : MO1} : Wp (mSl m lo hi δ h) Q ↔ Wp (m δ h) fun d h => Wp (lo δ h) fun l h => Wp (hi δ h) fun u h => Wp (dSl d l u h) Q := by simp only [mSl, wp_bind]
@[simp] theorem w_dSl_tup {lo hi : Option Int} : Wp (dSl (.tup xs) lo hi h) Q ↔ Q (.tup (cutD xs lo hi)) h := by simp [dSl]
@[simp] theorem w_dSl_rol {lo hi : Option Int} : Wp (dSl (.rol xs) lo hi h) Q ↔ Q (.ref h.length) (h ++ [.lst (cutD xs lo hi)]) := by simp [dSl, newL]
@[simp] theorem w_dSl_ref {k : Nat} {lo hi : Option Int} : Wp (dSl (.ref k) lo hi h) Q ↔ lsK (fun xs => Q (.ref h.length) (h ++ [.lst (cutD xs lo hi)])) h[k]? := by
  rcases mo_cases h[k]? with e | ⟨xs, e⟩ | ⟨xs, e⟩
  · simp [dSl, getL_no e, e, lsK]
  · simp [dSl, getL_lst e, e, lsK, newL]
  · simp [dSl, getL_dct e, e, lsK]
/-! built-ins -/
@[simp] theorem w_len_ref {k : Nat} : Wp (fLen [.ref k] h) Q ↔ lsK (fun xs => Q (.int xs.length) h) h[k]? := by
  rcases mo_cases h[k]? with e | ⟨xs, e⟩ | ⟨xs, e⟩
  · simp [fLen, getL_no e, e, lsK]
  · simp [fLen, getL_lst e, e, lsK]
  · simp [fLen, getL_dct e, e, lsK]
@[simp] theorem w_len_tup : Wp (fLen [.tup xs] h) Q ↔ Q (.int xs.length) h := by simp [fLen]
@[simp] theorem w_len_rol : Wp (fLen [.rol xs] h) Q ↔ Q (.int xs.length) h := by simp [fLen]
@[simp] theorem w_abs : Wp (fAbs [.int i] h) Q ↔ Q (.int (if i < 0 then -i else i)) h := by simp [fAbs]
@[simp] theorem w_int : Wp (fInt [.int i] h) Q ↔ Q (.int i) h := by simp [fInt]
@[simp] theorem w_min : Wp (fMin [.int i, .int j] h) Q ↔ Q (.int (if j < i then j else i)) h := by simp [fMin]
@[simp] theorem w_max : Wp (fMax [.int i, .int j] h) Q ↔ Q (.int (if j > i then j else i)) h := by simp [fMax]
@[simp] theorem w_tuple_ref {k : Nat} : Wp (fTuple [.ref k] h) Q ↔ lsK (fun xs => Q (.tup xs) h) h[k]? := by
  rcases mo_cases h[k]? with e | ⟨xs, e⟩ | ⟨xs, e⟩
  · simp [fTuple, getL_no e, e, lsK]
  · simp [fTuple, getL_lst e, e, lsK]
  · simp [fTuple, getL_dct e, e, lsK]
@[simp] theorem w_tuple_tup : Wp (fTuple [.tup xs] h) Q ↔ Q (.tup xs) h := by simp [fTuple]
@[simp] theorem w_listA_ref {k : Nat} : Wp (fListA [.ref k] h) Q ↔ moK (fun xs => Q (.ref h.length) (h ++ [.lst xs])) (fun kvs => Q (.ref h.length) (h ++ [.lst (kvs.map (·.1))])) h[k]? := by
  rcases mo_cases h[k]? with e | ⟨xs, e⟩ | ⟨xs, e⟩
  · simp [fListA, getL_no e, getKeys, getK_no e, e, moK]
  · simp [fListA, getL_lst e, e, moK, newL]
  · simp [fListA, getL_dct e, getKeys, getK_dct e, e, moK, newL]
@[simp] theorem w_listA_tup : Wp (fListA [.tup xs] h) Q ↔ Q (.ref h.length) (h ++ [.lst xs]) := by simp [fListA, fList, newL]
theorem w_repr {p : PyData} (e : py h deepest d = some p) (h1 : p.showable = true) (h2 : p.shown.length ≤ sizeLine) (h3 : SeqAt.shaped p = true) : Wp (fRepr [d] h) Q ↔ Q (.str p.shown) h := by
  simp only [fRepr, e, Option.bind_some, h1, h2, h3, and_self, if_true, wp_some]
theorem w_sorted {k : Nat} {xs : List D} (e : h[k]? = some (.lst xs)) (ok : SortOk h xs) : Wp (fSorted [.ref k] h) Q ↔ Q (.ref h.length) (h ++ [.lst (sortD h xs)]) := by
  simp only [fSorted, getL_lst e, if_pos ok, newL, wp_some]
theorem w_sortedK {k : Nat} {kvs : List (D × D)} (e : h[k]? = some (.dct kvs)) (ok : SortOk h (kvs.map (·.1))) : Wp (fSorted [.ref k] h) Q ↔ Q (.ref h.length) (h ++ [.lst (sortD h (kvs.map (·.1)))]) := by
  simp only [fSorted, getL_dct e, getKeys, getK_dct e, Option.map_some, Option.bind_some, if_pos ok, newL, wp_some]
@[simp] theorem w_dict_ref {k : Nat} : Wp (fDict [.ref k] h) Q ↔ lsK (fun xs => oK (dFrom xs []) (fun kvs _ => Q (.ref h.length) (h ++ [.dct kvs])) h) h[k]? := by
  rcases mo_cases h[k]? with e | ⟨xs, e⟩ | ⟨xs, e⟩
  · simp [fDict, getL_no e, e, lsK]
  · simp only [fDict, getL_lst e, e, lsK, Option.bind_some]
    cases dFrom xs [] <;> simp [newK]
  · simp [fDict, getL_dct e, e, lsK]
@[simp] theorem w_all_ref {k : Nat} : Wp (fAll [.ref k] h) Q ↔ lsK (fun xs => oK (bls xs) (fun bs _ => Q (.bl (bs.all id)) h) h) h[k]? := by
  rcases mo_cases h[k]? with e | ⟨xs, e⟩ | ⟨xs, e⟩
  · simp [fAll, getL_no e, e, lsK]
  · simp only [fAll, getL_lst e, e, lsK, Option.bind_some]
    cases bls xs <;> simp
  · simp [fAll, getL_dct e, e, lsK]
@[simp] theorem w_any_ref {k : Nat} : Wp (fAny [.ref k] h) Q ↔ lsK (fun xs => oK (bls xs) (fun bs _ => Q (.bl (bs.any id)) h) h) h[k]? := by
  rcases mo_cases h[k]? with e | ⟨xs, e⟩ | ⟨xs, e⟩
  · simp [fAny, getL_no e, e, lsK]
  · simp only [fAny, getL_lst e, e, lsK, Option.bind_some]
    cases bls xs <;> simp
  · simp [fAny, getL_dct e, e, lsK]
/-! methods -/
@[simp] theorem w_append : Wp (mMeth fAppend mo (aCons m aNil) δ h) Q ↔ Wp (mo δ h) fun o h => ∃ k, o = .ref k ∧ lsK (fun _ => Wp (m δ h) fun y h => lsK (fun xs => xs.length < sizeLine ∧ Q .non (h.set k (.lst (xs ++ [y])))) h[k]?) h[k]? := by
  simp only [mMeth, wp_bind]
  refine iff_of_eq (congrArg _ (funext fun o => funext fun h => propext ?_))
  cases o <;> simp
  rename_i k
  rcases mo_cases h[k]? with e | ⟨xs, e⟩ | ⟨xs, e⟩
  · simp [getL_no e, e, lsK]
  · simp only [getL_lst e, e, lsK_lst, Option.isSome_some, if_true, wp_bind, w_aCons, w_aNil]
    refine iff_of_eq (congrArg _ (funext fun y => funext fun h => propext ?_))
    rcases mo_cases h[k]? with e | ⟨xs, e⟩ | ⟨xs, e⟩
    · simp [fAppend, getL_no e, e, lsK]
    · simp only [fAppend, getL_lst e, e, lsK, Option.bind_some]; by_cases z : xs.length < sizeLine <;> simp [z]
    · simp [fAppend, getL_dct e, e, lsK]
  · simp [getL_dct e, e, lsK]
end
end DL
set_option Elab.async false
set_option linter.all false
set_option maxRecDepth 100000
/-! PA.Pre: mirrors of the defs that laws over drawn machines share (made by gen.py). -/
namespace PA
open PySem PySem.Spec PyProof.Rows L2 DL
noncomputable section
def m_l_bag : MS := (sRet (mLst (aCons (mC (.int 0)) (aCons (mC (.int 1234567891)) (aCons (mC (.int 0)) (aCons (mComp (iSeq (mSl (mVar 0) oNone (oSome (mC (.int 63))))) (gN 1) tYesM (mCall fAbs (aCons (mVar 1) aNil)) [1]) aNil))))))
def F_l_bag : FD := runF 2 m_l_bag
def m_l_take : MS := (sSeq (sIf (tOf (m2 dEq (m2 dIxA (mVar 0) (mC (.int 0))) (mC (.int 0)))) (sSeq (sSet 4 (m2 dIxA (m2 dAdd (mSl (m2 dIxA (mVar 0) (mC (.int 3))) (oSome (m2 dIxA (mVar 0) (mC (.int 2)))) oNone) (mLst (aCons (mC (.int 0)) aNil))) (mC (.int 0)))) (sSeq (sAugAdd (mVar 0) (mC (.int 2)) (mC (.int 1))) (sSeq (sIf (tOf (m2 dGe (mVar 4) (m2 dPow (mC (.int 10)) (mC (.int 18))))) (sAsg (mVar 4) (gSubA (mVar 0) (mC (.int 0)))) sNil) (sSeq (sSet 5 (m2 dAdd (m2 dAdd (m2 dMulA (m2 dIxA (mVar 0) (mC (.int 1))) (mC (.int 48271))) (m2 dMod (mCall fInt (aCons (mVar 4) aNil)) (mC (.int 2147483647)))) (m2 dMulA (mC (.int 7919)) (m2 dIxA (mVar 0) (mC (.int 2)))))) (sAsg (m2 dMod (mCall fInt (aCons (mVar 5) aNil)) (mC (.int 2147483647))) (gSubA (mVar 0) (mC (.int 1)))))))) sNil) (sSeq (sIf (tOf (m2 dGt (m2 dIxA (mVar 0) (mC (.int 0))) (mC (.int 0)))) (sSeq (sSet 6 (m2 dMod (mCall fInt (aCons (m2 dIxA (mVar 0) (mC (.int 0))) aNil)) (mVar 1))) (sSeq (sAsg (m2 dFdiv (mCall fInt (aCons (m2 dIxA (mVar 0) (mC (.int 0))) aNil)) (mVar 1)) (gSubA (mVar 0) (mC (.int 0)))) (sRet (mVar 6)))) sNil) (sSeq (sSet 2 (m2 dMod (mCall fInt (aCons (m2 dMulA (m2 dAdd (m2 dIxA (mVar 0) (mC (.int 1))) (mC (.int 1))) (mC (.int 39373))) aNil)) (mC (.int 1000000007)))) (sSeq (sSet 3 (m2 dMod (mCall fInt (aCons (m2 dMulA (m2 dMod (mCall fInt (aCons (m2 dMulA (mVar 2) (mVar 2)) aNil)) (mC (.int 998244353))) (mC (.int 30011))) aNil)) (mC (.int 998244353)))) (sRet (m2 dMod (mCall fInt (aCons (m2 dFdiv (mVar 3) (mC (.int 7))) aNil)) (mVar 1)))))))
def F_l_take : FD := runF 7 m_l_take
def m_l_some : MS := (sRet (m2 dIxA (mVar 1) (mCall F_l_take (aCons (mVar 0) (aCons (mCall fLen (aCons (mVar 1) aNil)) aNil)))))
def F_l_some : FD := runF 2 m_l_some
def m_l_alike : MS := (sRet (mAndV (m2 dEq (mVar 0) (mVar 1)) (m2 dEq (mCall fRepr (aCons (mVar 0) aNil)) (mCall fRepr (aCons (mVar 1) aNil)))))
def F_l_alike : FD := runF 2 m_l_alike
def m_l_entry : MS := (sRet (m2 dIxA (m2 dIxA (m2 dIxA (mVar 0) (mC (.int 2))) (mVar 1)) (m2 dSub (mVar 2) (mC (.int 1)))))
def F_l_entry : FD := runF 3 m_l_entry
def m_l_done_by : MS := (sSeq (sSet 4 (mCall F_l_entry (aCons (mVar 0) (aCons (m2 dIxA (mVar 1) (mC (.int 0))) (aCons (mVar 2) aNil))))) (sSeq (sIf (tOf (m2 dIsN (mVar 4) (mC .non))) (sRet (mC .non)) sNil) (sRet (mTup (aCons (m2 dIxA (mVar 4) (mC (.int 0))) (aCons (mCall fTuple (aCons (mComp (iSeq (m2 dIxA (mVar 4) (mC (.int 1)))) (gN 5) tYesM (mIf (tOf (m2 dLt (mVar 5) (mC (.int 0)))) (mVar 3) (m2 dIxA (m2 dIxA (mVar 1) (mC (.int 1))) (mVar 5))) [5]) aNil)) aNil))))))
def F_l_done_by : FD := runF 6 m_l_done_by
def m_l_led : MS := (sSeq (sSet 4 (mCall fDict (aCons (mVar 1) aNil))) (sSeq (sFor (iRng1 (mCall fLen (aCons (mVar 2) aNil))) (gN 5) (sSeq (sAsg (m2 dIxA (mVar 2) (mVar 5)) (gTupM 2 (gConsM (gN 6) (gConsM (gN 7) gNilM)))) (sSeq (sIf (tOf (m2 dEq (m2 dEq (mVar 6) (mC (.int 0))) (m2 (dInG false) (mVar 7) (mVar 4)))) (sRet (mVar 5)) sNil) (sIf (tOf (m2 dEq (mVar 6) (mC (.int 0)))) (sAsg (mTup (aCons (m2 dIxA (m2 dIxA (mVar 0) (mC (.int 0))) (m2 dIxA (mVar 7) (mC (.int 0)))) (aCons (mTup (aCons (m2 dAdd (mVar 3) (mVar 5)) aNil)) aNil))) (gSubA (mVar 4) (mVar 7))) (sIf (tOf (m2 dLt (mVar 6) (mC (.int 0)))) (sDrop (mPopA (mVar 4) (mVar 7))) (sSeq (sSet 8 (mCall F_l_done_by (aCons (mVar 0) (aCons (m2 dIxA (mVar 4) (mVar 7)) (aCons (mVar 6) (aCons (m2 dAdd (mVar 3) (mVar 5)) aNil)))))) (sSeq (sIf (tOf (m2 dIsN (mVar 8) (mC .non))) (sRet (mVar 5)) sNil) (sAsg (mVar 8) (gSubA (mVar 4) (mVar 7)))))))))) (sRet (mComp (iSeq (mCall fSorted (aCons (mCall fListA (aCons (mVar 4) aNil)) aNil))) (gN 7) tYesM (mTup (aCons (mVar 7) (aCons (m2 dIxA (mVar 4) (mVar 7)) aNil))) [7]))))
def F_l_led : FD := runF 9 m_l_led
def m_l_figures : MS := (sRet (mCall F_l_led (aCons (mVar 0) (aCons (mLst aNil) (aCons (mVar 1) (aCons (mC (.int 0)) aNil))))))
def F_l_figures : FD := runF 2 m_l_figures
def m_l_key : MS := (sSeq (sAsg (m2 dIxA (m2 dIxA (m2 dIxA (m2 dIxA (mVar 0) (mC (.int 1))) (m2 dIxA (mVar 2) (mC (.int 0)))) (mC (.int 0))) (mVar 1)) (gTupM 3 (gConsM (gN 3) (gConsM (gN 4) (gConsM (gN 5) gNilM))))) (sRet (mTup (aCons (mVar 3) (aCons (mIf (tOf (m2 dEq (mVar 4) (mC (.str "later")))) (m2 dSub (mC (.int 0)) (m2 dIxA (m2 dIxA (mVar 2) (mC (.int 1))) (mVar 5))) (m2 dIxA (m2 dIxA (mVar 2) (mC (.int 1))) (mVar 5))) aNil)))))
def F_l_key : FD := runF 6 m_l_key
def m_l_row : MS := (sRet (mComp (iSeq (mCall fSorted (aCons (mComp (iSeq (mVar 2)) (gN 4) tYesM (mTup (aCons (mCall F_l_key (aCons (mVar 0) (aCons (mVar 1) (aCons (m2 dIxA (mVar 4) (mC (.int 1))) aNil)))) (aCons (m2 dIxA (mVar 4) (mC (.int 0))) aNil))) [4]) aNil))) (gN 3) tYesM (m2 dIxA (mVar 3) (mC (.int 1))) [3]))
def F_l_row : FD := runF 5 m_l_row
def m_l_move : MS := (sSeq (sIf (tOf (m2 dEq (mCall F_l_take (aCons (mVar 0) (aCons (mC (.int 6)) aNil))) (mC (.int 0)))) (sRet (mC .non)) sNil) (sSeq (sSet 3 (mCall F_l_some (aCons (mVar 0) (aCons (mComp (iRng1 (mCall fLen (aCons (mVar 1) aNil))) (gN 4) (tOf (m2 dLe (m2 dIxA (mVar 1) (mVar 4)) (m2 dAdd (m2 dIxA (mVar 1) (mVar 2)) (mC (.int 1))))) (mVar 4) [4]) aNil)))) (sSeq (sPar 5 6 (aCons (mRg1 (m2 dIxA (mVar 1) (mVar 2)) newL) (aCons (m2 dSub (m2 dIxA (mVar 1) (mVar 3)) (mC (.int 1))) aNil))) (sSeq (sIf (tAndM (tOf (m2 dLe (m2 dIxA (mVar 1) (mVar 3)) (m2 dIxA (mVar 1) (mVar 2)))) (tOf (m2 dEq (mCall F_l_take (aCons (mVar 0) (aCons (mC (.int 4)) aNil))) (mC (.int 0))))) (sSet 6 (m2 dIxA (mVar 1) (mVar 3))) sNil) (sSeq (sFor (iRng1 (m2 dSub (m2 dIxA (mVar 1) (mVar 2)) (mVar 6))) (gN 4) (sDrop (mPopA (mVar 5) (mCall F_l_take (aCons (mVar 0) (aCons (mCall fLen (aCons (mVar 5) aNil)) aNil)))))) (sRet (mTup (aCons (mVar 3) (aCons (m2 dAdd (mCall fTuple (aCons (mVar 5) aNil)) (m2 dMulA (mTup (aCons (m1 dNeg (mC (.int 1))) aNil)) (m2 dSub (m2 dIxA (mVar 1) (mVar 3)) (mVar 6)))) aNil)))))))))
def F_l_move : FD := runF 7 m_l_move
def m_l_stances : MS := (sSeq (sSet 3 (mComp (iSeq (mVar 1)) (gN 7) tYesM (mLst aNil) [7])) (sSeq (sFor (iRng1 (mVar 2)) (gN 4) (sSeq (sSet 5 (mComp (iRng1 (m2 dAdd (mC (.int 1)) (mCall F_l_take (aCons (mVar 0) (aCons (mC (.int 3)) aNil))))) (gN 10) tYesM (mCall F_l_some (aCons (mVar 0) (aCons (mLst (aCons (mC (.str "later")) (aCons (mC (.str "earlier")) aNil))) aNil))) [10])) (sFor (iRng1 (mCall fLen (aCons (mVar 1) aNil))) (gN 6) (sSeq (sSet 8 (mCall F_l_take (aCons (mVar 0) (aCons (mCall fLen (aCons (mVar 5) aNil)) aNil)))) (sSeq (sSet 9 (m2 dIxA (mVar 3) (mVar 6))) (sDrop (mMeth fAppend (mVar 9) (aCons (mTup (aCons (mVar 8) (aCons (m2 dIxA (mVar 5) (mVar 8)) (aCons (mCall F_l_take (aCons (mVar 0) (aCons (m2 dIxA (mVar 1) (mVar 6)) aNil))) aNil)))) aNil)))))))) (sRet (mVar 3))))
def F_l_stances : FD := runF 11 m_l_stances
def m_l_machine : MS := (sSeq (sAsg (mTup (aCons (m2 dAdd (mC (.int 1)) (mCall F_l_take (aCons (mVar 0) (aCons (mVar 2) aNil)))) (aCons (m2 dAdd (mC (.int 1)) (mCall F_l_take (aCons (mVar 0) (aCons (mVar 5) aNil)))) aNil))) (gTupM 2 (gConsM (gN 11) (gConsM (gN 12) gNilM)))) (sSeq (sSet 6 (m2 dAdd (mLst (aCons (mC (.int 1)) aNil)) (mComp (iRng1 (m2 dSub (mVar 11) (mC (.int 1)))) (gN 13) tYesM (m2 dAdd (mC (.int 1)) (mCall F_l_take (aCons (mVar 0) (aCons (mVar 3) aNil)))) [13]))) (sSeq (sSet 7 (m2 dAdd (mTup (aCons (mC (.int 0)) aNil)) (mCall fTuple (aCons (mComp (iRng1 (m2 dSub (mVar 1) (mC (.int 1)))) (gN 13) tYesM (mCall F_l_some (aCons (mVar 0) (aCons (mComp (iRng1 (mVar 11)) (gN 13) (tOf (m2 dEq (m2 dIxA (mVar 6) (mVar 13)) (mC (.int 1)))) (mVar 13) [13]) aNil))) [13]) aNil)))) (sSeq (sSet 8 (mCall F_l_stances (aCons (mVar 0) (aCons (mVar 6) (aCons (mVar 4) aNil))))) (sSeq (sSet 9 (mCall fTuple (aCons (mComp (iRng1 (mVar 11)) (gN 14) tYesM (mTup (aCons (mCall fTuple (aCons (m2 dIxA (mVar 8) (mVar 14)) aNil)) (aCons (m2 dIxA (mVar 6) (mVar 14)) (aCons (mTup aNil) aNil)))) [14]) aNil))) (sSeq (sSet 10 (mCall fTuple (aCons (mComp (iRng1 (mVar 11)) (gN 14) tYesM (mCall fTuple (aCons (mComp (iRng1 (mVar 12)) (gN 13) tYesM (mCall F_l_move (aCons (mVar 0) (aCons (mVar 6) (aCons (mVar 14) aNil)))) [13]) aNil)) [14]) aNil))) (sRet (mTup (aCons (mVar 7) (aCons (mVar 9) (aCons (mVar 10) aNil)))))))))))
def F_l_machine : FD := runF 15 m_l_machine
def m_l_some_things : MS := (sSeq (sSet 3 (mLst aNil)) (sSeq (sFor (iRng1 (mVar 2)) (gN 4) (sSeq (sSet 5 (mTup (aCons (mCall F_l_take (aCons (mVar 0) (aCons (mVar 1) aNil))) (aCons (mCall F_l_some (aCons (mVar 0) (aCons (mLst (aCons (mVar 4) (aCons (m2 dAdd (m2 dMulA (mC (.int 10)) (mVar 4)) (mC (.int 3))) (aCons (m2 dSub (mC (.int 9999)) (mVar 4)) aNil)))) aNil))) aNil)))) (sIf (tOf (m2 (dInG true) (mVar 5) (mVar 3))) (sDrop (mMeth fAppend (mVar 3) (aCons (mVar 5) aNil))) sNil))) (sRet (mCall fSorted (aCons (mVar 3) aNil)))))
def F_l_some_things : FD := runF 6 m_l_some_things
def m_l_run_of : MS := (sSeq (sPar 5 6 (aCons (mLst aNil) (aCons (mLst aNil) aNil))) (sSeq (sFor (iRng1 (mVar 3)) (gN 4) (sSeq (sSet 7 (mCall F_l_some (aCons (mVar 0) (aCons (mVar 2) aNil)))) (sSeq (sSet 8 (mCall fDict (aCons (mVar 5) aNil))) (sSeq (sSet 9 (mLst (aCons (mC (.int 0)) aNil))) (sSeq (sIf (tOf (m2 (dInG false) (mVar 7) (mVar 8))) (sSeq (sSet 11 (m2 dIxA (m2 dIxA (mVar 1) (mC (.int 2))) (m2 dIxA (m2 dIxA (mVar 8) (mVar 7)) (mC (.int 0))))) (sSeq (sSet 9 (mComp (iRng1 (mCall fLen (aCons (mVar 11) aNil))) (gN 12) (tOf (m2 dNotN (m2 dIxA (mVar 11) (mVar 12)) (mC .non))) (m2 dAdd (mVar 12) (mC (.int 1))) [12])) (sIf (tOrM (tOf (m2 dEq (mVar 9) (mLst aNil))) (tOf (m2 dEq (mCall F_l_take (aCons (mVar 0) (aCons (mC (.int 10)) aNil))) (mC (.int 0))))) (sSet 9 (mLst (aCons (m1 dNeg (mC (.int 1))) aNil))) sNil))) sNil) (sSeq (sSet 10 (mTup (aCons (mCall F_l_some (aCons (mVar 0) (aCons (mVar 9) aNil))) (aCons (mVar 7) aNil)))) (sSeq (sSet 5 (mCall F_l_led (aCons (mVar 1) (aCons (mVar 5) (aCons (mLst (aCons (mVar 10) aNil)) (aCons (mVar 4) aNil)))))) (sDrop (mMeth fAppend (mVar 6) (aCons (mVar 10) aNil)))))))))) (sRet (mVar 6))))
def F_l_run_of : FD := runF 13 m_l_run_of
end
end PA
set_option Elab.async false
set_option linter.all false
set_option maxRecDepth 100000
/-! PA.PreM: mirrors of defs of ownmoment/machines.py (made by gen.py). -/
namespace PA
open PySem PySem.Spec PyProof.Rows L2 DL
noncomputable section
def m_can_lead : MS := (sSeq (sIf (tOf (m2 dEq (mVar 2) (mC (.int 0)))) (sRet (m2 (dInG true) (mVar 3) (mVar 1))) sNil) (sSeq (sIf (tOf (m2 (dInG true) (mVar 3) (mVar 1))) (sRet (mC (.bl false))) sNil) (sRet (mOrV (m2 dEq (mVar 2) (m1 dNeg (mC (.int 1)))) (m2 dNotN (m2 dIxA (m2 dIxA (m2 dIxA (mVar 0) (mC (.int 2))) (m2 dIxA (m2 dIxA (mVar 1) (mVar 3)) (mC (.int 0)))) (m2 dSub (mVar 2) (mC (.int 1)))) (mC .non))))))
def F_can_lead : FD := runF 4 m_can_lead
def m_lead : MS := (sIf (tOf (m2 dEq (mVar 2) (mC (.int 0)))) (sAsg (mTup (aCons (m2 dIxA (m2 dIxA (mVar 0) (mC (.int 0))) (m2 dIxA (mVar 3) (mC (.int 0)))) (aCons (mTup (aCons (mVar 4) aNil)) aNil))) (gSubA (mVar 1) (mVar 3))) (sIf (tOf (m2 dEq (mVar 2) (m1 dNeg (mC (.int 1))))) (sDelD (mVar 1) (mVar 3)) (sSeq (sAsg (m2 dIxA (mVar 1) (mVar 3)) (gTupM 2 (gConsM (gN 5) (gConsM (gN 6) gNilM)))) (sSeq (sAsg (m2 dIxA (m2 dIxA (m2 dIxA (mVar 0) (mC (.int 2))) (mVar 5)) (m2 dSub (mVar 2) (mC (.int 1)))) (gTupM 2 (gConsM (gN 7) (gConsM (gN 8) gNilM)))) (sAsg (mTup (aCons (mVar 7) (aCons (mCall fTuple (aCons (mComp (iSeq (mVar 8)) (gN 9) tYesM (mIf (tOf (m2 dEq (mVar 9) (m1 dNeg (mC (.int 1))))) (mVar 4) (m2 dIxA (mVar 6) (mVar 9))) [9]) aNil)) aNil))) (gSubA (mVar 1) (mVar 3)))))))
def F_lead : FD := runF 10 m_lead
def m_place_by : MS := (sSeq (sAsg (mVar 2) (gTupM 2 (gConsM (gN 3) (gConsM (gN 4) gNilM)))) (sSeq (sAsg (m2 dIxA (m2 dIxA (m2 dIxA (m2 dIxA (mVar 0) (mC (.int 1))) (mVar 3)) (mC (.int 0))) (mVar 1)) (gTupM 3 (gConsM (gN 5) (gConsM (gN 6) (gConsM (gN 7) gNilM))))) (sRet (mTup (aCons (mVar 5) (aCons (mIf (tOf (m2 dEq (mVar 6) (mC (.str "later")))) (m1 dNeg (m2 dIxA (mVar 4) (mVar 7))) (m2 dIxA (mVar 4) (mVar 7))) aNil))))))
def F_place_by : FD := runF 8 m_place_by
def m_row_by : MS := (sRet (mComp (iSeq (mSortKey (mVar 2) (mCall F_place_by (aCons (mVar 0) (aCons (mVar 1) (aCons (m2 dIxA (mVar 5) (mC (.int 1))) aNil)))) 5)) (gTupM 2 (gConsM (gN 3) (gConsM (gN 4) gNilM))) tYesM (mVar 3) [3, 4]))
def F_row_by : FD := runF 6 m_row_by
def m_p_led : MS := (sSeq (sFor (iEnum1 (mVar 2)) (gTupM 2 (gConsM (gN 4) (gConsM (gTupM 2 (gConsM (gN 5) (gConsM (gN 6) gNilM))) gNilM))) (sSeq (sIf (tNotM (tTru (mCall F_can_lead (aCons (mVar 0) (aCons (mVar 1) (aCons (mVar 5) (aCons (mVar 6) aNil))))))) (sRet (mVar 4)) sNil) (sDrop (mCall F_lead (aCons (mVar 0) (aCons (mVar 1) (aCons (mVar 5) (aCons (mVar 6) (aCons (m2 dAdd (mVar 3) (mVar 4)) aNil))))))))) (sRet (mC .non)))
def F_p_led : FD := runF 7 m_p_led
def m_led_on : MS := (sSeq (sSet 4 (mDcomp (iSeq (mVar 1)) (gTupM 2 (gConsM (gN 6) (gConsM (gN 7) gNilM))) tYesM (mVar 6) (mVar 7) [6, 7])) (sSeq (sSet 5 (mCall F_p_led (aCons (mVar 0) (aCons (mVar 4) (aCons (mVar 2) (aCons (mVar 3) aNil)))))) (sSeq (sIf (tOf (m2 dNotN (mVar 5) (mC .non))) (sRaise "NoIndex" 1 [("index", 1)] (aCons (mVar 5) aNil)) sNil) (sRet (mComp (iSeq (mCall fSorted (aCons (mVar 4) aNil))) (gN 6) tYesM (mTup (aCons (mVar 6) (aCons (m2 dIxA (mVar 4) (mVar 6)) aNil))) [6])))))
def F_led_on : FDX := runX 8 m_led_on
def m_figures_of : MS := (sRetX (xCall F_led_on (aCons (mVar 0) (aCons (mLst aNil) (aCons (mVar 1) (aCons (mC (.int 0)) aNil))))))
def F_figures_of : FDX := runX 2 m_figures_of
end
end PA
set_option Elab.async false
set_option linter.all false
set_option maxRecDepth 100000
/-! DL.More1: {}, a raising def where it does not raise, < of tuples of ints. -/
namespace DL
open PySem PySem.Spec PyProof.Rows L2
def mDct0 : ME := fun _ h => some (newK h [])
section
variable {X : Cx} {τ : Tb} {pos : Pos}
theorem L_dct0 : PE X (.Dict [] [] pos) (LE (X.kt τ) mDct0) := ⟨fun pins s σ H Q I hq => by
  obtain ⟨δ, ρ, h, d, h', sv, R, e, q⟩ := hq
  cases e
  refine wpAny_Dict_empty ?_
  have nS : (s.heap.objs.size == sysModules) = false := by
    have := I.big
    simpa using Nat.ne_of_gt this
  exact fin_dict (kvs := []) (zs := []) (us := []) (tk := s.toks) I R (fun b o e => Heap.get?_push_of_some _ e) (Nat.le_refl _) nS (Heap.DictOfH.new (knd := nestedKind X.prog X.w) s.heap) .nil .nil (Nat.zero_le _) q⟩
/-- a def that may raise, where it does not -/
def okF (F : FDX) : FD := fun ds h => (F ds h).bind fun p => match p.1 with
  | .ok d => some (d, p.2)
  | .ex _ _ => none
theorem okG {P : Program} {w : World} {K : PySem.W.Frag} {mg : Str → Option Value} {base : Heap} {k n : Nat} {f : Addr} {fd : FuncData} {ps : List Str} {F : FDX} {Kx' : Kx} (G : FnG P w K mg base (L2.CX P w) k f fd ps (spX Kx' n F)) : FnG P w K mg base L2.CX0 k f fd ps (spF Kx' n (okF F)) := by
  have key : ∀ vs H Q E, spF Kx' n (okF F) vs H Q E → spX Kx' n F vs H Q (fun _ _ _ => False) := by
    rintro vs H Q E ⟨hl, ds, ρ, h, d, h', w1, R, e, q⟩
    unfold okF at e
    obtain ⟨⟨r, h1⟩, e1, e2⟩ := Option.bind_eq_some_iff.mp e
    cases r with
    | ok d' => cases e2; exact ⟨hl, ds, ρ, h, _, _, w1, R, e1, q⟩
    | ex c fs => cases e2
  refine ⟨fun vs H Q E q => G.many vs H Q _ (key vs H Q E q), ?_⟩
  intro A outer s H args us vs Q E g hr e0 hb rv hsp
  refine codeAny_mono (G.goes g hr e0 hb rv (key vs H Q E hsp)) ?_
  intro r s' z
  match r, z with
  | .ok (.ret u), z => exact z
  | .error e, z =>
    obtain ⟨a, B, H', cls, d, _, _, _, _, _, _, _, hf⟩ := z
    exact hf.elim
def intsD : List D → Option (List Int)
  | [] => some []
  | .int i :: r => (intsD r).map fun l => i :: l
  | _ :: _ => none
theorem intsD_of {K : Kx} {H : Hp} {ρ : List Addr} : ∀ {ds : List D} {ns : List Int} {vs : List V}, intsD ds = some ns → DVs K H ρ ds vs → vs = ns.map V.int
  | [], _, _, e, w => by cases e; simp only [DVs] at w; subst w; rfl
  | d :: r, ns, vs, e, w => by
    cases d <;> simp [intsD] at e
    rename_i i
    obtain ⟨l, e1, rfl⟩ := e
    simp only [DVs] at w
    obtain ⟨v, vr, rfl, w1, w2⟩ := w
    simp only [DV] at w1
    rw [w1, intsD_of e1 w2]
    rfl
def dLtA : F2 := fun x y h => match x, y with
  | .tup xs, .tup ys => (intsD xs).bind fun ns => (intsD ys).map fun ms => (.bl (HT.lexLt ns ms), h)
  | _, _ => dLt x y h
theorem O_ltA (hu : X.A.units < cLine) : OpD X τ (compareOp .Lt) dLtA := by
  intro pins s σ H x y v u Q I rx ry hq
  obtain ⟨ρ, h, d, e, r, h', R, v1, v2, q, k⟩ := hq
  unfold dLtA at q
  split at q
  · rename_i xs ys
    obtain ⟨ns, e1, q⟩ := Option.bind_eq_some_iff.mp q
    obtain ⟨ms, e2, q⟩ := Option.map_eq_some_iff.mp q
    cases q
    obtain ⟨a, vs, rfl, s1, w1⟩ := v1.tupI
    obtain ⟨b, us, rfl, s2, w2⟩ := v2.tupI
    rw [intsD_of e1 w1] at s1
    rw [intsD_of e2 w2] at s2
    exact op_ltT hu pins s σ H _ _ v u Q I rx ry ⟨a, b, ns, ms, rfl, rfl, SqT.of s1, SqT.of s2, fin R k (by simp [DV])⟩
  · exact O_lt (τ := τ) pins s σ H x y v u Q I rx ry ⟨ρ, h, d, e, r, h', R, v1, v2, q, k⟩
/-- a, b, c = x, y, z with plain local names -/
def sPar3 (i j l : Nat) (m : MA) : MS := fun δ h => (m δ h).bind fun p => match p.1 with
  | [a, b, c] => some (.nx, ((δ.set i (some a)).set j (some b)).set l (some c), p.2)
  | _ => none
theorem S_par3 {W : WX} {mr : MA} {i j l : Nat} {x y z : Str} {a b c : Expr} {px py pz pt : Pos} {kt k2 pt2} (hc : X.calm = true) (hN : X.N.Nodup) (hi : X.N[i]? = some x) (hj : X.N[j]? = some y) (hl : X.N[l]? = some z) (hij : i ≠ j) (hil : i ≠ l) (hjl : j ≠ l)
    (hx : X.env.scope.names.lookup x = some .local) (hy : X.env.scope.names.lookup y = some .local) (hz : X.env.scope.names.lookup z = some .local) (ha : PA X [a, b, c] (LA (X.kt τ) mr))
    (hw : swappedStores [.Tuple [.Name x px, .Name y py, .Name z pz] kt pt] (.Tuple [a, b, c] k2 pt2) X.env = pure (some [x, y, z]))
    (hs : swapsWithSole [.Tuple [.Name x px, .Name y py, .Name z pz] kt pt] (.Tuple [a, b, c] k2 pt2) pos.line X.env = pure false := by rfl) :
    PS X (.Assign [.Tuple [.Name x px, .Name y py, .Name z pz] kt pt] (.Tuple [a, b, c] k2 pt2) pos) (LS (X.kt τ) W (sPar3 i j l mr)) := (ps_par3 hc hN hi hj hl hij hil hjl hx hy hz ha hw hs).imp fun Z σ H ⟨δ, ρ, h0, f, δ', h', s, R, q, k⟩ => by
  unfold sPar3 at q
  obtain ⟨⟨ds, h1⟩, e1, q⟩ := Option.bind_eq_some_iff.mp q
  simp only at q
  split at q
  · rename_i d1 d2 d3
    cases q
    refine ⟨δ, ρ, h0, _, _, s, R, e1, fun vs H1 ρ1 x1 R1 v1 => ?_⟩
    simp only [DVs] at v1
    obtain ⟨v, r, rfl, w1, u, r2, rfl, w2, t, r3, rfl, w3, rfl⟩ := v1
    exact ⟨v, u, t, rfl, k _ H1 ρ1 x1 R1 ((((s.mono x1).set w1).set w2).set w3)⟩
  · cases q
end
end DL
set_option Elab.async false
set_option linter.all false
set_option maxRecDepth 100000
/-! PA.PreN: mirrors of further defs of ownmoment/machines.py and of laws over drawn machines (made by gen.py). -/
namespace PA
open PySem PySem.Spec PyProof.Rows L2 DL
noncomputable section
def m_machine_kinds : MS := (sRet (mCall fLen (aCons (m2 dIxA (mVar 0) (mC (.int 0))) aNil)))
def F_machine_kinds : FD := runF 1 m_machine_kinds
def m_machine_deeds : MS := (sRet (m2 dAdd (mCall fLen (aCons (m2 dIxA (m2 dIxA (mVar 0) (mC (.int 2))) (mC (.int 0))) aNil)) (mC (.int 1))))
def F_machine_deeds : FD := runF 1 m_machine_deeds
def m_machine_rows : MS := (sRet (mCall fLen (aCons (m2 dIxA (m2 dIxA (m2 dIxA (mVar 0) (mC (.int 1))) (mC (.int 0))) (mC (.int 0))) aNil)))
def F_machine_rows : FD := runF 1 m_machine_rows
def m_first_barred : MS := (sRet (mCall F_p_led (aCons (mVar 0) (aCons mDct0 (aCons (mVar 1) (aCons (mC (.int 0)) aNil))))))
def F_first_barred : FD := runF 2 m_first_barred
def m_point_behind : MS := (sSeq (sSet 3 (m2 dIxA (m2 dIxA (mVar 0) (mC (.int 0))) (mVar 1))) (sSeq (sFor (iSeq (mVar 2)) (gN 4) (sSeq (sSet 5 (m2 dIxA (m2 dIxA (m2 dIxA (mVar 0) (mC (.int 2))) (mVar 3)) (m2 dSub (mVar 4) (mC (.int 1))))) (sSeq (sIf (tOf (m2 dIsN (mVar 5) (mC .non))) (sRet (mC .non)) sNil) (sSet 3 (m2 dIxA (mVar 5) (mC (.int 0))))))) (sRet (mVar 3))))
def F_point_behind : FD := runF 6 m_point_behind
def m_is_ahead_by : MS := (sRet (m2 dLtA (mCall F_place_by (aCons (mVar 0) (aCons (mVar 1) (aCons (mVar 2) aNil)))) (mCall F_place_by (aCons (mVar 0) (aCons (mVar 1) (aCons (mVar 3) aNil))))))
def F_is_ahead_by : FD := runF 4 m_is_ahead_by
def m_row_machine : MS := (sSeq (sAsg (mVar 0) (gTupM 3 (gConsM (gN 2) (gConsM (gN 3) (gConsM (gN 4) gNilM))))) (sRet (mTup (aCons (mVar 2) (aCons (mCall fTuple (aCons (mComp (iSeq (mVar 3)) (gTupM 3 (gConsM (gN 5) (gConsM (gN 6) (gConsM (gN 7) gNilM)))) tYesM (mTup (aCons (mTup (aCons (m2 dIxA (mVar 5) (mVar 1)) aNil)) (aCons (mVar 6) (aCons (mTup aNil) aNil)))) [5, 6, 7]) aNil)) (aCons (mVar 4) aNil))))))
def F_row_machine : FD := runF 8 m_row_machine
def m_l_barred_at : MS := (sSeq (sSet 2 (mCall F_l_led (aCons (mVar 0) (aCons (mLst aNil) (aCons (mVar 1) (aCons (mC (.int 0)) aNil)))))) (sRet (mIf (tTru (mCall fIsi (aCons (mVar 2) (aCons (mC (.ty "int")) aNil)))) (mVar 2) (mC .non))))
def F_l_barred_at : FD := runF 3 m_l_barred_at
def m_l_ahead : MS := (sRet (m2 dLtA (mCall F_l_key (aCons (mVar 0) (aCons (mVar 1) (aCons (mVar 2) aNil)))) (mCall F_l_key (aCons (mVar 0) (aCons (mVar 1) (aCons (mVar 3) aNil))))))
def F_l_ahead : FD := runF 4 m_l_ahead
def m_l_of_row : MS := (sSeq (sSet 2 (mCall fTuple (aCons (mComp (iSeq (m2 dIxA (mVar 0) (mC (.int 1)))) (gN 3) tYesM (mTup (aCons (mTup (aCons (m2 dIxA (m2 dIxA (mVar 3) (mC (.int 0))) (mVar 1)) aNil)) (aCons (m2 dIxA (mVar 3) (mC (.int 1))) (aCons (mTup aNil) aNil)))) [3]) aNil))) (sRet (mTup (aCons (m2 dIxA (mVar 0) (mC (.int 0))) (aCons (mVar 2) (aCons (m2 dIxA (mVar 0) (mC (.int 2))) aNil))))))
def F_l_of_row : FD := runF 4 m_l_of_row
def m_l_labelled : MS := (sSeq (sAsg (mTup (aCons (mCall fLen (aCons (m2 dIxA (mVar 0) (mC (.int 1))) aNil)) (aCons (mLst aNil) (aCons (mLst aNil) aNil)))) (gTupM 3 (gConsM (gN 2) (gConsM (gN 3) (gConsM (gN 4) gNilM))))) (sSeq (sFor (iRng1 (mCall fLen (aCons (m2 dIxA (mVar 0) (mC (.int 0))) aNil))) (gN 1) (sFor (iRng1 (mVar 2)) (gN 5) (sSeq (sDrop (mMeth fAppend (mVar 3) (aCons (mTup (aCons (m2 dIxA (m2 dIxA (m2 dIxA (mVar 0) (mC (.int 1))) (mVar 5)) (mC (.int 0))) (aCons (m2 dIxA (m2 dIxA (m2 dIxA (mVar 0) (mC (.int 1))) (mVar 5)) (mC (.int 1))) (aCons (mTup (aCons (mVar 1) (aCons (mVar 5) aNil))) aNil)))) aNil))) (sDrop (mMeth fAppend (mVar 4) (aCons (mCall fTuple (aCons (mComp (iSeq (m2 dIxA (m2 dIxA (mVar 0) (mC (.int 2))) (mVar 5))) (gN 6) tYesM (mIf (tOf (m2 dIsN (mVar 6) (mC .non))) (mVar 6) (mTup (aCons (m2 dAdd (m2 dMulA (mVar 1) (mVar 2)) (m2 dIxA (mVar 6) (mC (.int 0)))) (aCons (m2 dIxA (mVar 6) (mC (.int 1))) aNil)))) [6]) aNil)) aNil)))))) (sRet (mTup (aCons (mCall fTuple (aCons (mComp (iRng1 (mCall fLen (aCons (m2 dIxA (mVar 0) (mC (.int 0))) aNil))) (gN 1) tYesM (m2 dAdd (m2 dMulA (mVar 1) (mVar 2)) (m2 dIxA (m2 dIxA (mVar 0) (mC (.int 0))) (mVar 1))) [1]) aNil)) (aCons (mCall fTuple (aCons (mVar 3) aNil)) (aCons (mCall fTuple (aCons (mVar 4) aNil)) aNil)))))))
def F_l_labelled : FD := runF 7 m_l_labelled
end
end PA
set_option Elab.async false
set_option linter.all false
set_option maxRecDepth 100000
namespace K35
open PySem PySem.Spec PyProof.Rows L2 DL PA
def top (i : Nat) : Stmt := PySem.Challenge.pw_ownmoment_k35_machines_led_through_runs.main.body.getD i (.Pass ⟨0, 0, 0, 0⟩)
noncomputable section
variable {P : Program} {w : World} {K : PySem.W.Frag} {mg : Str → Option Value} {base : Heap} {τ : Tb} {f : Addr} {fd : FuncData}
abbrev s_machine_kinds : Stmt := top 4
theorem sc_machine_kinds : FnScope ["machine"] ["machine"] (defScope s_machine_kinds) := ⟨rfl, rfl, rfl, by decide +kernel, rfl, by decide +kernel, by decide +kernel⟩
theorem g_machine_kinds (F : Fun K "machine_kinds" "machine_kinds" s_machine_kinds f fd) (z_len : mg "len" = none) : FnG P w K mg base L2.CX0 1 f fd ["machine"] (spF ⟨K, w, mg, τ⟩ 1 F_machine_kinds) :=
  fn_d F sc_machine_kinds fun cdv A outer s H E hG hr => (S_one (S_ret (L_callB B_len rfl z_len rfl (A_cons (L_ixA (Rm.of hr) (L_var 0) L_int (fun _ _ => rfl) (fun _ _ => rfl)) A_nil))))
abbrev s_machine_deeds : Stmt := top 5
theorem sc_machine_deeds : FnScope ["machine"] ["machine"] (defScope s_machine_deeds) := ⟨rfl, rfl, rfl, by decide +kernel, rfl, by decide +kernel, by decide +kernel⟩
theorem g_machine_deeds (F : Fun K "machine_deeds" "machine_deeds" s_machine_deeds f fd) (z_len : mg "len" = none) : FnG P w K mg base L2.CX0 1 f fd ["machine"] (spF ⟨K, w, mg, τ⟩ 1 F_machine_deeds) :=
  fn_d F sc_machine_deeds fun cdv A outer s H E hG hr => (S_one (S_ret (L_op O_add (L_callB B_len rfl z_len rfl (A_cons (L_ixA (Rm.of hr) (L_ixA (Rm.of hr) (L_var 0) L_int (fun _ _ => rfl) (fun _ _ => rfl)) L_int (fun _ _ => rfl) (fun _ _ => rfl)) A_nil)) L_int)))
abbrev s_machine_rows : Stmt := top 6
theorem sc_machine_rows : FnScope ["machine"] ["machine"] (defScope s_machine_rows) := ⟨rfl, rfl, rfl, by decide +kernel, rfl, by decide +kernel, by decide +kernel⟩
theorem g_machine_rows (F : Fun K "machine_rows" "machine_rows" s_machine_rows f fd) (z_len : mg "len" = none) : FnG P w K mg base L2.CX0 1 f fd ["machine"] (spF ⟨K, w, mg, τ⟩ 1 F_machine_rows) :=
  fn_d F sc_machine_rows fun cdv A outer s H E hG hr => (S_one (S_ret (L_callB B_len rfl z_len rfl (A_cons (L_ixA (Rm.of hr) (L_ixA (Rm.of hr) (L_ixA (Rm.of hr) (L_var 0) L_int (fun _ _ => rfl) (fun _ _ => rfl)) L_int (fun _ _ => rfl) (fun _ _ => rfl)) L_int (fun _ _ => rfl) (fun _ _ => rfl)) A_nil))))
abbrev s_point_behind : Stmt := top 8
theorem sc_point_behind : FnScope ["machine", "kind", "past", "point", "deed", "entry"] ["machine", "kind", "past"] (defScope s_point_behind) := ⟨rfl, rfl, rfl, by decide +kernel, rfl, by decide +kernel, by decide +kernel⟩
theorem g_point_behind (F : Fun K "point_behind" "point_behind" s_point_behind f fd) : FnG P w K mg base L2.CX0 1 f fd ["machine", "kind", "past"] (spF ⟨K, w, mg, τ⟩ 3 F_point_behind) :=
  fn_d F sc_point_behind fun cdv A outer s H E hG hr => (S_cons (S_set (i := 3) sc_point_behind.nd rfl (by first | exact .inl rfl | exact .inr rfl) (L_ixA (Rm.of hr) (L_ixA (Rm.of hr) (L_var 0) L_int (fun _ _ => rfl) (fun _ _ => rfl)) (L_var 1) (fun _ _ => rfl) (fun _ _ => rfl))) (S_cons (S_for (ws := [4]) PassesOwn.never rfl (I_seq (L_var 2)) (G_name sc_point_behind.nd rfl (by first | exact .inl rfl | exact .inr rfl)) (S_cons (S_set (i := 5) sc_point_behind.nd rfl (by first | exact .inl rfl | exact .inr rfl) (L_ixA (Rm.of hr) (L_ixA (Rm.of hr) (L_ixA (Rm.of hr) (L_var 0) L_int (fun _ _ => rfl) (fun _ _ => rfl)) (L_var 3) (fun _ _ => rfl) (fun _ _ => rfl)) (L_op O_sub (L_var 4) L_int) (fun _ _ => rfl) (fun _ _ => rfl))) (S_cons (S_if (T_cmp O_isN (L_var 5) L_non (by first | exact nomark _ | rfl)) (S_one (S_ret L_non)) S_nil) (S_one (S_set (i := 3) sc_point_behind.nd rfl (by first | exact .inl rfl | exact .inr rfl) (L_ixA (Rm.of hr) (L_var 5) L_int (fun _ _ => rfl) (fun _ _ => rfl))))))) (S_one (S_ret (L_var 3)))))
abbrev s_can_lead : Stmt := top 12
theorem sc_can_lead : FnScope ["machine", "there", "deed", "x"] ["machine", "there", "deed", "x"] (defScope s_can_lead) := ⟨rfl, rfl, rfl, by decide +kernel, rfl, by decide +kernel, by decide +kernel⟩
theorem g_can_lead (F : Fun K "can_lead" "can_lead" s_can_lead f fd) : FnG P w K mg base L2.CX0 1 f fd ["machine", "there", "deed", "x"] (spF ⟨K, w, mg, τ⟩ 4 F_can_lead) :=
  fn_d F sc_can_lead fun cdv A outer s H E hG hr => (S_cons (S_if (T_cmp (O_eq (u64 hr)) (L_var 2) L_int (by first | exact nomark _ | rfl)) (S_one (S_ret (L_cmp (O_notIn (u70 hr)) (L_var 3) (L_var 1) (by first | exact nomark _ | rfl)))) S_nil) (S_cons (S_if (T_cmp (O_notIn (u70 hr)) (L_var 3) (L_var 1) (by first | exact nomark _ | rfl)) (S_one (S_ret L_bl)) S_nil) (S_one (S_ret (L_or (L_cmp (O_eq (u64 hr)) (L_var 2) (L_un U_neg L_int) (by first | exact nomark _ | rfl)) (L_one (L_cmp O_notN (L_ixA (Rm.of hr) (L_ixA (Rm.of hr) (L_ixA (Rm.of hr) (L_var 0) L_int (fun _ _ => rfl) (fun _ _ => rfl)) (L_ixA (Rm.of hr) (L_ixA (Rm.of hr) (L_var 1) (L_var 3) (fun _ _ => rfl) (fun _ _ => rfl)) L_int (fun _ _ => rfl) (fun _ _ => rfl)) (fun _ _ => rfl) (fun _ _ => rfl)) (L_op O_sub (L_var 2) L_int) (fun _ _ => rfl) (fun _ _ => rfl)) L_non (by first | exact nomark _ | rfl))))))))
abbrev s_lead : Stmt := top 13
theorem sc_lead : FnScope ["machine", "there", "deed", "x", "now", "point", "times", "behind", "take", "k"] ["machine", "there", "deed", "x", "now"] (defScope s_lead) := ⟨rfl, rfl, rfl, by decide +kernel, rfl, by decide +kernel, by decide +kernel⟩
theorem g_lead (F : Fun K "lead" "lead" s_lead f fd) (z_tuple : mg "tuple" = none) : FnG P w K mg base L2.CX0 1 f fd ["machine", "there", "deed", "x", "now"] (spF ⟨K, w, mg, τ⟩ 5 F_lead) :=
  fn_d F sc_lead fun cdv A outer s H E hG hr => (S_one (S_if (T_cmp (O_eq (u64 hr)) (L_var 2) L_int (by first | exact nomark _ | rfl)) (S_one (S_asg (vs := []) (L_tup (A_cons (L_ixA (Rm.of hr) (L_ixA (Rm.of hr) (L_var 0) L_int (fun _ _ => rfl) (fun _ _ => rfl)) (L_ixA (Rm.of hr) (L_var 3) L_int (fun _ _ => rfl) (fun _ _ => rfl)) (fun _ _ => rfl) (fun _ _ => rfl)) (A_cons (L_tup (A_cons (L_var 4) A_nil)) A_nil))) (G_subA (Rm.of hr) (L_var 1) (L_var 3)))) (S_one (S_if (T_cmp (O_eq (u64 hr)) (L_var 2) (L_un U_neg L_int) (by first | exact nomark _ | rfl)) (S_one (S_delD (Rm.of hr) (L_var 1) (L_var 3))) (S_cons (S_asg (vs := ([5] ++ ([6] ++ []))) (L_ixA (Rm.of hr) (L_var 1) (L_var 3) (fun _ _ => rfl) (fun _ _ => rfl)) (G_tup rfl (Gs_cons (G_name sc_lead.nd rfl (by first | exact .inl rfl | exact .inr rfl)) (Gs_cons (G_name sc_lead.nd rfl (by first | exact .inl rfl | exact .inr rfl)) Gs_nil)))) (S_cons (S_asg (vs := ([7] ++ ([8] ++ []))) (L_ixA (Rm.of hr) (L_ixA (Rm.of hr) (L_ixA (Rm.of hr) (L_var 0) L_int (fun _ _ => rfl) (fun _ _ => rfl)) (L_var 5) (fun _ _ => rfl) (fun _ _ => rfl)) (L_op O_sub (L_var 2) L_int) (fun _ _ => rfl) (fun _ _ => rfl)) (G_tup rfl (Gs_cons (G_name sc_lead.nd rfl (by first | exact .inl rfl | exact .inr rfl)) (Gs_cons (G_name sc_lead.nd rfl (by first | exact .inl rfl | exact .inr rfl)) Gs_nil)))) (S_one (S_asg (vs := []) (L_tup (A_cons (L_var 7) (A_cons (L_callTy B_tuple rfl z_tuple rfl (A_cons (L_comp (ws := [9]) (own := [("k", 9)]) rfl sc_lead.nd (I_seq (L_var 8)) (blk_mk rfl) (fun _ _ _ _ _ => (G_name sc_lead.nd rfl (by first | exact .inl rfl | exact .inr rfl))) (fun _ _ _ _ _ => Pts_nil) (fun _ _ _ _ _ => (L_if (T_cmp (O_eq (u64 hr)) (L_var 9) (L_un U_neg L_int) (by first | exact nomark _ | rfl)) (L_var 4) (L_ixA (Rm.of hr) (L_var 6) (L_var 9) (fun _ _ => rfl) (fun _ _ => rfl))))) A_nil)) A_nil))) (G_subA (Rm.of hr) (L_var 1) (L_var 3))))))))))
abbrev s_place_by : Stmt := top 15
theorem sc_place_by : FnScope ["machine", "row", "figure", "point", "times", "rank", "way", "at"] ["machine", "row", "figure"] (defScope s_place_by) := ⟨rfl, rfl, rfl, by decide +kernel, rfl, by decide +kernel, by decide +kernel⟩
theorem g_place_by (F : Fun K "place_by" "place_by" s_place_by f fd) : FnG P w K mg base L2.CX0 1 f fd ["machine", "row", "figure"] (spF ⟨K, w, mg, τ⟩ 3 F_place_by) :=
  fn_d F sc_place_by fun cdv A outer s H E hG hr => (S_cons (S_asg (vs := ([3] ++ ([4] ++ []))) (L_var 2) (G_tup rfl (Gs_cons (G_name sc_place_by.nd rfl (by first | exact .inl rfl | exact .inr rfl)) (Gs_cons (G_name sc_place_by.nd rfl (by first | exact .inl rfl | exact .inr rfl)) Gs_nil)))) (S_cons (S_asg (vs := ([5] ++ ([6] ++ ([7] ++ [])))) (L_ixA (Rm.of hr) (L_ixA (Rm.of hr) (L_ixA (Rm.of hr) (L_ixA (Rm.of hr) (L_var 0) L_int (fun _ _ => rfl) (fun _ _ => rfl)) (L_var 3) (fun _ _ => rfl) (fun _ _ => rfl)) L_int (fun _ _ => rfl) (fun _ _ => rfl)) (L_var 1) (fun _ _ => rfl) (fun _ _ => rfl)) (G_tup rfl (Gs_cons (G_name sc_place_by.nd rfl (by first | exact .inl rfl | exact .inr rfl)) (Gs_cons (G_name sc_place_by.nd rfl (by first | exact .inl rfl | exact .inr rfl)) (Gs_cons (G_name sc_place_by.nd rfl (by first | exact .inl rfl | exact .inr rfl)) Gs_nil))))) (S_one (S_ret (L_tup (A_cons (L_var 5) (A_cons (L_if (T_cmp (O_eq (u64 hr)) (L_var 6) L_str (by first | exact nomark _ | rfl)) (L_un U_neg (L_ixA (Rm.of hr) (L_var 4) (L_var 7) (fun _ _ => rfl) (fun _ _ => rfl))) (L_ixA (Rm.of hr) (L_var 4) (L_var 7) (fun _ _ => rfl) (fun _ _ => rfl))) A_nil)))))))
abbrev s_row_by : Stmt := top 16
theorem sc_row_by : FnScope ["machine", "row", "figures", "x", "_", "one"] ["machine", "row", "figures"] (defScope s_row_by) := ⟨rfl, rfl, rfl, by decide +kernel, rfl, by decide +kernel, by decide +kernel⟩
theorem g_row_by (F : Fun K "row_by" "row_by" s_row_by f fd) {f_place_by : Addr} {fd_place_by : FuncData} (G_place_by : FnG P w K mg base L2.CX0 1 f_place_by fd_place_by ["machine", "row", "figure"] (spF ⟨K, w, mg, τ⟩ 3 F_place_by)) (i_place_by : mg "place_by" = some (.ref f_place_by)) (k_place_by : PySem.W.keepIn K (.ref f_place_by) = true) (b_place_by : Binds K fd_place_by ["machine", "row", "figure"] []) {cc cP : Addr} (cv : fd.code = .ref cc) (cTB : LamX.TabB base mg cc cP) (cm : (cP, (envOfC "row_by" (defScope s_row_by) 0 0 .none).qual ++ "<lambda>") ∈ τ) (cu : ∀ q ∈ τ, q.1 = cP → q.2 = (envOfC "row_by" (defScope s_row_by) 0 0 .none).qual ++ "<lambda>") (z_sorted : mg "sorted" = none) : FnG P w K mg base L2.CX0 5 f fd ["machine", "row", "figures"] (spF ⟨K, w, mg, τ⟩ 3 F_row_by) :=
  fn_l F sc_row_by cv fun A outer s H E hG hr => (S_one (S_ret (L_comp (ws := ([3] ++ ([4] ++ []))) (own := [("x", 3), ("_", 4)]) rfl sc_row_by.nd (I_seq (L_sortKey (k := 1) (c := cc) (P := cP) (pn := "one") (j := 5) rfl sc_row_by.nd hG (hr.mono (by decide)) rfl rfl cTB rfl cm cu rfl (lam1_mk rfl) rfl (fun _ _ _ _ => rfl) rfl z_sorted (L_var 2) (fun f c' A outer s H hG hr => (L_call hG G_place_by (hr.mono (by decide)) rfl i_place_by k_place_by b_place_by rfl rfl (A_cons (L_var 0) (A_cons (L_var 1) (A_cons (L_ixA (Rm.of hr) (L_var 5) L_int (fun _ _ => rfl) (fun _ _ => rfl)) A_nil))) (aLen_cons (aLen_cons (aLen_cons aLen_nil))))))) (blk_mk rfl) (fun _ _ _ _ _ => (G_tup rfl (Gs_cons (G_name sc_row_by.nd rfl (by first | exact .inl rfl | exact .inr rfl)) (Gs_cons (G_name sc_row_by.nd rfl (by first | exact .inl rfl | exact .inr rfl)) Gs_nil)))) (fun _ _ _ _ _ => Pts_nil) (fun _ _ _ _ _ => (L_var 3)))))
abbrev s_row_machine : Stmt := top 17
theorem sc_row_machine : FnScope ["machine", "row", "begins", "points", "moves", "stands", "live", "_"] ["machine", "row"] (defScope s_row_machine) := ⟨rfl, rfl, rfl, by decide +kernel, rfl, by decide +kernel, by decide +kernel⟩
theorem g_row_machine (F : Fun K "row_machine" "row_machine" s_row_machine f fd) (z_tuple : mg "tuple" = none) : FnG P w K mg base L2.CX0 1 f fd ["machine", "row"] (spF ⟨K, w, mg, τ⟩ 2 F_row_machine) :=
  fn_d F sc_row_machine fun cdv A outer s H E hG hr => (S_cons (S_asg (vs := ([2] ++ ([3] ++ ([4] ++ [])))) (L_var 0) (G_tup rfl (Gs_cons (G_name sc_row_machine.nd rfl (by first | exact .inl rfl | exact .inr rfl)) (Gs_cons (G_name sc_row_machine.nd rfl (by first | exact .inl rfl | exact .inr rfl)) (Gs_cons (G_name sc_row_machine.nd rfl (by first | exact .inl rfl | exact .inr rfl)) Gs_nil))))) (S_one (S_ret (L_tup (A_cons (L_var 2) (A_cons (L_callTy B_tuple rfl z_tuple rfl (A_cons (L_comp (ws := ([5] ++ ([6] ++ ([7] ++ [])))) (own := [("stands", 5), ("live", 6), ("_", 7)]) rfl sc_row_machine.nd (I_seq (L_var 3)) (blk_mk rfl) (fun _ _ _ _ _ => (G_tup rfl (Gs_cons (G_name sc_row_machine.nd rfl (by first | exact .inl rfl | exact .inr rfl)) (Gs_cons (G_name sc_row_machine.nd rfl (by first | exact .inl rfl | exact .inr rfl)) (Gs_cons (G_name sc_row_machine.nd rfl (by first | exact .inl rfl | exact .inr rfl)) Gs_nil))))) (fun _ _ _ _ _ => Pts_nil) (fun _ _ _ _ _ => (L_tup (A_cons (L_tup (A_cons (L_ixA (Rm.of hr) (L_var 5) (L_var 1) (fun _ _ => rfl) (fun _ _ => rfl)) A_nil)) (A_cons (L_var 6) (A_cons (L_tup A_nil) A_nil)))))) A_nil)) (A_cons (L_var 4) A_nil)))))))
abbrev s_l_bag : Stmt := top 19
theorem sc_l_bag : FnScope ["script", "cell"] ["script"] (defScope s_l_bag) := ⟨rfl, rfl, rfl, by decide +kernel, rfl, by decide +kernel, by decide +kernel⟩
theorem g_l_bag (F : Fun K "_law_bag" "_law_bag" s_l_bag f fd) (z_abs : mg "abs" = none) : FnG P w K mg base L2.CX0 1 f fd ["script"] (spF ⟨K, w, mg, τ⟩ 1 F_l_bag) :=
  fn_d F sc_l_bag fun cdv A outer s H E hG hr => (S_one (S_ret (L_lst (A_cons L_int (A_cons L_int (A_cons L_int (A_cons (L_comp (ws := [1]) (own := [("cell", 1)]) rfl sc_l_bag.nd (I_seq (L_slice (L_var 0) P_none (P_some L_int))) (blk_mk rfl) (fun _ _ _ _ _ => (G_name sc_l_bag.nd rfl (by first | exact .inl rfl | exact .inr rfl))) (fun _ _ _ _ _ => Pts_nil) (fun _ _ _ _ _ => (L_callB B_abs rfl z_abs rfl (A_cons (L_var 1) A_nil)))) A_nil)))))))
abbrev s_l_take : Stmt := top 20
theorem sc_l_take : FnScope ["bag", "upto", "begin", "second", "cell", "stirred", "value"] ["bag", "upto"] (defScope s_l_take) := ⟨rfl, rfl, rfl, by decide +kernel, rfl, by decide +kernel, by decide +kernel⟩
theorem g_l_take (F : Fun K "_law_take" "_law_take" s_l_take f fd) (z_int : mg "int" = none) : FnG P w K mg base L2.CX0 1 f fd ["bag", "upto"] (spF ⟨K, w, mg, τ⟩ 2 F_l_take) :=
  fn_d F sc_l_take fun cdv A outer s H E hG hr => (S_cons (S_if (T_cmp (O_eq (u64 hr)) (L_ixA (Rm.of hr) (L_var 0) L_int (fun _ _ => rfl) (fun _ _ => rfl)) L_int (by first | exact nomark _ | rfl)) (S_cons (S_set (i := 4) sc_l_take.nd rfl (by first | exact .inl rfl | exact .inr rfl) (L_ixA (Rm.of hr) (L_op O_add (L_slice (L_ixA (Rm.of hr) (L_var 0) L_int (fun _ _ => rfl) (fun _ _ => rfl)) (P_some (L_ixA (Rm.of hr) (L_var 0) L_int (fun _ _ => rfl) (fun _ _ => rfl))) P_none) (L_lst (A_cons L_int A_nil))) L_int (fun _ _ => rfl) (fun _ _ => rfl))) (S_cons (S_augAdd (Rm.of hr) (L_var 0) L_int L_int) (S_cons (S_if (T_cmp O_ge (L_var 4) (L_op O_pow L_int L_int) (by first | exact nomark _ | rfl)) (S_one (S_asg (vs := []) (L_var 4) (G_subA (Rm.of hr) (L_var 0) L_int))) S_nil) (S_cons (S_set (i := 5) sc_l_take.nd rfl (by first | exact .inl rfl | exact .inr rfl) (L_op O_add (L_op O_add (L_op O_mulA (L_ixA (Rm.of hr) (L_var 0) L_int (fun _ _ => rfl) (fun _ _ => rfl)) L_int) (L_op O_mod (L_callTy B_int rfl z_int rfl (A_cons (L_var 4) A_nil)) L_int)) (L_op O_mulA L_int (L_ixA (Rm.of hr) (L_var 0) L_int (fun _ _ => rfl) (fun _ _ => rfl))))) (S_one (S_asg (vs := []) (L_op O_mod (L_callTy B_int rfl z_int rfl (A_cons (L_var 5) A_nil)) L_int) (G_subA (Rm.of hr) (L_var 0) L_int))))))) S_nil) (S_cons (S_if (T_cmp O_gt (L_ixA (Rm.of hr) (L_var 0) L_int (fun _ _ => rfl) (fun _ _ => rfl)) L_int (by first | exact nomark _ | rfl)) (S_cons (S_set (i := 6) sc_l_take.nd rfl (by first | exact .inl rfl | exact .inr rfl) (L_op O_mod (L_callTy B_int rfl z_int rfl (A_cons (L_ixA (Rm.of hr) (L_var 0) L_int (fun _ _ => rfl) (fun _ _ => rfl)) A_nil)) (L_var 1))) (S_cons (S_asg (vs := []) (L_op O_fdiv (L_callTy B_int rfl z_int rfl (A_cons (L_ixA (Rm.of hr) (L_var 0) L_int (fun _ _ => rfl) (fun _ _ => rfl)) A_nil)) (L_var 1)) (G_subA (Rm.of hr) (L_var 0) L_int)) (S_one (S_ret (L_var 6))))) S_nil) (S_cons (S_set (i := 2) sc_l_take.nd rfl (by first | exact .inl rfl | exact .inr rfl) (L_op O_mod (L_callTy B_int rfl z_int rfl (A_cons (L_op O_mulA (L_op O_add (L_ixA (Rm.of hr) (L_var 0) L_int (fun _ _ => rfl) (fun _ _ => rfl)) L_int) L_int) A_nil)) L_int)) (S_cons (S_set (i := 3) sc_l_take.nd rfl (by first | exact .inl rfl | exact .inr rfl) (L_op O_mod (L_callTy B_int rfl z_int rfl (A_cons (L_op O_mulA (L_op O_mod (L_callTy B_int rfl z_int rfl (A_cons (L_op O_mulA (L_var 2) (L_var 2)) A_nil)) L_int) L_int) A_nil)) L_int)) (S_one (S_ret (L_op O_mod (L_callTy B_int rfl z_int rfl (A_cons (L_op O_fdiv (L_var 3) L_int) A_nil)) (L_var 1))))))))
abbrev s_l_some : Stmt := top 21
theorem sc_l_some : FnScope ["bag", "things"] ["bag", "things"] (defScope s_l_some) := ⟨rfl, rfl, rfl, by decide +kernel, rfl, by decide +kernel, by decide +kernel⟩
theorem g_l_some (F : Fun K "_law_some" "_law_some" s_l_some f fd) {f_l_take : Addr} {fd_l_take : FuncData} (G_l_take : FnG P w K mg base L2.CX0 1 f_l_take fd_l_take ["bag", "upto"] (spF ⟨K, w, mg, τ⟩ 2 F_l_take)) (i_l_take : mg "_law_take" = some (.ref f_l_take)) (k_l_take : PySem.W.keepIn K (.ref f_l_take) = true) (b_l_take : Binds K fd_l_take ["bag", "upto"] []) (z_len : mg "len" = none) : FnG P w K mg base L2.CX0 2 f fd ["bag", "things"] (spF ⟨K, w, mg, τ⟩ 2 F_l_some) :=
  fn_d F sc_l_some fun cdv A outer s H E hG hr => (S_one (S_ret (L_ixA (Rm.of hr) (L_var 1) (L_call hG G_l_take (hr.mono (by decide)) rfl i_l_take k_l_take b_l_take rfl rfl (A_cons (L_var 0) (A_cons (L_callB B_len rfl z_len rfl (A_cons (L_var 1) A_nil)) A_nil)) (aLen_cons (aLen_cons aLen_nil))) (fun _ _ => rfl) (fun _ _ => rfl))))
abbrev s_l_alike : Stmt := top 22
theorem sc_l_alike : FnScope ["found", "due"] ["found", "due"] (defScope s_l_alike) := ⟨rfl, rfl, rfl, by decide +kernel, rfl, by decide +kernel, by decide +kernel⟩
theorem g_l_alike (F : Fun K "_law_alike" "_law_alike" s_l_alike f fd) (z_repr : mg "repr" = none) : FnG P w K mg base L2.CX0 1 f fd ["found", "due"] (spF ⟨K, w, mg, τ⟩ 2 F_l_alike) :=
  fn_d F sc_l_alike fun cdv A outer s H E hG hr => (S_one (S_ret (L_and (L_cmp (O_eq (u64 hr)) (L_var 0) (L_var 1) (by first | exact nomark _ | rfl)) (L_one (L_cmp (O_eq (u64 hr)) (L_callB (B_repr hG (u70 hr)) rfl z_repr rfl (A_cons (L_var 0) A_nil)) (L_callB (B_repr hG (u70 hr)) rfl z_repr rfl (A_cons (L_var 1) A_nil)) (by first | exact nomark _ | rfl))))))
abbrev s_l_entry : Stmt := top 23
theorem sc_l_entry : FnScope ["machine", "point", "deed"] ["machine", "point", "deed"] (defScope s_l_entry) := ⟨rfl, rfl, rfl, by decide +kernel, rfl, by decide +kernel, by decide +kernel⟩
theorem g_l_entry (F : Fun K "_law_entry" "_law_entry" s_l_entry f fd) : FnG P w K mg base L2.CX0 1 f fd ["machine", "point", "deed"] (spF ⟨K, w, mg, τ⟩ 3 F_l_entry) :=
  fn_d F sc_l_entry fun cdv A outer s H E hG hr => (S_one (S_ret (L_ixA (Rm.of hr) (L_ixA (Rm.of hr) (L_ixA (Rm.of hr) (L_var 0) L_int (fun _ _ => rfl) (fun _ _ => rfl)) (L_var 1) (fun _ _ => rfl) (fun _ _ => rfl)) (L_op O_sub (L_var 2) L_int) (fun _ _ => rfl) (fun _ _ => rfl))))
abbrev s_l_done_by : Stmt := top 24
theorem sc_l_done_by : FnScope ["machine", "figure", "deed", "now", "entry", "k"] ["machine", "figure", "deed", "now"] (defScope s_l_done_by) := ⟨rfl, rfl, rfl, by decide +kernel, rfl, by decide +kernel, by decide +kernel⟩
theorem g_l_done_by (F : Fun K "_law_done_by" "_law_done_by" s_l_done_by f fd) {f_l_entry : Addr} {fd_l_entry : FuncData} (G_l_entry : FnG P w K mg base L2.CX0 1 f_l_entry fd_l_entry ["machine", "point", "deed"] (spF ⟨K, w, mg, τ⟩ 3 F_l_entry)) (i_l_entry : mg "_law_entry" = some (.ref f_l_entry)) (k_l_entry : PySem.W.keepIn K (.ref f_l_entry) = true) (b_l_entry : Binds K fd_l_entry ["machine", "point", "deed"] []) (z_tuple : mg "tuple" = none) : FnG P w K mg base L2.CX0 2 f fd ["machine", "figure", "deed", "now"] (spF ⟨K, w, mg, τ⟩ 4 F_l_done_by) :=
  fn_d F sc_l_done_by fun cdv A outer s H E hG hr => (S_cons (S_set (i := 4) sc_l_done_by.nd rfl (by first | exact .inl rfl | exact .inr rfl) (L_call hG G_l_entry (hr.mono (by decide)) rfl i_l_entry k_l_entry b_l_entry rfl rfl (A_cons (L_var 0) (A_cons (L_ixA (Rm.of hr) (L_var 1) L_int (fun _ _ => rfl) (fun _ _ => rfl)) (A_cons (L_var 2) A_nil))) (aLen_cons (aLen_cons (aLen_cons aLen_nil))))) (S_cons (S_if (T_cmp O_isN (L_var 4) L_non (by first | exact nomark _ | rfl)) (S_one (S_ret L_non)) S_nil) (S_one (S_ret (L_tup (A_cons (L_ixA (Rm.of hr) (L_var 4) L_int (fun _ _ => rfl) (fun _ _ => rfl)) (A_cons (L_callTy B_tuple rfl z_tuple rfl (A_cons (L_comp (ws := [5]) (own := [("k", 5)]) rfl sc_l_done_by.nd (I_seq (L_ixA (Rm.of hr) (L_var 4) L_int (fun _ _ => rfl) (fun _ _ => rfl))) (blk_mk rfl) (fun _ _ _ _ _ => (G_name sc_l_done_by.nd rfl (by first | exact .inl rfl | exact .inr rfl))) (fun _ _ _ _ _ => Pts_nil) (fun _ _ _ _ _ => (L_if (T_cmp O_lt (L_var 5) L_int (by first | exact nomark _ | rfl)) (L_var 3) (L_ixA (Rm.of hr) (L_ixA (Rm.of hr) (L_var 1) L_int (fun _ _ => rfl) (fun _ _ => rfl)) (L_var 5) (fun _ _ => rfl) (fun _ _ => rfl))))) A_nil)) A_nil)))))))
abbrev s_l_led : Stmt := top 25
theorem sc_l_led : FnScope ["machine", "figures", "run", "now", "there", "k", "deed", "thing", "figure"] ["machine", "figures", "run", "now"] (defScope s_l_led) := ⟨rfl, rfl, rfl, by decide +kernel, rfl, by decide +kernel, by decide +kernel⟩
theorem g_l_led (F : Fun K "_law_led" "_law_led" s_l_led f fd) {f_l_done_by : Addr} {fd_l_done_by : FuncData} (G_l_done_by : FnG P w K mg base L2.CX0 2 f_l_done_by fd_l_done_by ["machine", "figure", "deed", "now"] (spF ⟨K, w, mg, τ⟩ 4 F_l_done_by)) (i_l_done_by : mg "_law_done_by" = some (.ref f_l_done_by)) (k_l_done_by : PySem.W.keepIn K (.ref f_l_done_by) = true) (b_l_done_by : Binds K fd_l_done_by ["machine", "figure", "deed", "now"] []) (z_list : mg "list" = none) (z_sorted : mg "sorted" = none) (z_len : mg "len" = none) (z_range : mg "range" = none) (z_dict : mg "dict" = none) : FnG P w K mg base L2.CX0 3 f fd ["machine", "figures", "run", "now"] (spF ⟨K, w, mg, τ⟩ 4 F_l_led) :=
  fn_d F sc_l_led fun cdv A outer s H E hG hr => (S_cons (S_set (i := 4) sc_l_led.nd rfl (by first | exact .inl rfl | exact .inr rfl) (L_callTy (B_dict rfl (Rm.of hr)) rfl z_dict rfl (A_cons (L_var 1) A_nil))) (S_cons (S_for (ws := [5]) PassesOwn.never rfl (I_rng1 rfl z_range (L_callB B_len rfl z_len rfl (A_cons (L_var 2) A_nil))) (G_name sc_l_led.nd rfl (by first | exact .inl rfl | exact .inr rfl)) (S_cons (S_asg (vs := ([6] ++ ([7] ++ []))) (L_ixA (Rm.of hr) (L_var 2) (L_var 5) (fun _ _ => rfl) (fun _ _ => rfl)) (G_tup rfl (Gs_cons (G_name sc_l_led.nd rfl (by first | exact .inl rfl | exact .inr rfl)) (Gs_cons (G_name sc_l_led.nd rfl (by first | exact .inl rfl | exact .inr rfl)) Gs_nil)))) (S_cons (S_if (T_cmp (O_eq (u64 hr)) (L_cmp (O_eq (u64 hr)) (L_var 6) L_int (by first | exact nomark _ | rfl)) (L_cmp (O_in (u70 hr)) (L_var 7) (L_var 4) (by first | exact nomark _ | rfl)) (by first | exact nomark _ | rfl)) (S_one (S_ret (L_var 5))) S_nil) (S_one (S_if (T_cmp (O_eq (u64 hr)) (L_var 6) L_int (by first | exact nomark _ | rfl)) (S_one (S_asg (vs := []) (L_tup (A_cons (L_ixA (Rm.of hr) (L_ixA (Rm.of hr) (L_var 0) L_int (fun _ _ => rfl) (fun _ _ => rfl)) (L_ixA (Rm.of hr) (L_var 7) L_int (fun _ _ => rfl) (fun _ _ => rfl)) (fun _ _ => rfl) (fun _ _ => rfl)) (A_cons (L_tup (A_cons (L_op O_add (L_var 3) (L_var 5)) A_nil)) A_nil))) (G_subA (Rm.of hr) (L_var 4) (L_var 7)))) (S_one (S_if (T_cmp O_lt (L_var 6) L_int (by first | exact nomark _ | rfl)) (S_one (S_expr (L_popA (Rm.of hr) (L_var 4) (L_var 7) ⟨rfl, rfl, rfl, rfl⟩ (pe_bm PySem.F.plainAttrs_list PySem.F.slot_list_pop PySem.F.type_list_pop M_pop (L_var 4) (A_cons (L_var 7) A_nil))))) (S_cons (S_set (i := 8) sc_l_led.nd rfl (by first | exact .inl rfl | exact .inr rfl) (L_call hG G_l_done_by (hr.mono (by decide)) rfl i_l_done_by k_l_done_by b_l_done_by rfl rfl (A_cons (L_var 0) (A_cons (L_ixA (Rm.of hr) (L_var 4) (L_var 7) (fun _ _ => rfl) (fun _ _ => rfl)) (A_cons (L_var 6) (A_cons (L_op O_add (L_var 3) (L_var 5)) A_nil)))) (aLen_cons (aLen_cons (aLen_cons (aLen_cons aLen_nil)))))) (S_cons (S_if (T_cmp O_isN (L_var 8) L_non (by first | exact nomark _ | rfl)) (S_one (S_ret (L_var 5))) S_nil) (S_one (S_asg (vs := []) (L_var 8) (G_subA (Rm.of hr) (L_var 4) (L_var 7))))))))))))) (S_one (S_ret (L_comp (ws := [7]) (own := [("thing", 7)]) rfl sc_l_led.nd (I_seq (L_callB (B_sorted rfl (Rm.of hr)) rfl z_sorted rfl (A_cons (L_callTy (B_listA rfl) rfl z_list rfl (A_cons (L_var 4) A_nil)) A_nil))) (blk_mk rfl) (fun _ _ _ _ _ => (G_name sc_l_led.nd rfl (by first | exact .inl rfl | exact .inr rfl))) (fun _ _ _ _ _ => Pts_nil) (fun _ _ _ _ _ => (L_tup (A_cons (L_var 7) (A_cons (L_ixA (Rm.of hr) (L_var 4) (L_var 7) (fun _ _ => rfl) (fun _ _ => rfl)) A_nil)))))))))
abbrev s_l_barred_at : Stmt := top 26
theorem sc_l_barred_at : FnScope ["machine", "run", "found"] ["machine", "run"] (defScope s_l_barred_at) := ⟨rfl, rfl, rfl, by decide +kernel, rfl, by decide +kernel, by decide +kernel⟩
theorem g_l_barred_at (F : Fun K "_law_barred_at" "_law_barred_at" s_l_barred_at f fd) {f_l_led : Addr} {fd_l_led : FuncData} (G_l_led : FnG P w K mg base L2.CX0 3 f_l_led fd_l_led ["machine", "figures", "run", "now"] (spF ⟨K, w, mg, τ⟩ 4 F_l_led)) (i_l_led : mg "_law_led" = some (.ref f_l_led)) (k_l_led : PySem.W.keepIn K (.ref f_l_led) = true) (b_l_led : Binds K fd_l_led ["machine", "figures", "run", "now"] []) (z_int : mg "int" = none) (z_isinstance : mg "isinstance" = none) : FnG P w K mg base L2.CX0 4 f fd ["machine", "run"] (spF ⟨K, w, mg, τ⟩ 2 F_l_barred_at) :=
  fn_d F sc_l_barred_at fun cdv A outer s H E hG hr => (S_cons (S_set (i := 2) sc_l_barred_at.nd rfl (by first | exact .inl rfl | exact .inr rfl) (L_call hG G_l_led (hr.mono (by decide)) rfl i_l_led k_l_led b_l_led rfl rfl (A_cons (L_var 0) (A_cons (L_lst A_nil) (A_cons (L_var 1) (A_cons L_int A_nil)))) (aLen_cons (aLen_cons (aLen_cons (aLen_cons aLen_nil)))))) (S_one (S_ret (L_if (T_val (L_callB B_isi rfl z_isinstance rfl (A_cons (L_var 2) (A_cons (L_bty rfl z_int rfl) A_nil)))) (L_var 2) L_non))))
abbrev s_l_figures : Stmt := top 27
theorem sc_l_figures : FnScope ["machine", "run"] ["machine", "run"] (defScope s_l_figures) := ⟨rfl, rfl, rfl, by decide +kernel, rfl, by decide +kernel, by decide +kernel⟩
theorem g_l_figures (F : Fun K "_law_figures" "_law_figures" s_l_figures f fd) {f_l_led : Addr} {fd_l_led : FuncData} (G_l_led : FnG P w K mg base L2.CX0 3 f_l_led fd_l_led ["machine", "figures", "run", "now"] (spF ⟨K, w, mg, τ⟩ 4 F_l_led)) (i_l_led : mg "_law_led" = some (.ref f_l_led)) (k_l_led : PySem.W.keepIn K (.ref f_l_led) = true) (b_l_led : Binds K fd_l_led ["machine", "figures", "run", "now"] []) : FnG P w K mg base L2.CX0 4 f fd ["machine", "run"] (spF ⟨K, w, mg, τ⟩ 2 F_l_figures) :=
  fn_d F sc_l_figures fun cdv A outer s H E hG hr => (S_one (S_ret (L_call hG G_l_led (hr.mono (by decide)) rfl i_l_led k_l_led b_l_led rfl rfl (A_cons (L_var 0) (A_cons (L_lst A_nil) (A_cons (L_var 1) (A_cons L_int A_nil)))) (aLen_cons (aLen_cons (aLen_cons (aLen_cons aLen_nil)))))))
abbrev s_l_key : Stmt := top 28
theorem sc_l_key : FnScope ["machine", "row", "figure", "rank", "way", "at"] ["machine", "row", "figure"] (defScope s_l_key) := ⟨rfl, rfl, rfl, by decide +kernel, rfl, by decide +kernel, by decide +kernel⟩
theorem g_l_key (F : Fun K "_law_key" "_law_key" s_l_key f fd) : FnG P w K mg base L2.CX0 1 f fd ["machine", "row", "figure"] (spF ⟨K, w, mg, τ⟩ 3 F_l_key) :=
  fn_d F sc_l_key fun cdv A outer s H E hG hr => (S_cons (S_asg (vs := ([3] ++ ([4] ++ ([5] ++ [])))) (L_ixA (Rm.of hr) (L_ixA (Rm.of hr) (L_ixA (Rm.of hr) (L_ixA (Rm.of hr) (L_var 0) L_int (fun _ _ => rfl) (fun _ _ => rfl)) (L_ixA (Rm.of hr) (L_var 2) L_int (fun _ _ => rfl) (fun _ _ => rfl)) (fun _ _ => rfl) (fun _ _ => rfl)) L_int (fun _ _ => rfl) (fun _ _ => rfl)) (L_var 1) (fun _ _ => rfl) (fun _ _ => rfl)) (G_tup rfl (Gs_cons (G_name sc_l_key.nd rfl (by first | exact .inl rfl | exact .inr rfl)) (Gs_cons (G_name sc_l_key.nd rfl (by first | exact .inl rfl | exact .inr rfl)) (Gs_cons (G_name sc_l_key.nd rfl (by first | exact .inl rfl | exact .inr rfl)) Gs_nil))))) (S_one (S_ret (L_tup (A_cons (L_var 3) (A_cons (L_if (T_cmp (O_eq (u64 hr)) (L_var 4) L_str (by first | exact nomark _ | rfl)) (L_op O_sub L_int (L_ixA (Rm.of hr) (L_ixA (Rm.of hr) (L_var 2) L_int (fun _ _ => rfl) (fun _ _ => rfl)) (L_var 5) (fun _ _ => rfl) (fun _ _ => rfl))) (L_ixA (Rm.of hr) (L_ixA (Rm.of hr) (L_var 2) L_int (fun _ _ => rfl) (fun _ _ => rfl)) (L_var 5) (fun _ _ => rfl) (fun _ _ => rfl))) A_nil))))))
abbrev s_l_ahead : Stmt := top 29
theorem sc_l_ahead : FnScope ["machine", "row", "one", "other"] ["machine", "row", "one", "other"] (defScope s_l_ahead) := ⟨rfl, rfl, rfl, by decide +kernel, rfl, by decide +kernel, by decide +kernel⟩
theorem g_l_ahead (F : Fun K "_law_ahead" "_law_ahead" s_l_ahead f fd) {f_l_key : Addr} {fd_l_key : FuncData} (G_l_key : FnG P w K mg base L2.CX0 1 f_l_key fd_l_key ["machine", "row", "figure"] (spF ⟨K, w, mg, τ⟩ 3 F_l_key)) (i_l_key : mg "_law_key" = some (.ref f_l_key)) (k_l_key : PySem.W.keepIn K (.ref f_l_key) = true) (b_l_key : Binds K fd_l_key ["machine", "row", "figure"] []) : FnG P w K mg base L2.CX0 2 f fd ["machine", "row", "one", "other"] (spF ⟨K, w, mg, τ⟩ 4 F_l_ahead) :=
  fn_d F sc_l_ahead fun cdv A outer s H E hG hr => (S_one (S_ret (L_cmp (O_ltA (Nat.lt_of_le_of_lt (Nat.le_add_right _ 64) (u64 hr))) (L_call hG G_l_key (hr.mono (by decide)) rfl i_l_key k_l_key b_l_key rfl rfl (A_cons (L_var 0) (A_cons (L_var 1) (A_cons (L_var 2) A_nil))) (aLen_cons (aLen_cons (aLen_cons aLen_nil)))) (L_call hG G_l_key (hr.mono (by decide)) rfl i_l_key k_l_key b_l_key rfl rfl (A_cons (L_var 0) (A_cons (L_var 1) (A_cons (L_var 3) A_nil))) (aLen_cons (aLen_cons (aLen_cons aLen_nil)))) (by first | exact nomark _ | rfl))))
abbrev s_l_row : Stmt := top 30
theorem sc_l_row : FnScope ["machine", "row", "figures", "pair", "one"] ["machine", "row", "figures"] (defScope s_l_row) := ⟨rfl, rfl, rfl, by decide +kernel, rfl, by decide +kernel, by decide +kernel⟩
theorem g_l_row (F : Fun K "_law_row" "_law_row" s_l_row f fd) {f_l_key : Addr} {fd_l_key : FuncData} (G_l_key : FnG P w K mg base L2.CX0 1 f_l_key fd_l_key ["machine", "row", "figure"] (spF ⟨K, w, mg, τ⟩ 3 F_l_key)) (i_l_key : mg "_law_key" = some (.ref f_l_key)) (k_l_key : PySem.W.keepIn K (.ref f_l_key) = true) (b_l_key : Binds K fd_l_key ["machine", "row", "figure"] []) (z_sorted : mg "sorted" = none) : FnG P w K mg base L2.CX0 2 f fd ["machine", "row", "figures"] (spF ⟨K, w, mg, τ⟩ 3 F_l_row) :=
  fn_d F sc_l_row fun cdv A outer s H E hG hr => (S_one (S_ret (L_comp (ws := [3]) (own := [("pair", 3)]) rfl sc_l_row.nd (I_seq (L_callB (B_sorted rfl (Rm.of hr)) rfl z_sorted rfl (A_cons (L_comp (ws := [4]) (own := [("one", 4)]) rfl sc_l_row.nd (I_seq (L_var 2)) (blk_mk rfl) (fun _ _ _ _ _ => (G_name sc_l_row.nd rfl (by first | exact .inl rfl | exact .inr rfl))) (fun _ _ _ _ _ => Pts_nil) (fun _ _ _ _ _ => (L_tup (A_cons (L_call hG G_l_key (hr.mono (by decide)) rfl i_l_key k_l_key b_l_key rfl rfl (A_cons (L_var 0) (A_cons (L_var 1) (A_cons (L_ixA (Rm.of hr) (L_var 4) L_int (fun _ _ => rfl) (fun _ _ => rfl)) A_nil))) (aLen_cons (aLen_cons (aLen_cons aLen_nil)))) (A_cons (L_ixA (Rm.of hr) (L_var 4) L_int (fun _ _ => rfl) (fun _ _ => rfl)) A_nil))))) A_nil))) (blk_mk rfl) (fun _ _ _ _ _ => (G_name sc_l_row.nd rfl (by first | exact .inl rfl | exact .inr rfl))) (fun _ _ _ _ _ => Pts_nil) (fun _ _ _ _ _ => (L_ixA (Rm.of hr) (L_var 3) L_int (fun _ _ => rfl) (fun _ _ => rfl))))))
abbrev s_l_of_row : Stmt := top 31
theorem sc_l_of_row : FnScope ["machine", "row", "points", "point"] ["machine", "row"] (defScope s_l_of_row) := ⟨rfl, rfl, rfl, by decide +kernel, rfl, by decide +kernel, by decide +kernel⟩
theorem g_l_of_row (F : Fun K "_law_of_row" "_law_of_row" s_l_of_row f fd) (z_tuple : mg "tuple" = none) : FnG P w K mg base L2.CX0 1 f fd ["machine", "row"] (spF ⟨K, w, mg, τ⟩ 2 F_l_of_row) :=
  fn_d F sc_l_of_row fun cdv A outer s H E hG hr => (S_cons (S_set (i := 2) sc_l_of_row.nd rfl (by first | exact .inl rfl | exact .inr rfl) (L_callTy B_tuple rfl z_tuple rfl (A_cons (L_comp (ws := [3]) (own := [("point", 3)]) rfl sc_l_of_row.nd (I_seq (L_ixA (Rm.of hr) (L_var 0) L_int (fun _ _ => rfl) (fun _ _ => rfl))) (blk_mk rfl) (fun _ _ _ _ _ => (G_name sc_l_of_row.nd rfl (by first | exact .inl rfl | exact .inr rfl))) (fun _ _ _ _ _ => Pts_nil) (fun _ _ _ _ _ => (L_tup (A_cons (L_tup (A_cons (L_ixA (Rm.of hr) (L_ixA (Rm.of hr) (L_var 3) L_int (fun _ _ => rfl) (fun _ _ => rfl)) (L_var 1) (fun _ _ => rfl) (fun _ _ => rfl)) A_nil)) (A_cons (L_ixA (Rm.of hr) (L_var 3) L_int (fun _ _ => rfl) (fun _ _ => rfl)) (A_cons (L_tup A_nil) A_nil)))))) A_nil))) (S_one (S_ret (L_tup (A_cons (L_ixA (Rm.of hr) (L_var 0) L_int (fun _ _ => rfl) (fun _ _ => rfl)) (A_cons (L_var 2) (A_cons (L_ixA (Rm.of hr) (L_var 0) L_int (fun _ _ => rfl) (fun _ _ => rfl)) A_nil)))))))
abbrev s_l_labelled : Stmt := top 32
theorem sc_l_labelled : FnScope ["machine", "kind", "many", "points", "led", "p", "entry"] ["machine"] (defScope s_l_labelled) := ⟨rfl, rfl, rfl, by decide +kernel, rfl, by decide +kernel, by decide +kernel⟩
theorem g_l_labelled (F : Fun K "_law_labelled" "_law_labelled" s_l_labelled f fd) (z_tuple : mg "tuple" = none) (z_len : mg "len" = none) (z_range : mg "range" = none) : FnG P w K mg base L2.CX0 1 f fd ["machine"] (spF ⟨K, w, mg, τ⟩ 1 F_l_labelled) :=
  fn_d F sc_l_labelled fun cdv A outer s H E hG hr => (S_cons (S_asg (vs := ([2] ++ ([3] ++ ([4] ++ [])))) (L_tup (A_cons (L_callB B_len rfl z_len rfl (A_cons (L_ixA (Rm.of hr) (L_var 0) L_int (fun _ _ => rfl) (fun _ _ => rfl)) A_nil)) (A_cons (L_lst A_nil) (A_cons (L_lst A_nil) A_nil)))) (G_tup rfl (Gs_cons (G_name sc_l_labelled.nd rfl (by first | exact .inl rfl | exact .inr rfl)) (Gs_cons (G_name sc_l_labelled.nd rfl (by first | exact .inl rfl | exact .inr rfl)) (Gs_cons (G_name sc_l_labelled.nd rfl (by first | exact .inl rfl | exact .inr rfl)) Gs_nil))))) (S_cons (S_for (ws := [1]) PassesOwn.never rfl (I_rng1 rfl z_range (L_callB B_len rfl z_len rfl (A_cons (L_ixA (Rm.of hr) (L_var 0) L_int (fun _ _ => rfl) (fun _ _ => rfl)) A_nil))) (G_name sc_l_labelled.nd rfl (by first | exact .inl rfl | exact .inr rfl)) (S_one (S_for (ws := [5]) PassesOwn.never rfl (I_rng1 rfl z_range (L_var 2)) (G_name sc_l_labelled.nd rfl (by first | exact .inl rfl | exact .inr rfl)) (S_cons (S_expr (L_append (pl := pure true) (L_var 3) (A_cons (L_tup (A_cons (L_ixA (Rm.of hr) (L_ixA (Rm.of hr) (L_ixA (Rm.of hr) (L_var 0) L_int (fun _ _ => rfl) (fun _ _ => rfl)) (L_var 5) (fun _ _ => rfl) (fun _ _ => rfl)) L_int (fun _ _ => rfl) (fun _ _ => rfl)) (A_cons (L_ixA (Rm.of hr) (L_ixA (Rm.of hr) (L_ixA (Rm.of hr) (L_var 0) L_int (fun _ _ => rfl) (fun _ _ => rfl)) (L_var 5) (fun _ _ => rfl) (fun _ _ => rfl)) L_int (fun _ _ => rfl) (fun _ _ => rfl)) (A_cons (L_tup (A_cons (L_var 1) (A_cons (L_var 5) A_nil))) A_nil)))) A_nil) (pe_bm PySem.F.plainAttrs_list PySem.F.slot_list_append PySem.F.type_list_append M_append (L_var 3) (A_cons (L_tup (A_cons (L_ixA (Rm.of hr) (L_ixA (Rm.of hr) (L_ixA (Rm.of hr) (L_var 0) L_int (fun _ _ => rfl) (fun _ _ => rfl)) (L_var 5) (fun _ _ => rfl) (fun _ _ => rfl)) L_int (fun _ _ => rfl) (fun _ _ => rfl)) (A_cons (L_ixA (Rm.of hr) (L_ixA (Rm.of hr) (L_ixA (Rm.of hr) (L_var 0) L_int (fun _ _ => rfl) (fun _ _ => rfl)) (L_var 5) (fun _ _ => rfl) (fun _ _ => rfl)) L_int (fun _ _ => rfl) (fun _ _ => rfl)) (A_cons (L_tup (A_cons (L_var 1) (A_cons (L_var 5) A_nil))) A_nil)))) A_nil)))) (S_one (S_expr (L_append (pl := pure true) (L_var 4) (A_cons (L_callTy B_tuple rfl z_tuple rfl (A_cons (L_comp (ws := [6]) (own := [("entry", 6)]) rfl sc_l_labelled.nd (I_seq (L_ixA (Rm.of hr) (L_ixA (Rm.of hr) (L_var 0) L_int (fun _ _ => rfl) (fun _ _ => rfl)) (L_var 5) (fun _ _ => rfl) (fun _ _ => rfl))) (blk_mk rfl) (fun _ _ _ _ _ => (G_name sc_l_labelled.nd rfl (by first | exact .inl rfl | exact .inr rfl))) (fun _ _ _ _ _ => Pts_nil) (fun _ _ _ _ _ => (L_if (T_cmp O_isN (L_var 6) L_non (by first | exact nomark _ | rfl)) (L_var 6) (L_tup (A_cons (L_op O_add (L_op O_mulA (L_var 1) (L_var 2)) (L_ixA (Rm.of hr) (L_var 6) L_int (fun _ _ => rfl) (fun _ _ => rfl))) (A_cons (L_ixA (Rm.of hr) (L_var 6) L_int (fun _ _ => rfl) (fun _ _ => rfl)) A_nil)))))) A_nil)) A_nil) (pe_bm PySem.F.plainAttrs_list PySem.F.slot_list_append PySem.F.type_list_append M_append (L_var 4) (A_cons (L_callTy B_tuple rfl z_tuple rfl (A_cons (L_comp (ws := [6]) (own := [("entry", 6)]) rfl sc_l_labelled.nd (I_seq (L_ixA (Rm.of hr) (L_ixA (Rm.of hr) (L_var 0) L_int (fun _ _ => rfl) (fun _ _ => rfl)) (L_var 5) (fun _ _ => rfl) (fun _ _ => rfl))) (blk_mk rfl) (fun _ _ _ _ _ => (G_name sc_l_labelled.nd rfl (by first | exact .inl rfl | exact .inr rfl))) (fun _ _ _ _ _ => Pts_nil) (fun _ _ _ _ _ => (L_if (T_cmp O_isN (L_var 6) L_non (by first | exact nomark _ | rfl)) (L_var 6) (L_tup (A_cons (L_op O_add (L_op O_mulA (L_var 1) (L_var 2)) (L_ixA (Rm.of hr) (L_var 6) L_int (fun _ _ => rfl) (fun _ _ => rfl))) (A_cons (L_ixA (Rm.of hr) (L_var 6) L_int (fun _ _ => rfl) (fun _ _ => rfl)) A_nil)))))) A_nil)) A_nil))))))))) (S_one (S_ret (L_tup (A_cons (L_callTy B_tuple rfl z_tuple rfl (A_cons (L_comp (ws := [1]) (own := [("kind", 1)]) rfl sc_l_labelled.nd (I_rng1 rfl z_range (L_callB B_len rfl z_len rfl (A_cons (L_ixA (Rm.of hr) (L_var 0) L_int (fun _ _ => rfl) (fun _ _ => rfl)) A_nil))) (blk_mk rfl) (fun _ _ _ _ _ => (G_name sc_l_labelled.nd rfl (by first | exact .inl rfl | exact .inr rfl))) (fun _ _ _ _ _ => Pts_nil) (fun _ _ _ _ _ => (L_op O_add (L_op O_mulA (L_var 1) (L_var 2)) (L_ixA (Rm.of hr) (L_ixA (Rm.of hr) (L_var 0) L_int (fun _ _ => rfl) (fun _ _ => rfl)) (L_var 1) (fun _ _ => rfl) (fun _ _ => rfl))))) A_nil)) (A_cons (L_callTy B_tuple rfl z_tuple rfl (A_cons (L_var 3) A_nil)) (A_cons (L_callTy B_tuple rfl z_tuple rfl (A_cons (L_var 4) A_nil)) A_nil))))))))
abbrev s_l_move : Stmt := top 33
theorem sc_l_move : FnScope ["bag", "lives", "p", "q", "k", "old", "kept"] ["bag", "lives", "p"] (defScope s_l_move) := ⟨rfl, rfl, rfl, by decide +kernel, rfl, by decide +kernel, by decide +kernel⟩
theorem g_l_move (F : Fun K "_law_move" "_law_move" s_l_move f fd) {f_l_take : Addr} {fd_l_take : FuncData} (G_l_take : FnG P w K mg base L2.CX0 1 f_l_take fd_l_take ["bag", "upto"] (spF ⟨K, w, mg, τ⟩ 2 F_l_take)) (i_l_take : mg "_law_take" = some (.ref f_l_take)) (k_l_take : PySem.W.keepIn K (.ref f_l_take) = true) (b_l_take : Binds K fd_l_take ["bag", "upto"] []) {f_l_some : Addr} {fd_l_some : FuncData} (G_l_some : FnG P w K mg base L2.CX0 2 f_l_some fd_l_some ["bag", "things"] (spF ⟨K, w, mg, τ⟩ 2 F_l_some)) (i_l_some : mg "_law_some" = some (.ref f_l_some)) (k_l_some : PySem.W.keepIn K (.ref f_l_some) = true) (b_l_some : Binds K fd_l_some ["bag", "things"] []) (z_tuple : mg "tuple" = none) (z_range : mg "range" = none) (z_len : mg "len" = none) (z_list : mg "list" = none) : FnG P w K mg base L2.CX0 3 f fd ["bag", "lives", "p"] (spF ⟨K, w, mg, τ⟩ 3 F_l_move) :=
  fn_d F sc_l_move fun cdv A outer s H E hG hr => (S_cons (S_if (T_cmp (O_eq (u64 hr)) (L_call hG G_l_take (hr.mono (by decide)) rfl i_l_take k_l_take b_l_take rfl rfl (A_cons (L_var 0) (A_cons L_int A_nil)) (aLen_cons (aLen_cons aLen_nil))) L_int (by first | exact nomark _ | rfl)) (S_one (S_ret L_non)) S_nil) (S_cons (S_set (i := 3) sc_l_move.nd rfl (by first | exact .inl rfl | exact .inr rfl) (L_call hG G_l_some (hr.mono (by decide)) rfl i_l_some k_l_some b_l_some rfl rfl (A_cons (L_var 0) (A_cons (L_comp (ws := [4]) (own := [("k", 4)]) rfl sc_l_move.nd (I_rng1 rfl z_range (L_callB B_len rfl z_len rfl (A_cons (L_var 1) A_nil))) (blk_mk rfl) (fun _ _ _ _ _ => (G_name sc_l_move.nd rfl (by first | exact .inl rfl | exact .inr rfl))) (fun _ _ _ _ _ => (Pts_one (T_cmp O_le (L_ixA (Rm.of hr) (L_var 1) (L_var 4) (fun _ _ => rfl) (fun _ _ => rfl)) (L_op O_add (L_ixA (Rm.of hr) (L_var 1) (L_var 2) (fun _ _ => rfl) (fun _ _ => rfl)) L_int) (by first | exact nomark _ | rfl)))) (fun _ _ _ _ _ => (L_var 4))) A_nil)) (aLen_cons (aLen_cons aLen_nil)))) (S_cons (S_par (i := 5) (j := 6) rfl sc_l_move.nd rfl rfl (by decide) rfl rfl (A_cons (L_listRg1 rfl rfl z_list rfl z_range (L_ixA (Rm.of hr) (L_var 1) (L_var 2) (fun _ _ => rfl) (fun _ _ => rfl))) (A_cons (L_op O_sub (L_ixA (Rm.of hr) (L_var 1) (L_var 3) (fun _ _ => rfl) (fun _ _ => rfl)) L_int) A_nil)) rfl) (S_cons (S_if (PW.pt (W_and (T_cmp O_le (L_ixA (Rm.of hr) (L_var 1) (L_var 3) (fun _ _ => rfl) (fun _ _ => rfl)) (L_ixA (Rm.of hr) (L_var 1) (L_var 2) (fun _ _ => rfl) (fun _ _ => rfl)) (by first | exact nomark _ | rfl)) (pw_and1 (T_cmp (O_eq (u64 hr)) (L_call hG G_l_take (hr.mono (by decide)) rfl i_l_take k_l_take b_l_take rfl rfl (A_cons (L_var 0) (A_cons L_int A_nil)) (aLen_cons (aLen_cons aLen_nil))) L_int (by first | exact nomark _ | rfl))))) (S_one (S_set (i := 6) sc_l_move.nd rfl (by first | exact .inl rfl | exact .inr rfl) (L_ixA (Rm.of hr) (L_var 1) (L_var 3) (fun _ _ => rfl) (fun _ _ => rfl)))) S_nil) (S_cons (S_for (ws := [4]) PassesOwn.never rfl (I_rng1 rfl z_range (L_op O_sub (L_ixA (Rm.of hr) (L_var 1) (L_var 2) (fun _ _ => rfl) (fun _ _ => rfl)) (L_var 6))) (G_name sc_l_move.nd rfl (by first | exact .inl rfl | exact .inr rfl)) (S_one (S_expr (L_popA (Rm.of hr) (L_var 5) (L_call hG G_l_take (hr.mono (by decide)) rfl i_l_take k_l_take b_l_take rfl rfl (A_cons (L_var 0) (A_cons (L_callB B_len rfl z_len rfl (A_cons (L_var 5) A_nil)) A_nil)) (aLen_cons (aLen_cons aLen_nil))) ⟨rfl, rfl, rfl, rfl⟩ (pe_bm PySem.F.plainAttrs_list PySem.F.slot_list_pop PySem.F.type_list_pop M_pop (L_var 5) (A_cons (L_call hG G_l_take (hr.mono (by decide)) rfl i_l_take k_l_take b_l_take rfl rfl (A_cons (L_var 0) (A_cons (L_callB B_len rfl z_len rfl (A_cons (L_var 5) A_nil)) A_nil)) (aLen_cons (aLen_cons aLen_nil))) A_nil)))))) (S_one (S_ret (L_tup (A_cons (L_var 3) (A_cons (L_op O_add (L_callTy B_tuple rfl z_tuple rfl (A_cons (L_var 5) A_nil)) (L_op O_mulA (L_tup (A_cons (L_un U_neg L_int) A_nil)) (L_op O_sub (L_ixA (Rm.of hr) (L_var 1) (L_var 3) (fun _ _ => rfl) (fun _ _ => rfl)) (L_var 6)))) A_nil))))))))))
abbrev s_l_stances : Stmt := top 34
theorem sc_l_stances : FnScope ["bag", "lives", "rows", "found", "r", "ways", "p", "one", "rank", "own", "k"] ["bag", "lives", "rows"] (defScope s_l_stances) := ⟨rfl, rfl, rfl, by decide +kernel, rfl, by decide +kernel, by decide +kernel⟩
theorem g_l_stances (F : Fun K "_law_stances" "_law_stances" s_l_stances f fd) {f_l_take : Addr} {fd_l_take : FuncData} (G_l_take : FnG P w K mg base L2.CX0 1 f_l_take fd_l_take ["bag", "upto"] (spF ⟨K, w, mg, τ⟩ 2 F_l_take)) (i_l_take : mg "_law_take" = some (.ref f_l_take)) (k_l_take : PySem.W.keepIn K (.ref f_l_take) = true) (b_l_take : Binds K fd_l_take ["bag", "upto"] []) {f_l_some : Addr} {fd_l_some : FuncData} (G_l_some : FnG P w K mg base L2.CX0 2 f_l_some fd_l_some ["bag", "things"] (spF ⟨K, w, mg, τ⟩ 2 F_l_some)) (i_l_some : mg "_law_some" = some (.ref f_l_some)) (k_l_some : PySem.W.keepIn K (.ref f_l_some) = true) (b_l_some : Binds K fd_l_some ["bag", "things"] []) (z_range : mg "range" = none) (z_len : mg "len" = none) : FnG P w K mg base L2.CX0 3 f fd ["bag", "lives", "rows"] (spF ⟨K, w, mg, τ⟩ 3 F_l_stances) :=
  fn_d F sc_l_stances fun cdv A outer s H E hG hr => (S_cons (S_setComp (ws := [7]) (own := [("one", 7)]) rfl sc_l_stances.nd rfl rfl rfl (I_seq (L_var 1)) (blk_mk rfl) (fun _ _ _ _ _ => (G_name sc_l_stances.nd rfl (by first | exact .inl rfl | exact .inr rfl))) (fun _ _ _ _ _ => Pts_nil) (fun _ _ _ _ _ => (L_lst A_nil))) (S_cons (S_for (ws := [4]) PassesOwn.never rfl (I_rng1 rfl z_range (L_var 2)) (G_name sc_l_stances.nd rfl (by first | exact .inl rfl | exact .inr rfl)) (S_cons (S_setComp (ws := [10]) (own := [("k", 10)]) rfl sc_l_stances.nd rfl rfl rfl (I_rng1 rfl z_range (L_op O_add L_int (L_call hG G_l_take (hr.mono (by decide)) rfl i_l_take k_l_take b_l_take rfl rfl (A_cons (L_var 0) (A_cons L_int A_nil)) (aLen_cons (aLen_cons aLen_nil))))) (blk_mk rfl) (fun _ _ _ _ _ => (G_name sc_l_stances.nd rfl (by first | exact .inl rfl | exact .inr rfl))) (fun _ _ _ _ _ => Pts_nil) (fun _ _ _ _ _ => (L_call hG G_l_some (hr.mono (by decide)) rfl i_l_some k_l_some b_l_some rfl rfl (A_cons (L_var 0) (A_cons (L_lst (A_cons L_str (A_cons L_str A_nil))) A_nil)) (aLen_cons (aLen_cons aLen_nil))))) (S_one (S_for (ws := [6]) PassesOwn.never rfl (I_rng1 rfl z_range (L_callB B_len rfl z_len rfl (A_cons (L_var 1) A_nil))) (G_name sc_l_stances.nd rfl (by first | exact .inl rfl | exact .inr rfl)) (S_cons (S_set (i := 8) sc_l_stances.nd rfl (by first | exact .inl rfl | exact .inr rfl) (L_call hG G_l_take (hr.mono (by decide)) rfl i_l_take k_l_take b_l_take rfl rfl (A_cons (L_var 0) (A_cons (L_callB B_len rfl z_len rfl (A_cons (L_var 5) A_nil)) A_nil)) (aLen_cons (aLen_cons aLen_nil)))) (S_cons (S_set (i := 9) sc_l_stances.nd rfl (by first | exact .inl rfl | exact .inr rfl) (L_ixA (Rm.of hr) (L_var 3) (L_var 6) (fun _ _ => rfl) (fun _ _ => rfl))) (S_one (S_expr (L_append (pl := pure true) (L_var 9) (A_cons (L_tup (A_cons (L_var 8) (A_cons (L_ixA (Rm.of hr) (L_var 5) (L_var 8) (fun _ _ => rfl) (fun _ _ => rfl)) (A_cons (L_call hG G_l_take (hr.mono (by decide)) rfl i_l_take k_l_take b_l_take rfl rfl (A_cons (L_var 0) (A_cons (L_ixA (Rm.of hr) (L_var 1) (L_var 6) (fun _ _ => rfl) (fun _ _ => rfl)) A_nil)) (aLen_cons (aLen_cons aLen_nil))) A_nil)))) A_nil) (pe_bm PySem.F.plainAttrs_list PySem.F.slot_list_append PySem.F.type_list_append M_append (L_var 9) (A_cons (L_tup (A_cons (L_var 8) (A_cons (L_ixA (Rm.of hr) (L_var 5) (L_var 8) (fun _ _ => rfl) (fun _ _ => rfl)) (A_cons (L_call hG G_l_take (hr.mono (by decide)) rfl i_l_take k_l_take b_l_take rfl rfl (A_cons (L_var 0) (A_cons (L_ixA (Rm.of hr) (L_var 1) (L_var 6) (fun _ _ => rfl) (fun _ _ => rfl)) A_nil)) (aLen_cons (aLen_cons aLen_nil))) A_nil)))) A_nil))))))))))) (S_one (S_ret (L_var 3)))))
abbrev s_l_machine : Stmt := top 35
theorem sc_l_machine : FnScope ["bag", "kinds", "points", "live", "rows", "deeds", "lives", "begins", "stands", "told", "led", "many", "most", "k", "p"] ["bag", "kinds", "points", "live", "rows", "deeds"] (defScope s_l_machine) := ⟨rfl, rfl, rfl, by decide +kernel, rfl, by decide +kernel, by decide +kernel⟩
theorem g_l_machine (F : Fun K "_law_machine" "_law_machine" s_l_machine f fd) {f_l_move : Addr} {fd_l_move : FuncData} (G_l_move : FnG P w K mg base L2.CX0 3 f_l_move fd_l_move ["bag", "lives", "p"] (spF ⟨K, w, mg, τ⟩ 3 F_l_move)) (i_l_move : mg "_law_move" = some (.ref f_l_move)) (k_l_move : PySem.W.keepIn K (.ref f_l_move) = true) (b_l_move : Binds K fd_l_move ["bag", "lives", "p"] []) {f_l_stances : Addr} {fd_l_stances : FuncData} (G_l_stances : FnG P w K mg base L2.CX0 3 f_l_stances fd_l_stances ["bag", "lives", "rows"] (spF ⟨K, w, mg, τ⟩ 3 F_l_stances)) (i_l_stances : mg "_law_stances" = some (.ref f_l_stances)) (k_l_stances : PySem.W.keepIn K (.ref f_l_stances) = true) (b_l_stances : Binds K fd_l_stances ["bag", "lives", "rows"] []) {f_l_some : Addr} {fd_l_some : FuncData} (G_l_some : FnG P w K mg base L2.CX0 2 f_l_some fd_l_some ["bag", "things"] (spF ⟨K, w, mg, τ⟩ 2 F_l_some)) (i_l_some : mg "_law_some" = some (.ref f_l_some)) (k_l_some : PySem.W.keepIn K (.ref f_l_some) = true) (b_l_some : Binds K fd_l_some ["bag", "things"] []) {f_l_take : Addr} {fd_l_take : FuncData} (G_l_take : FnG P w K mg base L2.CX0 1 f_l_take fd_l_take ["bag", "upto"] (spF ⟨K, w, mg, τ⟩ 2 F_l_take)) (i_l_take : mg "_law_take" = some (.ref f_l_take)) (k_l_take : PySem.W.keepIn K (.ref f_l_take) = true) (b_l_take : Binds K fd_l_take ["bag", "upto"] []) (z_range : mg "range" = none) (z_tuple : mg "tuple" = none) : FnG P w K mg base L2.CX0 4 f fd ["bag", "kinds", "points", "live", "rows", "deeds"] (spF ⟨K, w, mg, τ⟩ 6 F_l_machine) :=
  fn_d F sc_l_machine fun cdv A outer s H E hG hr => (S_cons (S_asg (vs := ([11] ++ ([12] ++ []))) (L_tup (A_cons (L_op O_add L_int (L_call hG G_l_take (hr.mono (by decide)) rfl i_l_take k_l_take b_l_take rfl rfl (A_cons (L_var 0) (A_cons (L_var 2) A_nil)) (aLen_cons (aLen_cons aLen_nil)))) (A_cons (L_op O_add L_int (L_call hG G_l_take (hr.mono (by decide)) rfl i_l_take k_l_take b_l_take rfl rfl (A_cons (L_var 0) (A_cons (L_var 5) A_nil)) (aLen_cons (aLen_cons aLen_nil)))) A_nil))) (G_tup rfl (Gs_cons (G_name sc_l_machine.nd rfl (by first | exact .inl rfl | exact .inr rfl)) (Gs_cons (G_name sc_l_machine.nd rfl (by first | exact .inl rfl | exact .inr rfl)) Gs_nil)))) (S_cons (S_set (i := 6) sc_l_machine.nd rfl (by first | exact .inl rfl | exact .inr rfl) (L_op O_add (L_lst (A_cons L_int A_nil)) (L_comp (ws := [13]) (own := [("k", 13)]) rfl sc_l_machine.nd (I_rng1 rfl z_range (L_op O_sub (L_var 11) L_int)) (blk_mk rfl) (fun _ _ _ _ _ => (G_name sc_l_machine.nd rfl (by first | exact .inl rfl | exact .inr rfl))) (fun _ _ _ _ _ => Pts_nil) (fun _ _ _ _ _ => (L_op O_add L_int (L_call hG G_l_take (hr.mono (by decide)) rfl i_l_take k_l_take b_l_take rfl rfl (A_cons (L_var 0) (A_cons (L_var 3) A_nil)) (aLen_cons (aLen_cons aLen_nil)))))))) (S_cons (S_set (i := 7) sc_l_machine.nd rfl (by first | exact .inl rfl | exact .inr rfl) (L_op O_add (L_tup (A_cons L_int A_nil)) (L_callTy B_tuple rfl z_tuple rfl (A_cons (L_comp (ws := [13]) (own := [("k", 13)]) rfl sc_l_machine.nd (I_rng1 rfl z_range (L_op O_sub (L_var 1) L_int)) (blk_mk rfl) (fun _ _ _ _ _ => (G_name sc_l_machine.nd rfl (by first | exact .inl rfl | exact .inr rfl))) (fun _ _ _ _ _ => Pts_nil) (fun _ _ _ _ _ => (L_call hG G_l_some (hr.mono (by decide)) rfl i_l_some k_l_some b_l_some rfl rfl (A_cons (L_var 0) (A_cons (L_comp (ws := [13]) (own := [("k", 13)]) rfl sc_l_machine.nd (I_rng1 rfl z_range (L_var 11)) (blk_mk rfl) (fun _ _ _ _ _ => (G_name sc_l_machine.nd rfl (by first | exact .inl rfl | exact .inr rfl))) (fun _ _ _ _ _ => (Pts_one (T_cmp (O_eq (u64 hr)) (L_ixA (Rm.of hr) (L_var 6) (L_var 13) (fun _ _ => rfl) (fun _ _ => rfl)) L_int (by first | exact nomark _ | rfl)))) (fun _ _ _ _ _ => (L_var 13))) A_nil)) (aLen_cons (aLen_cons aLen_nil))))) A_nil)))) (S_cons (S_set (i := 8) sc_l_machine.nd rfl (by first | exact .inl rfl | exact .inr rfl) (L_call hG G_l_stances (hr.mono (by decide)) rfl i_l_stances k_l_stances b_l_stances rfl rfl (A_cons (L_var 0) (A_cons (L_var 6) (A_cons (L_var 4) A_nil))) (aLen_cons (aLen_cons (aLen_cons aLen_nil))))) (S_cons (S_set (i := 9) sc_l_machine.nd rfl (by first | exact .inl rfl | exact .inr rfl) (L_callTy B_tuple rfl z_tuple rfl (A_cons (L_comp (ws := [14]) (own := [("p", 14)]) rfl sc_l_machine.nd (I_rng1 rfl z_range (L_var 11)) (blk_mk rfl) (fun _ _ _ _ _ => (G_name sc_l_machine.nd rfl (by first | exact .inl rfl | exact .inr rfl))) (fun _ _ _ _ _ => Pts_nil) (fun _ _ _ _ _ => (L_tup (A_cons (L_callTy B_tuple rfl z_tuple rfl (A_cons (L_ixA (Rm.of hr) (L_var 8) (L_var 14) (fun _ _ => rfl) (fun _ _ => rfl)) A_nil)) (A_cons (L_ixA (Rm.of hr) (L_var 6) (L_var 14) (fun _ _ => rfl) (fun _ _ => rfl)) (A_cons (L_tup A_nil) A_nil)))))) A_nil))) (S_cons (S_set (i := 10) sc_l_machine.nd rfl (by first | exact .inl rfl | exact .inr rfl) (L_callTy B_tuple rfl z_tuple rfl (A_cons (L_comp (ws := [14]) (own := [("p", 14)]) rfl sc_l_machine.nd (I_rng1 rfl z_range (L_var 11)) (blk_mk rfl) (fun _ _ _ _ _ => (G_name sc_l_machine.nd rfl (by first | exact .inl rfl | exact .inr rfl))) (fun _ _ _ _ _ => Pts_nil) (fun _ _ _ _ _ => (L_callTy B_tuple rfl z_tuple rfl (A_cons (L_comp (ws := [13]) (own := [("k", 13)]) rfl sc_l_machine.nd (I_rng1 rfl z_range (L_var 12)) (blk_mk rfl) (fun _ _ _ _ _ => (G_name sc_l_machine.nd rfl (by first | exact .inl rfl | exact .inr rfl))) (fun _ _ _ _ _ => Pts_nil) (fun _ _ _ _ _ => (L_call hG G_l_move (hr.mono (by decide)) rfl i_l_move k_l_move b_l_move rfl rfl (A_cons (L_var 0) (A_cons (L_var 6) (A_cons (L_var 14) A_nil))) (aLen_cons (aLen_cons (aLen_cons aLen_nil)))))) A_nil)))) A_nil))) (S_one (S_ret (L_tup (A_cons (L_var 7) (A_cons (L_var 9) (A_cons (L_var 10) A_nil))))))))))))
abbrev s_l_past : Stmt := top 36
theorem sc_l_past : FnScope ["bag", "machine", "kind", "most", "k", "figure", "past", "led", "let", "deed", "d"] ["bag", "machine", "kind", "most"] (defScope s_l_past) := ⟨rfl, rfl, rfl, by decide +kernel, rfl, by decide +kernel, by decide +kernel⟩
def m_l_past : MS := (sSeq (sPar 5 6 (aCons (mTup (aCons (m2 dIxA (m2 dIxA (mVar 1) (mC (.int 0))) (mVar 2)) (aCons (mTup (aCons (mC (.int 0)) aNil)) aNil))) (aCons (mTup aNil) aNil))) (sSeq (sFor (iRng1 (mCall F_l_take (aCons (mVar 0) (aCons (m2 dAdd (mVar 3) (mC (.int 1))) aNil)))) (gN 4) (sSeq (sSet 7 (m2 dIxA (m2 dIxA (mVar 1) (mC (.int 2))) (m2 dIxA (mVar 5) (mC (.int 0))))) (sSeq (sSet 8 (mComp (iRng1 (mCall fLen (aCons (mVar 7) aNil))) (gN 10) (tOf (m2 dNotN (m2 dIxA (mVar 7) (mVar 10)) (mC .non))) (m2 dAdd (mVar 10) (mC (.int 1))) [10])) (sIf (tOf (m2 dNe (mVar 8) (mLst aNil))) (sSeq (sSet 9 (mCall F_l_some (aCons (mVar 0) (aCons (mVar 8) aNil)))) (sSeq (sSet 5 (mCall F_l_done_by (aCons (mVar 1) (aCons (mVar 5) (aCons (mVar 9) (aCons (m2 dAdd (mCall fLen (aCons (mVar 6) aNil)) (mC (.int 1))) aNil)))))) (sSet 6 (m2 dAdd (mVar 6) (mTup (aCons (mVar 9) aNil)))))) sNil)))) (sRet (mTup (aCons (mVar 6) (aCons (mVar 5) aNil))))))
def F_l_past : FD := runF 11 m_l_past
theorem g_l_past (F : Fun K "_law_past" "_law_past" s_l_past f fd) {f_l_take : Addr} {fd_l_take : FuncData} (G_l_take : FnG P w K mg base L2.CX0 1 f_l_take fd_l_take ["bag", "upto"] (spF ⟨K, w, mg, τ⟩ 2 F_l_take)) (i_l_take : mg "_law_take" = some (.ref f_l_take)) (k_l_take : PySem.W.keepIn K (.ref f_l_take) = true) (b_l_take : Binds K fd_l_take ["bag", "upto"] []) {f_l_done_by : Addr} {fd_l_done_by : FuncData} (G_l_done_by : FnG P w K mg base L2.CX0 2 f_l_done_by fd_l_done_by ["machine", "figure", "deed", "now"] (spF ⟨K, w, mg, τ⟩ 4 F_l_done_by)) (i_l_done_by : mg "_law_done_by" = some (.ref f_l_done_by)) (k_l_done_by : PySem.W.keepIn K (.ref f_l_done_by) = true) (b_l_done_by : Binds K fd_l_done_by ["machine", "figure", "deed", "now"] []) {f_l_some : Addr} {fd_l_some : FuncData} (G_l_some : FnG P w K mg base L2.CX0 2 f_l_some fd_l_some ["bag", "things"] (spF ⟨K, w, mg, τ⟩ 2 F_l_some)) (i_l_some : mg "_law_some" = some (.ref f_l_some)) (k_l_some : PySem.W.keepIn K (.ref f_l_some) = true) (b_l_some : Binds K fd_l_some ["bag", "things"] []) (z_range : mg "range" = none) (z_len : mg "len" = none) : FnG P w K mg base L2.CX0 3 f fd ["bag", "machine", "kind", "most"] (spF ⟨K, w, mg, τ⟩ 4 F_l_past) :=
  fn_d F sc_l_past fun cdv A outer s H E hG hr => (S_cons (S_par (i := 5) (j := 6) rfl sc_l_past.nd rfl rfl (by decide) rfl rfl (A_cons (L_tup (A_cons (L_ixA (Rm.of hr) (L_ixA (Rm.of hr) (L_var 1) L_int (fun _ _ => rfl) (fun _ _ => rfl)) (L_var 2) (fun _ _ => rfl) (fun _ _ => rfl)) (A_cons (L_tup (A_cons L_int A_nil)) A_nil))) (A_cons (L_tup A_nil) A_nil)) rfl) (S_cons (S_for (ws := [4]) PassesOwn.never rfl (I_rng1 rfl z_range (L_call hG G_l_take (hr.mono (by decide)) rfl i_l_take k_l_take b_l_take rfl rfl (A_cons (L_var 0) (A_cons (L_op O_add (L_var 3) L_int) A_nil)) (aLen_cons (aLen_cons aLen_nil)))) (G_name sc_l_past.nd rfl (by first | exact .inl rfl | exact .inr rfl)) (S_cons (S_set (i := 7) sc_l_past.nd rfl (by first | exact .inl rfl | exact .inr rfl) (L_ixA (Rm.of hr) (L_ixA (Rm.of hr) (L_var 1) L_int (fun _ _ => rfl) (fun _ _ => rfl)) (L_ixA (Rm.of hr) (L_var 5) L_int (fun _ _ => rfl) (fun _ _ => rfl)) (fun _ _ => rfl) (fun _ _ => rfl))) (S_cons (S_setComp (ws := [10]) (own := [("d", 10)]) rfl sc_l_past.nd rfl rfl rfl (I_rng1 rfl z_range (L_callB B_len rfl z_len rfl (A_cons (L_var 7) A_nil))) (blk_mk rfl) (fun _ _ _ _ _ => (G_name sc_l_past.nd rfl (by first | exact .inl rfl | exact .inr rfl))) (fun _ _ _ _ _ => (Pts_one (T_cmp O_notN (L_ixA (Rm.of hr) (L_var 7) (L_var 10) (fun _ _ => rfl) (fun _ _ => rfl)) L_non (by first | exact nomark _ | rfl)))) (fun _ _ _ _ _ => (L_op O_add (L_var 10) L_int))) (S_one (S_if (T_cmp (O_ne (u64 hr)) (L_var 8) (L_lst A_nil) (by first | exact nomark _ | rfl)) (S_cons (S_set (i := 9) sc_l_past.nd rfl (by first | exact .inl rfl | exact .inr rfl) (L_call hG G_l_some (hr.mono (by decide)) rfl i_l_some k_l_some b_l_some rfl rfl (A_cons (L_var 0) (A_cons (L_var 8) A_nil)) (aLen_cons (aLen_cons aLen_nil)))) (S_cons (S_set (i := 5) sc_l_past.nd rfl (by first | exact .inl rfl | exact .inr rfl) (L_call hG G_l_done_by (hr.mono (by decide)) rfl i_l_done_by k_l_done_by b_l_done_by rfl rfl (A_cons (L_var 1) (A_cons (L_var 5) (A_cons (L_var 9) (A_cons (L_op O_add (L_callB B_len rfl z_len rfl (A_cons (L_var 6) A_nil)) L_int) A_nil)))) (aLen_cons (aLen_cons (aLen_cons (aLen_cons aLen_nil)))))) (S_one (S_set (i := 6) sc_l_past.nd rfl (by first | exact .inl rfl | exact .inr rfl) (L_op O_add (L_var 6) (L_tup (A_cons (L_var 9) A_nil))))))) S_nil))))) (S_one (S_ret (L_tup (A_cons (L_var 6) (A_cons (L_var 5) A_nil)))))))
abbrev s_l_rows_by : Stmt := top 37
theorem sc_l_rows_by : FnScope ["machine", "figures", "r"] ["machine", "figures"] (defScope s_l_rows_by) := ⟨rfl, rfl, rfl, by decide +kernel, rfl, by decide +kernel, by decide +kernel⟩
def m_l_rows_by : MS := (sRet (mCall fTuple (aCons (mComp (iRng1 (mCall fLen (aCons (m2 dIxA (m2 dIxA (m2 dIxA (mVar 0) (mC (.int 1))) (mC (.int 0))) (mC (.int 0))) aNil))) (gN 2) tYesM (mCall fTuple (aCons (mCall F_l_row (aCons (mVar 0) (aCons (mVar 2) (aCons (mVar 1) aNil)))) aNil)) [2]) aNil)))
def F_l_rows_by : FD := runF 3 m_l_rows_by
theorem g_l_rows_by (F : Fun K "_law_rows_by" "_law_rows_by" s_l_rows_by f fd) {f_l_row : Addr} {fd_l_row : FuncData} (G_l_row : FnG P w K mg base L2.CX0 2 f_l_row fd_l_row ["machine", "row", "figures"] (spF ⟨K, w, mg, τ⟩ 3 F_l_row)) (i_l_row : mg "_law_row" = some (.ref f_l_row)) (k_l_row : PySem.W.keepIn K (.ref f_l_row) = true) (b_l_row : Binds K fd_l_row ["machine", "row", "figures"] []) (z_len : mg "len" = none) (z_range : mg "range" = none) (z_tuple : mg "tuple" = none) : FnG P w K mg base L2.CX0 3 f fd ["machine", "figures"] (spF ⟨K, w, mg, τ⟩ 2 F_l_rows_by) :=
  fn_d F sc_l_rows_by fun cdv A outer s H E hG hr => (S_one (S_ret (L_callTy B_tuple rfl z_tuple rfl (A_cons (L_comp (ws := [2]) (own := [("r", 2)]) rfl sc_l_rows_by.nd (I_rng1 rfl z_range (L_callB B_len rfl z_len rfl (A_cons (L_ixA (Rm.of hr) (L_ixA (Rm.of hr) (L_ixA (Rm.of hr) (L_var 0) L_int (fun _ _ => rfl) (fun _ _ => rfl)) L_int (fun _ _ => rfl) (fun _ _ => rfl)) L_int (fun _ _ => rfl) (fun _ _ => rfl)) A_nil))) (blk_mk rfl) (fun _ _ _ _ _ => (G_name sc_l_rows_by.nd rfl (by first | exact .inl rfl | exact .inr rfl))) (fun _ _ _ _ _ => Pts_nil) (fun _ _ _ _ _ => (L_callTy B_tuple rfl z_tuple rfl (A_cons (L_call hG G_l_row (hr.mono (by decide)) rfl i_l_row k_l_row b_l_row rfl rfl (A_cons (L_var 0) (A_cons (L_var 2) (A_cons (L_var 1) A_nil))) (aLen_cons (aLen_cons (aLen_cons aLen_nil)))) A_nil)))) A_nil))))
abbrev s_l_some_things : Stmt := top 38
theorem sc_l_some_things : FnScope ["bag", "kinds", "many", "found", "k", "thing"] ["bag", "kinds", "many"] (defScope s_l_some_things) := ⟨rfl, rfl, rfl, by decide +kernel, rfl, by decide +kernel, by decide +kernel⟩
theorem g_l_some_things (F : Fun K "_law_some_things" "_law_some_things" s_l_some_things f fd) {f_l_some : Addr} {fd_l_some : FuncData} (G_l_some : FnG P w K mg base L2.CX0 2 f_l_some fd_l_some ["bag", "things"] (spF ⟨K, w, mg, τ⟩ 2 F_l_some)) (i_l_some : mg "_law_some" = some (.ref f_l_some)) (k_l_some : PySem.W.keepIn K (.ref f_l_some) = true) (b_l_some : Binds K fd_l_some ["bag", "things"] []) {f_l_take : Addr} {fd_l_take : FuncData} (G_l_take : FnG P w K mg base L2.CX0 1 f_l_take fd_l_take ["bag", "upto"] (spF ⟨K, w, mg, τ⟩ 2 F_l_take)) (i_l_take : mg "_law_take" = some (.ref f_l_take)) (k_l_take : PySem.W.keepIn K (.ref f_l_take) = true) (b_l_take : Binds K fd_l_take ["bag", "upto"] []) (z_sorted : mg "sorted" = none) (z_range : mg "range" = none) : FnG P w K mg base L2.CX0 3 f fd ["bag", "kinds", "many"] (spF ⟨K, w, mg, τ⟩ 3 F_l_some_things) :=
  fn_d F sc_l_some_things fun cdv A outer s H E hG hr => (S_cons (S_set (i := 3) sc_l_some_things.nd rfl (by first | exact .inl rfl | exact .inr rfl) (L_lst A_nil)) (S_cons (S_for (ws := [4]) PassesOwn.never rfl (I_rng1 rfl z_range (L_var 2)) (G_name sc_l_some_things.nd rfl (by first | exact .inl rfl | exact .inr rfl)) (S_cons (S_set (i := 5) sc_l_some_things.nd rfl (by first | exact .inl rfl | exact .inr rfl) (L_tup (A_cons (L_call hG G_l_take (hr.mono (by decide)) rfl i_l_take k_l_take b_l_take rfl rfl (A_cons (L_var 0) (A_cons (L_var 1) A_nil)) (aLen_cons (aLen_cons aLen_nil))) (A_cons (L_call hG G_l_some (hr.mono (by decide)) rfl i_l_some k_l_some b_l_some rfl rfl (A_cons (L_var 0) (A_cons (L_lst (A_cons (L_var 4) (A_cons (L_op O_add (L_op O_mulA L_int (L_var 4)) L_int) (A_cons (L_op O_sub L_int (L_var 4)) A_nil)))) A_nil)) (aLen_cons (aLen_cons aLen_nil))) A_nil)))) (S_one (S_if (T_cmp (O_notIn (u70 hr)) (L_var 5) (L_var 3) (by first | exact nomark _ | rfl)) (S_one (S_expr (L_append (pl := pure true) (L_var 3) (A_cons (L_var 5) A_nil) (pe_bm PySem.F.plainAttrs_list PySem.F.slot_list_append PySem.F.type_list_append M_append (L_var 3) (A_cons (L_var 5) A_nil))))) S_nil)))) (S_one (S_ret (L_callB (B_sorted rfl (Rm.of hr)) rfl z_sorted rfl (A_cons (L_var 3) A_nil))))))
abbrev s_l_run_of : Stmt := top 39
theorem sc_l_run_of : FnScope ["bag", "machine", "things", "many", "k", "figures", "run", "thing", "there", "deeds", "pair", "led", "d"] ["bag", "machine", "things", "many"] (defScope s_l_run_of) := ⟨rfl, rfl, rfl, by decide +kernel, rfl, by decide +kernel, by decide +kernel⟩
theorem g_l_run_of (F : Fun K "_law_run_of" "_law_run_of" s_l_run_of f fd) {f_l_led : Addr} {fd_l_led : FuncData} (G_l_led : FnG P w K mg base L2.CX0 3 f_l_led fd_l_led ["machine", "figures", "run", "now"] (spF ⟨K, w, mg, τ⟩ 4 F_l_led)) (i_l_led : mg "_law_led" = some (.ref f_l_led)) (k_l_led : PySem.W.keepIn K (.ref f_l_led) = true) (b_l_led : Binds K fd_l_led ["machine", "figures", "run", "now"] []) {f_l_some : Addr} {fd_l_some : FuncData} (G_l_some : FnG P w K mg base L2.CX0 2 f_l_some fd_l_some ["bag", "things"] (spF ⟨K, w, mg, τ⟩ 2 F_l_some)) (i_l_some : mg "_law_some" = some (.ref f_l_some)) (k_l_some : PySem.W.keepIn K (.ref f_l_some) = true) (b_l_some : Binds K fd_l_some ["bag", "things"] []) {f_l_take : Addr} {fd_l_take : FuncData} (G_l_take : FnG P w K mg base L2.CX0 1 f_l_take fd_l_take ["bag", "upto"] (spF ⟨K, w, mg, τ⟩ 2 F_l_take)) (i_l_take : mg "_law_take" = some (.ref f_l_take)) (k_l_take : PySem.W.keepIn K (.ref f_l_take) = true) (b_l_take : Binds K fd_l_take ["bag", "upto"] []) (z_range : mg "range" = none) (z_len : mg "len" = none) (z_dict : mg "dict" = none) : FnG P w K mg base L2.CX0 4 f fd ["bag", "machine", "things", "many"] (spF ⟨K, w, mg, τ⟩ 4 F_l_run_of) :=
  fn_d F sc_l_run_of fun cdv A outer s H E hG hr => (S_cons (S_par (i := 5) (j := 6) rfl sc_l_run_of.nd rfl rfl (by decide) rfl rfl (A_cons (L_lst A_nil) (A_cons (L_lst A_nil) A_nil)) rfl) (S_cons (S_for (ws := [4]) PassesOwn.never rfl (I_rng1 rfl z_range (L_var 3)) (G_name sc_l_run_of.nd rfl (by first | exact .inl rfl | exact .inr rfl)) (S_cons (S_set (i := 7) sc_l_run_of.nd rfl (by first | exact .inl rfl | exact .inr rfl) (L_call hG G_l_some (hr.mono (by decide)) rfl i_l_some k_l_some b_l_some rfl rfl (A_cons (L_var 0) (A_cons (L_var 2) A_nil)) (aLen_cons (aLen_cons aLen_nil)))) (S_cons (S_set (i := 8) sc_l_run_of.nd rfl (by first | exact .inl rfl | exact .inr rfl) (L_callTy (B_dict rfl (Rm.of hr)) rfl z_dict rfl (A_cons (L_var 5) A_nil))) (S_cons (S_set (i := 9) sc_l_run_of.nd rfl (by first | exact .inl rfl | exact .inr rfl) (L_lst (A_cons L_int A_nil))) (S_cons (S_if (T_cmp (O_in (u70 hr)) (L_var 7) (L_var 8) (by first | exact nomark _ | rfl)) (S_cons (S_set (i := 11) sc_l_run_of.nd rfl (by first | exact .inl rfl | exact .inr rfl) (L_ixA (Rm.of hr) (L_ixA (Rm.of hr) (L_var 1) L_int (fun _ _ => rfl) (fun _ _ => rfl)) (L_ixA (Rm.of hr) (L_ixA (Rm.of hr) (L_var 8) (L_var 7) (fun _ _ => rfl) (fun _ _ => rfl)) L_int (fun _ _ => rfl) (fun _ _ => rfl)) (fun _ _ => rfl) (fun _ _ => rfl))) (S_cons (S_setComp (ws := [12]) (own := [("d", 12)]) rfl sc_l_run_of.nd rfl rfl rfl (I_rng1 rfl z_range (L_callB B_len rfl z_len rfl (A_cons (L_var 11) A_nil))) (blk_mk rfl) (fun _ _ _ _ _ => (G_name sc_l_run_of.nd rfl (by first | exact .inl rfl | exact .inr rfl))) (fun _ _ _ _ _ => (Pts_one (T_cmp O_notN (L_ixA (Rm.of hr) (L_var 11) (L_var 12) (fun _ _ => rfl) (fun _ _ => rfl)) L_non (by first | exact nomark _ | rfl)))) (fun _ _ _ _ _ => (L_op O_add (L_var 12) L_int))) (S_one (S_if (PW.pt (W_or (T_cmp (O_eq (u64 hr)) (L_var 9) (L_lst A_nil) (by first | exact nomark _ | rfl)) (pw_or1 (T_cmp (O_eq (u64 hr)) (L_call hG G_l_take (hr.mono (by decide)) rfl i_l_take k_l_take b_l_take rfl rfl (A_cons (L_var 0) (A_cons L_int A_nil)) (aLen_cons (aLen_cons aLen_nil))) L_int (by first | exact nomark _ | rfl))))) (S_one (S_set (i := 9) sc_l_run_of.nd rfl (by first | exact .inl rfl | exact .inr rfl) (L_lst (A_cons (L_un U_neg L_int) A_nil)))) S_nil)))) S_nil) (S_cons (S_set (i := 10) sc_l_run_of.nd rfl (by first | exact .inl rfl | exact .inr rfl) (L_tup (A_cons (L_call hG G_l_some (hr.mono (by decide)) rfl i_l_some k_l_some b_l_some rfl rfl (A_cons (L_var 0) (A_cons (L_var 9) A_nil)) (aLen_cons (aLen_cons aLen_nil))) (A_cons (L_var 7) A_nil)))) (S_cons (S_set (i := 5) sc_l_run_of.nd rfl (by first | exact .inl rfl | exact .inr rfl) (L_call hG G_l_led (hr.mono (by decide)) rfl i_l_led k_l_led b_l_led rfl rfl (A_cons (L_var 1) (A_cons (L_var 5) (A_cons (L_lst (A_cons (L_var 10) A_nil)) (A_cons (L_var 4) A_nil)))) (aLen_cons (aLen_cons (aLen_cons (aLen_cons aLen_nil)))))) (S_one (S_expr (L_append (pl := pure true) (L_var 6) (A_cons (L_var 10) A_nil) (pe_bm PySem.F.plainAttrs_list PySem.F.slot_list_append PySem.F.type_list_append M_append (L_var 6) (A_cons (L_var 10) A_nil)))))))))))) (S_one (S_ret (L_var 6)))))
abbrev s_l_bent_run : Stmt := top 40
theorem sc_l_bent_run : FnScope ["bag", "machine", "run", "things", "k", "m", "way", "found"] ["bag", "machine", "run", "things"] (defScope s_l_bent_run) := ⟨rfl, rfl, rfl, by decide +kernel, rfl, by decide +kernel, by decide +kernel⟩
def m_l_bent_run : MS := (sSeq (sIf (tOf (m2 dEq (mVar 2) (mLst aNil))) (sRet (mIf (tOf (m2 dGt (mCall fLen (aCons (m2 dIxA (m2 dIxA (mVar 1) (mC (.int 2))) (mC (.int 0))) aNil)) (mC (.int 0)))) (mLst (aCons (mTup (aCons (mC (.int 1)) (aCons (m2 dIxA (mVar 3) (mC (.int 0))) aNil))) aNil)) (mLst (aCons (mTup (aCons (m1 dNeg (mC (.int 1))) (aCons (m2 dIxA (mVar 3) (mC (.int 0))) aNil))) aNil)))) sNil) (sSeq (sPar3 4 5 6 (aCons (mCall F_l_take (aCons (mVar 0) (aCons (mCall fLen (aCons (mVar 2) aNil)) aNil))) (aCons (mCall F_l_take (aCons (mVar 0) (aCons (mCall fLen (aCons (mVar 2) aNil)) aNil))) (aCons (mCall F_l_take (aCons (mVar 0) (aCons (mC (.int 4)) aNil))) aNil)))) (sSeq (sIf (tOf (m2 dEq (mVar 6) (mC (.int 0)))) (sRet (m2 dAdd (mSl (mVar 2) oNone (oSome (mVar 4))) (mSl (mVar 2) (oSome (m2 dAdd (mVar 4) (mC (.int 1)))) oNone))) sNil) (sSeq (sIf (tOf (m2 dEq (mVar 6) (mC (.int 1)))) (sRet (m2 dAdd (m2 dAdd (mSl (mVar 2) oNone (oSome (mVar 4))) (mLst (aCons (m2 dIxA (mVar 2) (mVar 4)) aNil))) (mSl (mVar 2) (oSome (mVar 4)) oNone))) sNil) (sSeq (sIf (tOf (m2 dEq (mVar 6) (mC (.int 2)))) (sSeq (sSet 7 (mCall fListA (aCons (mVar 2) aNil))) (sSeq (sAsg (mTup (aCons (m2 dIxA (mVar 2) (mVar 5)) (aCons (m2 dIxA (mVar 2) (mVar 4)) aNil))) (gTupM 2 (gConsM (gSubA (mVar 7) (mVar 4)) (gConsM (gSubA (mVar 7) (mVar 5)) gNilM)))) (sRet (mVar 7)))) sNil) (sRet (m2 dAdd (m2 dAdd (mSl (mVar 2) oNone (oSome (mVar 4))) (mLst (aCons (mTup (aCons (m2 dSub (mCall F_l_take (aCons (mVar 0) (aCons (m2 dAdd (mCall fLen (aCons (m2 dIxA (m2 dIxA (mVar 1) (mC (.int 2))) (mC (.int 0))) aNil)) (mC (.int 2))) aNil))) (mC (.int 1))) (aCons (mCall F_l_some (aCons (mVar 0) (aCons (mVar 3) aNil))) aNil))) aNil))) (mSl (mVar 2) (oSome (m2 dAdd (mVar 4) (mC (.int 1)))) oNone))))))))
def F_l_bent_run : FD := runF 8 m_l_bent_run
theorem g_l_bent_run (F : Fun K "_law_bent_run" "_law_bent_run" s_l_bent_run f fd) {f_l_some : Addr} {fd_l_some : FuncData} (G_l_some : FnG P w K mg base L2.CX0 2 f_l_some fd_l_some ["bag", "things"] (spF ⟨K, w, mg, τ⟩ 2 F_l_some)) (i_l_some : mg "_law_some" = some (.ref f_l_some)) (k_l_some : PySem.W.keepIn K (.ref f_l_some) = true) (b_l_some : Binds K fd_l_some ["bag", "things"] []) {f_l_take : Addr} {fd_l_take : FuncData} (G_l_take : FnG P w K mg base L2.CX0 1 f_l_take fd_l_take ["bag", "upto"] (spF ⟨K, w, mg, τ⟩ 2 F_l_take)) (i_l_take : mg "_law_take" = some (.ref f_l_take)) (k_l_take : PySem.W.keepIn K (.ref f_l_take) = true) (b_l_take : Binds K fd_l_take ["bag", "upto"] []) (z_len : mg "len" = none) (z_list : mg "list" = none) : FnG P w K mg base L2.CX0 3 f fd ["bag", "machine", "run", "things"] (spF ⟨K, w, mg, τ⟩ 4 F_l_bent_run) :=
  fn_d F sc_l_bent_run fun cdv A outer s H E hG hr => (S_cons (S_if (T_cmp (O_eq (u64 hr)) (L_var 2) (L_lst A_nil) (by first | exact nomark _ | rfl)) (S_one (S_ret (L_if (T_cmp O_gt (L_callB B_len rfl z_len rfl (A_cons (L_ixA (Rm.of hr) (L_ixA (Rm.of hr) (L_var 1) L_int (fun _ _ => rfl) (fun _ _ => rfl)) L_int (fun _ _ => rfl) (fun _ _ => rfl)) A_nil)) L_int (by first | exact nomark _ | rfl)) (L_lst (A_cons (L_tup (A_cons L_int (A_cons (L_ixA (Rm.of hr) (L_var 3) L_int (fun _ _ => rfl) (fun _ _ => rfl)) A_nil))) A_nil)) (L_lst (A_cons (L_tup (A_cons (L_un U_neg L_int) (A_cons (L_ixA (Rm.of hr) (L_var 3) L_int (fun _ _ => rfl) (fun _ _ => rfl)) A_nil))) A_nil))))) S_nil) (S_cons (S_par3 (i := 4) (j := 5) (l := 6) rfl sc_l_bent_run.nd rfl rfl rfl (by decide) (by decide) (by decide) rfl rfl rfl (A_cons (L_call hG G_l_take (hr.mono (by decide)) rfl i_l_take k_l_take b_l_take rfl rfl (A_cons (L_var 0) (A_cons (L_callB B_len rfl z_len rfl (A_cons (L_var 2) A_nil)) A_nil)) (aLen_cons (aLen_cons aLen_nil))) (A_cons (L_call hG G_l_take (hr.mono (by decide)) rfl i_l_take k_l_take b_l_take rfl rfl (A_cons (L_var 0) (A_cons (L_callB B_len rfl z_len rfl (A_cons (L_var 2) A_nil)) A_nil)) (aLen_cons (aLen_cons aLen_nil))) (A_cons (L_call hG G_l_take (hr.mono (by decide)) rfl i_l_take k_l_take b_l_take rfl rfl (A_cons (L_var 0) (A_cons L_int A_nil)) (aLen_cons (aLen_cons aLen_nil))) A_nil))) rfl) (S_cons (S_if (T_cmp (O_eq (u64 hr)) (L_var 6) L_int (by first | exact nomark _ | rfl)) (S_one (S_ret (L_op O_add (L_slice (L_var 2) P_none (P_some (L_var 4))) (L_slice (L_var 2) (P_some (L_op O_add (L_var 4) L_int)) P_none)))) S_nil) (S_cons (S_if (T_cmp (O_eq (u64 hr)) (L_var 6) L_int (by first | exact nomark _ | rfl)) (S_one (S_ret (L_op O_add (L_op O_add (L_slice (L_var 2) P_none (P_some (L_var 4))) (L_lst (A_cons (L_ixA (Rm.of hr) (L_var 2) (L_var 4) (fun _ _ => rfl) (fun _ _ => rfl)) A_nil))) (L_slice (L_var 2) (P_some (L_var 4)) P_none)))) S_nil) (S_cons (S_if (T_cmp (O_eq (u64 hr)) (L_var 6) L_int (by first | exact nomark _ | rfl)) (S_cons (S_set (i := 7) sc_l_bent_run.nd rfl (by first | exact .inl rfl | exact .inr rfl) (L_callTy (B_listA rfl) rfl z_list rfl (A_cons (L_var 2) A_nil))) (S_cons (S_asg (vs := ([] ++ ([] ++ []))) (L_tup (A_cons (L_ixA (Rm.of hr) (L_var 2) (L_var 5) (fun _ _ => rfl) (fun _ _ => rfl)) (A_cons (L_ixA (Rm.of hr) (L_var 2) (L_var 4) (fun _ _ => rfl) (fun _ _ => rfl)) A_nil))) (G_tup rfl (Gs_cons (G_subA (Rm.of hr) (L_var 7) (L_var 4)) (Gs_cons (G_subA (Rm.of hr) (L_var 7) (L_var 5)) Gs_nil)))) (S_one (S_ret (L_var 7))))) S_nil) (S_one (S_ret (L_op O_add (L_op O_add (L_slice (L_var 2) P_none (P_some (L_var 4))) (L_lst (A_cons (L_tup (A_cons (L_op O_sub (L_call hG G_l_take (hr.mono (by decide)) rfl i_l_take k_l_take b_l_take rfl rfl (A_cons (L_var 0) (A_cons (L_op O_add (L_callB B_len rfl z_len rfl (A_cons (L_ixA (Rm.of hr) (L_ixA (Rm.of hr) (L_var 1) L_int (fun _ _ => rfl) (fun _ _ => rfl)) L_int (fun _ _ => rfl) (fun _ _ => rfl)) A_nil)) L_int) A_nil)) (aLen_cons (aLen_cons aLen_nil))) L_int) (A_cons (L_call hG G_l_some (hr.mono (by decide)) rfl i_l_some k_l_some b_l_some rfl rfl (A_cons (L_var 0) (A_cons (L_var 3) A_nil)) (aLen_cons (aLen_cons aLen_nil))) A_nil))) A_nil))) (L_slice (L_var 2) (P_some (L_op O_add (L_var 4) L_int)) P_none)))))))))
abbrev s_l_pasts_right : Stmt := top 42
theorem sc_l_pasts_right : FnScope ["bag", "machine", "k", "kind", "past", "figure", "deed", "entry", "due"] ["bag", "machine"] (defScope s_l_pasts_right) := ⟨rfl, rfl, rfl, by decide +kernel, rfl, by decide +kernel, by decide +kernel⟩
def m_l_pasts_right : MS := (sSeq (sFor (iRng1 (mC (.int 3))) (gN 2) (sSeq (sSet 3 (mCall F_l_take (aCons (mVar 0) (aCons (mCall fLen (aCons (m2 dIxA (mVar 1) (mC (.int 0))) aNil)) aNil)))) (sSeq (sAsg (mCall F_l_past (aCons (mVar 0) (aCons (mVar 1) (aCons (mVar 3) (aCons (mCall F_l_some (aCons (mVar 0) (aCons (mLst (aCons (mC (.int 6)) (aCons (mC (.int 6)) (aCons (mC (.int 58)) aNil)))) aNil))) aNil))))) (gTupM 2 (gConsM (gN 4) (gConsM (gN 5) gNilM)))) (sSeq (sIf (tNotM (tTru (mCall F_l_alike (aCons (mCall F_point_behind (aCons (mVar 1) (aCons (mVar 3) (aCons (mVar 4) aNil)))) (aCons (m2 dIxA (mVar 5) (mC (.int 0))) aNil))))) (sRet (mC (.bl false))) sNil) (sIf (tOf (m2 dGt (mCall fLen (aCons (m2 dIxA (m2 dIxA (mVar 1) (mC (.int 2))) (mC (.int 0))) aNil)) (mC (.int 0)))) (sSeq (sSet 6 (m2 dAdd (mC (.int 1)) (mCall F_l_take (aCons (mVar 0) (aCons (mCall fLen (aCons (m2 dIxA (m2 dIxA (mVar 1) (mC (.int 2))) (mC (.int 0))) aNil)) aNil))))) (sSeq (sSet 7 (m2 dIxA (m2 dIxA (m2 dIxA (mVar 1) (mC (.int 2))) (m2 dIxA (mVar 5) (mC (.int 0)))) (m2 dSub (mVar 6) (mC (.int 1))))) (sSeq (sSet 8 (mIf (tOf (m2 dIsN (mVar 7) (mC .non))) (mC .non) (m2 dIxA (mVar 7) (mC (.int 0))))) (sSeq (sIf (tNotM (tTru (mCall F_l_alike (aCons (mCall F_point_behind (aCons (mVar 1) (aCons (mVar 3) (aCons (m2 dAdd (mVar 4) (mTup (aCons (mVar 6) aNil))) aNil)))) (aCons (mVar 8) aNil))))) (sRet (mC (.bl false))) sNil) (sIf (tAndM (tOf (m2 dIsN (mVar 8) (mC .non))) (tOf (m2 dNotN (mCall F_point_behind (aCons (mVar 1) (aCons (mVar 3) (aCons (m2 dAdd (mVar 4) (mTup (aCons (mVar 6) (aCons (mC (.int 1)) aNil)))) aNil)))) (mC .non)))) (sRet (mC (.bl false))) sNil))))) sNil))))) (sRet (mC (.bl true))))
def F_l_pasts_right : FD := runF 9 m_l_pasts_right
theorem g_l_pasts_right (F : Fun K "_law_pasts_right" "_law_pasts_right" s_l_pasts_right f fd) {f_point_behind : Addr} {fd_point_behind : FuncData} (G_point_behind : FnG P w K mg base L2.CX0 1 f_point_behind fd_point_behind ["machine", "kind", "past"] (spF ⟨K, w, mg, τ⟩ 3 F_point_behind)) (i_point_behind : mg "point_behind" = some (.ref f_point_behind)) (k_point_behind : PySem.W.keepIn K (.ref f_point_behind) = true) (b_point_behind : Binds K fd_point_behind ["machine", "kind", "past"] []) {f_l_alike : Addr} {fd_l_alike : FuncData} (G_l_alike : FnG P w K mg base L2.CX0 1 f_l_alike fd_l_alike ["found", "due"] (spF ⟨K, w, mg, τ⟩ 2 F_l_alike)) (i_l_alike : mg "_law_alike" = some (.ref f_l_alike)) (k_l_alike : PySem.W.keepIn K (.ref f_l_alike) = true) (b_l_alike : Binds K fd_l_alike ["found", "due"] []) {f_l_take : Addr} {fd_l_take : FuncData} (G_l_take : FnG P w K mg base L2.CX0 1 f_l_take fd_l_take ["bag", "upto"] (spF ⟨K, w, mg, τ⟩ 2 F_l_take)) (i_l_take : mg "_law_take" = some (.ref f_l_take)) (k_l_take : PySem.W.keepIn K (.ref f_l_take) = true) (b_l_take : Binds K fd_l_take ["bag", "upto"] []) {f_l_past : Addr} {fd_l_past : FuncData} (G_l_past : FnG P w K mg base L2.CX0 3 f_l_past fd_l_past ["bag", "machine", "kind", "most"] (spF ⟨K, w, mg, τ⟩ 4 F_l_past)) (i_l_past : mg "_law_past" = some (.ref f_l_past)) (k_l_past : PySem.W.keepIn K (.ref f_l_past) = true) (b_l_past : Binds K fd_l_past ["bag", "machine", "kind", "most"] []) {f_l_some : Addr} {fd_l_some : FuncData} (G_l_some : FnG P w K mg base L2.CX0 2 f_l_some fd_l_some ["bag", "things"] (spF ⟨K, w, mg, τ⟩ 2 F_l_some)) (i_l_some : mg "_law_some" = some (.ref f_l_some)) (k_l_some : PySem.W.keepIn K (.ref f_l_some) = true) (b_l_some : Binds K fd_l_some ["bag", "things"] []) (z_range : mg "range" = none) (z_len : mg "len" = none) : FnG P w K mg base L2.CX0 4 f fd ["bag", "machine"] (spF ⟨K, w, mg, τ⟩ 2 F_l_pasts_right) :=
  fn_d F sc_l_pasts_right fun cdv A outer s H E hG hr => (S_cons (S_for (ws := [2]) PassesOwn.never rfl (I_rng1 rfl z_range L_int) (G_name sc_l_pasts_right.nd rfl (by first | exact .inl rfl | exact .inr rfl)) (S_cons (S_set (i := 3) sc_l_pasts_right.nd rfl (by first | exact .inl rfl | exact .inr rfl) (L_call hG G_l_take (hr.mono (by decide)) rfl i_l_take k_l_take b_l_take rfl rfl (A_cons (L_var 0) (A_cons (L_callB B_len rfl z_len rfl (A_cons (L_ixA (Rm.of hr) (L_var 1) L_int (fun _ _ => rfl) (fun _ _ => rfl)) A_nil)) A_nil)) (aLen_cons (aLen_cons aLen_nil)))) (S_cons (S_asg (vs := ([4] ++ ([5] ++ []))) (L_call hG G_l_past (hr.mono (by decide)) rfl i_l_past k_l_past b_l_past rfl rfl (A_cons (L_var 0) (A_cons (L_var 1) (A_cons (L_var 3) (A_cons (L_call hG G_l_some (hr.mono (by decide)) rfl i_l_some k_l_some b_l_some rfl rfl (A_cons (L_var 0) (A_cons (L_lst (A_cons L_int (A_cons L_int (A_cons L_int A_nil)))) A_nil)) (aLen_cons (aLen_cons aLen_nil))) A_nil)))) (aLen_cons (aLen_cons (aLen_cons (aLen_cons aLen_nil))))) (G_tup rfl (Gs_cons (G_name sc_l_pasts_right.nd rfl (by first | exact .inl rfl | exact .inr rfl)) (Gs_cons (G_name sc_l_pasts_right.nd rfl (by first | exact .inl rfl | exact .inr rfl)) Gs_nil)))) (S_cons (S_if (T_not (T_val (L_call hG G_l_alike (hr.mono (by decide)) rfl i_l_alike k_l_alike b_l_alike rfl rfl (A_cons (L_call hG G_point_behind (hr.mono (by decide)) rfl i_point_behind k_point_behind b_point_behind rfl rfl (A_cons (L_var 1) (A_cons (L_var 3) (A_cons (L_var 4) A_nil))) (aLen_cons (aLen_cons (aLen_cons aLen_nil)))) (A_cons (L_ixA (Rm.of hr) (L_var 5) L_int (fun _ _ => rfl) (fun _ _ => rfl)) A_nil)) (aLen_cons (aLen_cons aLen_nil))))) (S_one (S_ret L_bl)) S_nil) (S_one (S_if (T_cmp O_gt (L_callB B_len rfl z_len rfl (A_cons (L_ixA (Rm.of hr) (L_ixA (Rm.of hr) (L_var 1) L_int (fun _ _ => rfl) (fun _ _ => rfl)) L_int (fun _ _ => rfl) (fun _ _ => rfl)) A_nil)) L_int (by first | exact nomark _ | rfl)) (S_cons (S_set (i := 6) sc_l_pasts_right.nd rfl (by first | exact .inl rfl | exact .inr rfl) (L_op O_add L_int (L_call hG G_l_take (hr.mono (by decide)) rfl i_l_take k_l_take b_l_take rfl rfl (A_cons (L_var 0) (A_cons (L_callB B_len rfl z_len rfl (A_cons (L_ixA (Rm.of hr) (L_ixA (Rm.of hr) (L_var 1) L_int (fun _ _ => rfl) (fun _ _ => rfl)) L_int (fun _ _ => rfl) (fun _ _ => rfl)) A_nil)) A_nil)) (aLen_cons (aLen_cons aLen_nil))))) (S_cons (S_set (i := 7) sc_l_pasts_right.nd rfl (by first | exact .inl rfl | exact .inr rfl) (L_ixA (Rm.of hr) (L_ixA (Rm.of hr) (L_ixA (Rm.of hr) (L_var 1) L_int (fun _ _ => rfl) (fun _ _ => rfl)) (L_ixA (Rm.of hr) (L_var 5) L_int (fun _ _ => rfl) (fun _ _ => rfl)) (fun _ _ => rfl) (fun _ _ => rfl)) (L_op O_sub (L_var 6) L_int) (fun _ _ => rfl) (fun _ _ => rfl))) (S_cons (S_set (i := 8) sc_l_pasts_right.nd rfl (by first | exact .inl rfl | exact .inr rfl) (L_if (T_cmp O_isN (L_var 7) L_non (by first | exact nomark _ | rfl)) L_non (L_ixA (Rm.of hr) (L_var 7) L_int (fun _ _ => rfl) (fun _ _ => rfl)))) (S_cons (S_if (T_not (T_val (L_call hG G_l_alike (hr.mono (by decide)) rfl i_l_alike k_l_alike b_l_alike rfl rfl (A_cons (L_call hG G_point_behind (hr.mono (by decide)) rfl i_point_behind k_point_behind b_point_behind rfl rfl (A_cons (L_var 1) (A_cons (L_var 3) (A_cons (L_op O_add (L_var 4) (L_tup (A_cons (L_var 6) A_nil))) A_nil))) (aLen_cons (aLen_cons (aLen_cons aLen_nil)))) (A_cons (L_var 8) A_nil)) (aLen_cons (aLen_cons aLen_nil))))) (S_one (S_ret L_bl)) S_nil) (S_one (S_if (PW.pt (W_and (T_cmp O_isN (L_var 8) L_non (by first | exact nomark _ | rfl)) (pw_and1 (T_cmp O_notN (L_call hG G_point_behind (hr.mono (by decide)) rfl i_point_behind k_point_behind b_point_behind rfl rfl (A_cons (L_var 1) (A_cons (L_var 3) (A_cons (L_op O_add (L_var 4) (L_tup (A_cons (L_var 6) (A_cons L_int A_nil)))) A_nil))) (aLen_cons (aLen_cons (aLen_cons aLen_nil)))) L_non (by first | exact nomark _ | rfl))))) (S_one (S_ret L_bl)) S_nil)))))) S_nil)))))) (S_one (S_ret L_bl)))
abbrev s_p_led : Stmt := top 11
theorem sc_p_led : FnScope ["machine", "there", "run", "now", "at", "deed", "x"] ["machine", "there", "run", "now"] (defScope s_p_led) := ⟨rfl, rfl, rfl, by decide +kernel, rfl, by decide +kernel, by decide +kernel⟩
theorem g_p_led (F : Fun K "_led" "_led" s_p_led f fd) {f_lead : Addr} {fd_lead : FuncData} (G_lead : FnG P w K mg base L2.CX0 1 f_lead fd_lead ["machine", "there", "deed", "x", "now"] (spF ⟨K, w, mg, τ⟩ 5 F_lead)) (i_lead : mg "lead" = some (.ref f_lead)) (k_lead : PySem.W.keepIn K (.ref f_lead) = true) (b_lead : Binds K fd_lead ["machine", "there", "deed", "x", "now"] []) {f_can_lead : Addr} {fd_can_lead : FuncData} (G_can_lead : FnG P w K mg base L2.CX0 1 f_can_lead fd_can_lead ["machine", "there", "deed", "x"] (spF ⟨K, w, mg, τ⟩ 4 F_can_lead)) (i_can_lead : mg "can_lead" = some (.ref f_can_lead)) (k_can_lead : PySem.W.keepIn K (.ref f_can_lead) = true) (b_can_lead : Binds K fd_can_lead ["machine", "there", "deed", "x"] []) (z_enumerate : mg "enumerate" = none) : FnG P w K mg base L2.CX0 2 f fd ["machine", "there", "run", "now"] (spF ⟨K, w, mg, τ⟩ 4 F_p_led) :=
  fn_d F sc_p_led fun cdv A outer s H E hG hr => (S_cons (S_for (ws := ([4] ++ (([5] ++ ([6] ++ [])) ++ []))) PassesOwn.never rfl (I_enum rfl z_enumerate (L_var 2)) (G_tup rfl (Gs_cons (G_name sc_p_led.nd rfl (by first | exact .inl rfl | exact .inr rfl)) (Gs_cons (G_tup rfl (Gs_cons (G_name sc_p_led.nd rfl (by first | exact .inl rfl | exact .inr rfl)) (Gs_cons (G_name sc_p_led.nd rfl (by first | exact .inl rfl | exact .inr rfl)) Gs_nil))) Gs_nil))) (S_cons (S_if (T_not (T_val (L_call hG G_can_lead (hr.mono (by decide)) rfl i_can_lead k_can_lead b_can_lead rfl rfl (A_cons (L_var 0) (A_cons (L_var 1) (A_cons (L_var 5) (A_cons (L_var 6) A_nil)))) (aLen_cons (aLen_cons (aLen_cons (aLen_cons aLen_nil))))))) (S_one (S_ret (L_var 4))) S_nil) (S_one (S_expr (L_call hG G_lead (hr.mono (by decide)) rfl i_lead k_lead b_lead rfl rfl (A_cons (L_var 0) (A_cons (L_var 1) (A_cons (L_var 5) (A_cons (L_var 6) (A_cons (L_op O_add (L_var 3) (L_var 4)) A_nil))))) (aLen_cons (aLen_cons (aLen_cons (aLen_cons (aLen_cons aLen_nil)))))))))) (S_one (S_ret L_non)))
abbrev s_is_ahead_by : Stmt := top 14
theorem sc_is_ahead_by : FnScope ["machine", "row", "one", "other"] ["machine", "row", "one", "other"] (defScope s_is_ahead_by) := ⟨rfl, rfl, rfl, by decide +kernel, rfl, by decide +kernel, by decide +kernel⟩
theorem g_is_ahead_by (F : Fun K "is_ahead_by" "is_ahead_by" s_is_ahead_by f fd) {f_place_by : Addr} {fd_place_by : FuncData} (G_place_by : FnG P w K mg base L2.CX0 1 f_place_by fd_place_by ["machine", "row", "figure"] (spF ⟨K, w, mg, τ⟩ 3 F_place_by)) (i_place_by : mg "place_by" = some (.ref f_place_by)) (k_place_by : PySem.W.keepIn K (.ref f_place_by) = true) (b_place_by : Binds K fd_place_by ["machine", "row", "figure"] []) : FnG P w K mg base L2.CX0 2 f fd ["machine", "row", "one", "other"] (spF ⟨K, w, mg, τ⟩ 4 F_is_ahead_by) :=
  fn_d F sc_is_ahead_by fun cdv A outer s H E hG hr => (S_one (S_ret (L_cmp (O_ltA (Nat.lt_of_le_of_lt (Nat.le_add_right _ 64) (u64 hr))) (L_call hG G_place_by (hr.mono (by decide)) rfl i_place_by k_place_by b_place_by rfl rfl (A_cons (L_var 0) (A_cons (L_var 1) (A_cons (L_var 2) A_nil))) (aLen_cons (aLen_cons (aLen_cons aLen_nil)))) (L_call hG G_place_by (hr.mono (by decide)) rfl i_place_by k_place_by b_place_by rfl rfl (A_cons (L_var 0) (A_cons (L_var 1) (A_cons (L_var 3) A_nil))) (aLen_cons (aLen_cons (aLen_cons aLen_nil)))) (by first | exact nomark _ | rfl))))
abbrev s_l_stands_right : Stmt := top 41
theorem sc_l_stands_right : FnScope ["machine", "figures", "rows", "r", "told", "one", "other"] ["machine", "figures"] (defScope s_l_stands_right) := ⟨rfl, rfl, rfl, by decide +kernel, rfl, by decide +kernel, by decide +kernel⟩
def m_l_stands_right : MS := (sSeq (sSet 2 (mCall F_l_rows_by (aCons (mVar 0) (aCons (mVar 1) aNil)))) (sSeq (sFor (iRng1 (mCall fLen (aCons (mVar 2) aNil))) (gN 3) (sSeq (sSet 4 (mCall F_row_by (aCons (mVar 0) (aCons (mVar 3) (aCons (mVar 1) aNil))))) (sSeq (sIf (tNotM (tTru (mCall F_l_alike (aCons (mVar 4) (aCons (mCall fListA (aCons (m2 dIxA (mVar 2) (mVar 3)) aNil)) aNil))))) (sRet (mC (.bl false))) sNil) (sSeq (sDrop (mMeth fAppend (mVar 4) (aCons (mC .non) aNil))) (sSeq (sFor (iSeq (mVar 1)) (gN 5) (sFor (iSeq (mVar 1)) (gN 6) (sIf (tAndM (tOf (m2 dNe (mVar 5) (mVar 6))) (tNotM (tTru (mCall F_l_alike (aCons (mCall F_is_ahead_by (aCons (mVar 0) (aCons (mVar 3) (aCons (m2 dIxA (mVar 5) (mC (.int 1))) (aCons (m2 dIxA (mVar 6) (mC (.int 1))) aNil))))) (aCons (mCall F_l_ahead (aCons (mVar 0) (aCons (mVar 3) (aCons (m2 dIxA (mVar 5) (mC (.int 1))) (aCons (m2 dIxA (mVar 6) (mC (.int 1))) aNil))))) aNil)))))) (sRet (mC (.bl false))) sNil))) (sIf (tNotM (tTru (mCall F_l_alike (aCons (mCall F_row_by (aCons (mVar 0) (aCons (mVar 3) (aCons (mVar 1) aNil)))) (aCons (mCall fListA (aCons (m2 dIxA (mVar 2) (mVar 3)) aNil)) aNil))))) (sRet (mC (.bl false))) sNil)))))) (sRet (mC (.bl true)))))
def F_l_stands_right : FD := runF 7 m_l_stands_right
theorem g_l_stands_right (F : Fun K "_law_stands_right" "_law_stands_right" s_l_stands_right f fd) {f_l_alike : Addr} {fd_l_alike : FuncData} (G_l_alike : FnG P w K mg base L2.CX0 1 f_l_alike fd_l_alike ["found", "due"] (spF ⟨K, w, mg, τ⟩ 2 F_l_alike)) (i_l_alike : mg "_law_alike" = some (.ref f_l_alike)) (k_l_alike : PySem.W.keepIn K (.ref f_l_alike) = true) (b_l_alike : Binds K fd_l_alike ["found", "due"] []) {f_row_by : Addr} {fd_row_by : FuncData} (G_row_by : FnG P w K mg base L2.CX0 5 f_row_by fd_row_by ["machine", "row", "figures"] (spF ⟨K, w, mg, τ⟩ 3 F_row_by)) (i_row_by : mg "row_by" = some (.ref f_row_by)) (k_row_by : PySem.W.keepIn K (.ref f_row_by) = true) (b_row_by : Binds K fd_row_by ["machine", "row", "figures"] []) {f_l_ahead : Addr} {fd_l_ahead : FuncData} (G_l_ahead : FnG P w K mg base L2.CX0 2 f_l_ahead fd_l_ahead ["machine", "row", "one", "other"] (spF ⟨K, w, mg, τ⟩ 4 F_l_ahead)) (i_l_ahead : mg "_law_ahead" = some (.ref f_l_ahead)) (k_l_ahead : PySem.W.keepIn K (.ref f_l_ahead) = true) (b_l_ahead : Binds K fd_l_ahead ["machine", "row", "one", "other"] []) {f_is_ahead_by : Addr} {fd_is_ahead_by : FuncData} (G_is_ahead_by : FnG P w K mg base L2.CX0 2 f_is_ahead_by fd_is_ahead_by ["machine", "row", "one", "other"] (spF ⟨K, w, mg, τ⟩ 4 F_is_ahead_by)) (i_is_ahead_by : mg "is_ahead_by" = some (.ref f_is_ahead_by)) (k_is_ahead_by : PySem.W.keepIn K (.ref f_is_ahead_by) = true) (b_is_ahead_by : Binds K fd_is_ahead_by ["machine", "row", "one", "other"] []) {f_l_rows_by : Addr} {fd_l_rows_by : FuncData} (G_l_rows_by : FnG P w K mg base L2.CX0 3 f_l_rows_by fd_l_rows_by ["machine", "figures"] (spF ⟨K, w, mg, τ⟩ 2 F_l_rows_by)) (i_l_rows_by : mg "_law_rows_by" = some (.ref f_l_rows_by)) (k_l_rows_by : PySem.W.keepIn K (.ref f_l_rows_by) = true) (b_l_rows_by : Binds K fd_l_rows_by ["machine", "figures"] []) (z_len : mg "len" = none) (z_range : mg "range" = none) (z_list : mg "list" = none) : FnG P w K mg base L2.CX0 6 f fd ["machine", "figures"] (spF ⟨K, w, mg, τ⟩ 2 F_l_stands_right) :=
  fn_d F sc_l_stands_right fun cdv A outer s H E hG hr => (S_cons (S_set (i := 2) sc_l_stands_right.nd rfl (by first | exact .inl rfl | exact .inr rfl) (L_call hG G_l_rows_by (hr.mono (by decide)) rfl i_l_rows_by k_l_rows_by b_l_rows_by rfl rfl (A_cons (L_var 0) (A_cons (L_var 1) A_nil)) (aLen_cons (aLen_cons aLen_nil)))) (S_cons (S_for (ws := [3]) PassesOwn.never rfl (I_rng1 rfl z_range (L_callB B_len rfl z_len rfl (A_cons (L_var 2) A_nil))) (G_name sc_l_stands_right.nd rfl (by first | exact .inl rfl | exact .inr rfl)) (S_cons (S_set (i := 4) sc_l_stands_right.nd rfl (by first | exact .inl rfl | exact .inr rfl) (L_call hG G_row_by (hr.mono (by decide)) rfl i_row_by k_row_by b_row_by rfl rfl (A_cons (L_var 0) (A_cons (L_var 3) (A_cons (L_var 1) A_nil))) (aLen_cons (aLen_cons (aLen_cons aLen_nil))))) (S_cons (S_if (T_not (T_val (L_call hG G_l_alike (hr.mono (by decide)) rfl i_l_alike k_l_alike b_l_alike rfl rfl (A_cons (L_var 4) (A_cons (L_callTy (B_listA rfl) rfl z_list rfl (A_cons (L_ixA (Rm.of hr) (L_var 2) (L_var 3) (fun _ _ => rfl) (fun _ _ => rfl)) A_nil)) A_nil)) (aLen_cons (aLen_cons aLen_nil))))) (S_one (S_ret L_bl)) S_nil) (S_cons (S_expr (L_append (pl := pure true) (L_var 4) (A_cons L_non A_nil) (pe_bm PySem.F.plainAttrs_list PySem.F.slot_list_append PySem.F.type_list_append M_append (L_var 4) (A_cons L_non A_nil)))) (S_cons (S_for (ws := [5]) PassesOwn.never rfl (I_seq (L_var 1)) (G_name sc_l_stands_right.nd rfl (by first | exact .inl rfl | exact .inr rfl)) (S_one (S_for (ws := [6]) PassesOwn.never rfl (I_seq (L_var 1)) (G_name sc_l_stands_right.nd rfl (by first | exact .inl rfl | exact .inr rfl)) (S_one (S_if (PW.pt (W_and (T_cmp (O_ne (u64 hr)) (L_var 5) (L_var 6) (by first | exact nomark _ | rfl)) (pw_and1 (T_not (T_val (L_call hG G_l_alike (hr.mono (by decide)) rfl i_l_alike k_l_alike b_l_alike rfl rfl (A_cons (L_call hG G_is_ahead_by (hr.mono (by decide)) rfl i_is_ahead_by k_is_ahead_by b_is_ahead_by rfl rfl (A_cons (L_var 0) (A_cons (L_var 3) (A_cons (L_ixA (Rm.of hr) (L_var 5) L_int (fun _ _ => rfl) (fun _ _ => rfl)) (A_cons (L_ixA (Rm.of hr) (L_var 6) L_int (fun _ _ => rfl) (fun _ _ => rfl)) A_nil)))) (aLen_cons (aLen_cons (aLen_cons (aLen_cons aLen_nil))))) (A_cons (L_call hG G_l_ahead (hr.mono (by decide)) rfl i_l_ahead k_l_ahead b_l_ahead rfl rfl (A_cons (L_var 0) (A_cons (L_var 3) (A_cons (L_ixA (Rm.of hr) (L_var 5) L_int (fun _ _ => rfl) (fun _ _ => rfl)) (A_cons (L_ixA (Rm.of hr) (L_var 6) L_int (fun _ _ => rfl) (fun _ _ => rfl)) A_nil)))) (aLen_cons (aLen_cons (aLen_cons (aLen_cons aLen_nil))))) A_nil)) (aLen_cons (aLen_cons aLen_nil)))))))) (S_one (S_ret L_bl)) S_nil))))) (S_one (S_if (T_not (T_val (L_call hG G_l_alike (hr.mono (by decide)) rfl i_l_alike k_l_alike b_l_alike rfl rfl (A_cons (L_call hG G_row_by (hr.mono (by decide)) rfl i_row_by k_row_by b_row_by rfl rfl (A_cons (L_var 0) (A_cons (L_var 3) (A_cons (L_var 1) A_nil))) (aLen_cons (aLen_cons (aLen_cons aLen_nil)))) (A_cons (L_callTy (B_listA rfl) rfl z_list rfl (A_cons (L_ixA (Rm.of hr) (L_var 2) (L_var 3) (fun _ _ => rfl) (fun _ _ => rfl)) A_nil)) A_nil)) (aLen_cons (aLen_cons aLen_nil))))) (S_one (S_ret L_bl)) S_nil))))))) (S_one (S_ret L_bl))))
abbrev s_first_barred : Stmt := top 7
theorem sc_first_barred : FnScope ["machine", "run"] ["machine", "run"] (defScope s_first_barred) := ⟨rfl, rfl, rfl, by decide +kernel, rfl, by decide +kernel, by decide +kernel⟩
theorem g_first_barred (F : Fun K "first_barred" "first_barred" s_first_barred f fd) {f_p_led : Addr} {fd_p_led : FuncData} (G_p_led : FnG P w K mg base L2.CX0 2 f_p_led fd_p_led ["machine", "there", "run", "now"] (spF ⟨K, w, mg, τ⟩ 4 F_p_led)) (i_p_led : mg "_led" = some (.ref f_p_led)) (k_p_led : PySem.W.keepIn K (.ref f_p_led) = true) (b_p_led : Binds K fd_p_led ["machine", "there", "run", "now"] []) : FnG P w K mg base L2.CX0 3 f fd ["machine", "run"] (spF ⟨K, w, mg, τ⟩ 2 F_first_barred) :=
  fn_d F sc_first_barred fun cdv A outer s H E hG hr => (S_one (S_ret (L_call hG G_p_led (hr.mono (by decide)) rfl i_p_led k_p_led b_p_led rfl rfl (A_cons (L_var 0) (A_cons L_dct0 (A_cons (L_var 1) (A_cons L_int A_nil)))) (aLen_cons (aLen_cons (aLen_cons (aLen_cons aLen_nil)))))))
abbrev s_NoIndex_init : Stmt := clsAt (top 2) 0
theorem sc_NoIndex_init : FnScope ["self", "index"] ["self", "index"] (defScope s_NoIndex_init) := ⟨rfl, rfl, rfl, by decide +kernel, rfl, by decide +kernel, by decide +kernel⟩
theorem init_NoIndex (F : Fun K "__init__" "NoIndex.__init__" s_NoIndex_init f fd) : FnOk P w K mg base L2.CX0 1 f fd ["self", "index"] (spInit K 1 [("index", 1)]) :=
  init_ok F sc_NoIndex_init rfl (by simp) (by decide) fun cdv A outer s H E => (init_cons (τ := []) (hs0 := rfl) (hi := rfl) (v0 := .inl rfl) (vi := .inl rfl) (hs := rfl) (h := (init_nil (τ := []))))
abbrev s_led_on : Stmt := top 10
theorem sc_led_on : FnScope ["machine", "figures", "run", "now", "there", "barred", "x", "figure"] ["machine", "figures", "run", "now"] (defScope s_led_on) := ⟨rfl, rfl, rfl, by decide +kernel, rfl, by decide +kernel, by decide +kernel⟩
theorem g_led_on (F : Fun K "led_on" "led_on" s_led_on f fd) {f_p_led : Addr} {fd_p_led : FuncData} (G_p_led : FnG P w K mg base L2.CX0 2 f_p_led fd_p_led ["machine", "there", "run", "now"] (spF ⟨K, w, mg, τ⟩ 4 F_p_led)) (i_p_led : mg "_led" = some (.ref f_p_led)) (k_p_led : PySem.W.keepIn K (.ref f_p_led) = true) (b_p_led : Binds K fd_p_led ["machine", "there", "run", "now"] []) {C_NoIndex fI_NoIndex : Addr} {fdI_NoIndex : FuncData} (T_NoIndex : OexC K C_NoIndex) (X_NoIndex : XfC K C_NoIndex) (iC_NoIndex : PySem.W.findIn K (.ref C_NoIndex) "__init__" = some (some (.ref fI_NoIndex))) (tI_NoIndex : PySem.W.typeIn K (.ref fI_NoIndex) = some (.type "function")) (I_NoIndex : FnOk P w K mg base L2.CX0 1 fI_NoIndex fdI_NoIndex ["self", "index"] (spInit K 1 [("index", 1)])) (bI_NoIndex : Binds K fdI_NoIndex ["self", "index"] []) (c_NoIndex : mg "NoIndex" = some (.ref C_NoIndex)) (n_NoIndex : ∀ (f : Str) (i : Nat), (f, i) ∈ ([("index", 1)] : List (Str × Nat)) → PySem.W.findIn K (.ref C_NoIndex) f = some none) (e_NoIndex : PySem.W.exmOne K (.ref C_NoIndex) (.ref C_NoIndex) = some true) (z_sorted : mg "sorted" = none) : FnG P w K mg base (L2.CX P w) 3 f fd ["machine", "figures", "run", "now"] (spX ⟨K, w, mg, τ⟩ 4 F_led_on) :=
  fn_x F sc_led_on fun cdv A outer s H E hG hr W tk hp => (S_cons (S_set (i := 4) sc_led_on.nd rfl (by first | exact .inl rfl | exact .inr rfl) (L_dcomp (ws := ([6] ++ ([7] ++ []))) (own := [("x", 6), ("figure", 7)]) (Rm.of hr) rfl sc_led_on.nd (I_seq (L_var 1)) (blk_mk rfl) (fun _ _ _ _ _ => (G_tup rfl (Gs_cons (G_name sc_led_on.nd rfl (by first | exact .inl rfl | exact .inr rfl)) (Gs_cons (G_name sc_led_on.nd rfl (by first | exact .inl rfl | exact .inr rfl)) Gs_nil)))) (fun _ _ _ _ _ => Pts_nil) (fun _ _ _ _ _ => (L_var 6)) (fun _ _ _ _ _ => (L_var 7)))) (S_cons (S_set (i := 5) sc_led_on.nd rfl (by first | exact .inl rfl | exact .inr rfl) (L_call hG G_p_led (hr.mono (by decide)) rfl i_p_led k_p_led b_p_led rfl rfl (A_cons (L_var 0) (A_cons (L_var 4) (A_cons (L_var 2) (A_cons (L_var 3) A_nil)))) (aLen_cons (aLen_cons (aLen_cons (aLen_cons aLen_nil)))))) (S_cons (S_if (T_cmp O_notN (L_var 5) L_non (by first | exact nomark _ | rfl)) (S_one (S_raise rfl tk T_NoIndex iC_NoIndex tI_NoIndex I_NoIndex (hr.mono (by decide)) bI_NoIndex rfl c_NoIndex n_NoIndex (by decide) (A_cons (L_var 5) A_nil))) S_nil) (S_one (S_ret (L_comp (ws := [6]) (own := [("x", 6)]) rfl sc_led_on.nd (I_seq (L_callB (B_sorted rfl (Rm.of hr)) rfl z_sorted rfl (A_cons (L_var 4) A_nil))) (blk_mk rfl) (fun _ _ _ _ _ => (G_name sc_led_on.nd rfl (by first | exact .inl rfl | exact .inr rfl))) (fun _ _ _ _ _ => Pts_nil) (fun _ _ _ _ _ => (L_tup (A_cons (L_var 6) (A_cons (L_ixA (Rm.of hr) (L_var 4) (L_var 6) (fun _ _ => rfl) (fun _ _ => rfl)) A_nil))))))))))
abbrev s_figures_of : Stmt := top 9
theorem sc_figures_of : FnScope ["machine", "run"] ["machine", "run"] (defScope s_figures_of) := ⟨rfl, rfl, rfl, by decide +kernel, rfl, by decide +kernel, by decide +kernel⟩
theorem g_figures_of (F : Fun K "figures_of" "figures_of" s_figures_of f fd) {f_led_on : Addr} {fd_led_on : FuncData} (G_led_on : FnG P w K mg base (L2.CX P w) 3 f_led_on fd_led_on ["machine", "figures", "run", "now"] (spX ⟨K, w, mg, τ⟩ 4 F_led_on)) (i_led_on : mg "led_on" = some (.ref f_led_on)) (k_led_on : PySem.W.keepIn K (.ref f_led_on) = true) (b_led_on : Binds K fd_led_on ["machine", "figures", "run", "now"] []) : FnG P w K mg base (L2.CX P w) 4 f fd ["machine", "run"] (spX ⟨K, w, mg, τ⟩ 2 F_figures_of) :=
  fn_x F sc_figures_of fun cdv A outer s H E hG hr W tk hp => (S_one (S_retX (X_call tk hG G_led_on (hr.mono (by decide)) rfl i_led_on k_led_on b_led_on rfl rfl (A_cons (L_var 0) (A_cons (L_lst A_nil) (A_cons (L_var 1) (A_cons L_int A_nil)))) (aLen_cons (aLen_cons (aLen_cons (aLen_cons aLen_nil)))))))
abbrev s_law : Stmt := top 43
theorem sc_law : FnScope ["script", "bag", "turn", "machine", "told", "things", "run", "some", "r", "rows", "many", "given", "barred", "figures", "found"] ["script"] (defScope s_law) := ⟨rfl, rfl, rfl, by decide +kernel, rfl, by decide +kernel, by decide +kernel⟩
def m_law : MS := (sSeq (sSet 1 (mCall F_l_bag (aCons (mVar 0) aNil))) (sSeq (sFor (iRng1 (mC (.int 3))) (gN 2) (sSeq (sSet 3 (mCall F_l_machine (aCons (mVar 1) (aCons (m2 dAdd (mC (.int 1)) (mCall F_l_take (aCons (mVar 1) (aCons (mC (.int 2)) aNil)))) (aCons (mC (.int 5)) (aCons (mC (.int 3)) (aCons (m2 dAdd (mC (.int 1)) (mCall F_l_take (aCons (mVar 1) (aCons (mC (.int 2)) aNil)))) (aCons (mC (.int 5)) aNil)))))))) (sSeq (sIf (tOf (m2 dEq (mCall F_l_take (aCons (mVar 1) (aCons (mC (.int 8)) aNil))) (mC (.int 0)))) (sSet 3 (mTup (aCons (m2 dIxA (mVar 3) (mC (.int 0))) (aCons (m2 dIxA (mVar 3) (mC (.int 1))) (aCons (m2 dMulA (mTup (aCons (mTup aNil) aNil)) (mCall fLen (aCons (m2 dIxA (mVar 3) (mC (.int 1))) aNil))) aNil))))) sNil) (sSeq (sPar 9 10 (aCons (mCall fLen (aCons (m2 dIxA (m2 dIxA (m2 dIxA (mVar 3) (mC (.int 1))) (mC (.int 0))) (mC (.int 0))) aNil)) (aCons (mCall fLen (aCons (m2 dIxA (m2 dIxA (mVar 3) (mC (.int 2))) (mC (.int 0))) aNil)) aNil))) (sSeq (sSet 4 (mLst (aCons (mCall F_machine_kinds (aCons (mVar 3) aNil)) (aCons (mCall F_machine_deeds (aCons (mVar 3) aNil)) (aCons (mCall F_machine_rows (aCons (mVar 3) aNil)) aNil))))) (sSeq (sIf (tNotM (tTru (mCall F_l_alike (aCons (mVar 4) (aCons (mLst (aCons (mCall fLen (aCons (m2 dIxA (mVar 3) (mC (.int 0))) aNil)) (aCons (m2 dAdd (mVar 10) (mC (.int 1))) (aCons (mVar 9) aNil)))) aNil))))) (sRet (mC (.bl false))) sNil) (sSeq (sSet 5 (mCall F_l_some_things (aCons (mVar 1) (aCons (mCall fLen (aCons (m2 dIxA (mVar 3) (mC (.int 0))) aNil)) (aCons (m2 dAdd (mC (.int 1)) (mCall F_l_take (aCons (mVar 1) (aCons (mC (.int 7)) aNil)))) aNil))))) (sSeq (sSet 6 (mCall F_l_run_of (aCons (mVar 1) (aCons (mVar 3) (aCons (mVar 5) (aCons (mCall F_l_take (aCons (mVar 1) (aCons (mC (.int 31)) aNil))) aNil)))))) (sSeq (sFor (iSeq (mTup (aCons (mVar 6) (aCons (mCall F_l_bent_run (aCons (mVar 1) (aCons (mVar 3) (aCons (mVar 6) (aCons (mVar 5) aNil))))) (aCons (mLst aNil) aNil))))) (gN 7) (sSeq (sPar 11 12 (aCons (mCall fListA (aCons (mVar 7) aNil)) (aCons (mCall F_l_barred_at (aCons (mVar 3) (aCons (mVar 7) aNil))) aNil))) (sSeq (sIf (tOrM (tNotM (tTru (mCall F_l_alike (aCons (mCall F_first_barred (aCons (mVar 3) (aCons (mVar 11) aNil))) (aCons (mVar 12) aNil))))) (tOf (m2 dNe (mVar 11) (mVar 7)))) (sRet (mC (.bl false))) sNil) (sIf (tOf (m2 dIsN (mVar 12) (mC .non))) (sSeq (sSet 13 (mCall F_l_figures (aCons (mVar 3) (aCons (mVar 7) aNil)))) (sSeq (sSetX 14 (xCall F_figures_of (aCons (mVar 3) (aCons (mVar 11) aNil)))) (sSeq (sIf (tOrM (tNotM (tTru (mCall F_l_alike (aCons (mVar 14) (aCons (mVar 13) aNil))))) (tNotM (tTru (mCall F_l_stands_right (aCons (mVar 3) (aCons (mVar 13) aNil)))))) (sRet (mC (.bl false))) sNil) (sSeq (sDrop (mMeth fAppend (mVar 14) (aCons (mC .non) aNil))) (sIf (tOrM (tNotM (tTru (mCall F_l_alike (aCons (mCall (okF F_figures_of) (aCons (mVar 3) (aCons (mVar 11) aNil))) (aCons (mVar 13) aNil))))) (tOf (m2 dNe (mVar 11) (mVar 7)))) (sRet (mC (.bl false))) sNil))))) sNil)))) (sSeq (sIf (tNotM (tTru (mCall F_l_pasts_right (aCons (mVar 1) (aCons (mVar 3) aNil))))) (sRet (mC (.bl false))) sNil) (sSeq (sFor (iRng1 (mVar 9)) (gN 8) (sIf (tNotM (tTru (mCall F_l_alike (aCons (mCall F_row_machine (aCons (mVar 3) (aCons (mVar 8) aNil))) (aCons (mCall F_l_of_row (aCons (mVar 3) (aCons (mVar 8) aNil))) aNil))))) (sRet (mC (.bl false))) sNil)) (sSeq (sSet 4 (mCall F_l_labelled (aCons (mVar 3) aNil))) (sIf (tOf (m2 dNe (mComp (iRng1 (mVar 9)) (gN 8) (tNotM (tTru (mCall F_l_alike (aCons (mCall F_row_machine (aCons (mVar 4) (aCons (mVar 8) aNil))) (aCons (mCall F_l_of_row (aCons (mVar 4) (aCons (mVar 8) aNil))) aNil))))) (mC (.int 1)) [8]) (mLst aNil))) (sRet (mC (.bl false))) sNil))))))))))))) (sRet (mC (.bl true)))))
def F_law : FD := runF 15 m_law
theorem g_law (F : Fun K "law" "law" s_law f fd) {f_l_alike : Addr} {fd_l_alike : FuncData} (G_l_alike : FnG P w K mg base L2.CX0 1 f_l_alike fd_l_alike ["found", "due"] (spF ⟨K, w, mg, τ⟩ 2 F_l_alike)) (i_l_alike : mg "_law_alike" = some (.ref f_l_alike)) (k_l_alike : PySem.W.keepIn K (.ref f_l_alike) = true) (b_l_alike : Binds K fd_l_alike ["found", "due"] []) {f_l_of_row : Addr} {fd_l_of_row : FuncData} (G_l_of_row : FnG P w K mg base L2.CX0 1 f_l_of_row fd_l_of_row ["machine", "row"] (spF ⟨K, w, mg, τ⟩ 2 F_l_of_row)) (i_l_of_row : mg "_law_of_row" = some (.ref f_l_of_row)) (k_l_of_row : PySem.W.keepIn K (.ref f_l_of_row) = true) (b_l_of_row : Binds K fd_l_of_row ["machine", "row"] []) {f_row_machine : Addr} {fd_row_machine : FuncData} (G_row_machine : FnG P w K mg base L2.CX0 1 f_row_machine fd_row_machine ["machine", "row"] (spF ⟨K, w, mg, τ⟩ 2 F_row_machine)) (i_row_machine : mg "row_machine" = some (.ref f_row_machine)) (k_row_machine : PySem.W.keepIn K (.ref f_row_machine) = true) (b_row_machine : Binds K fd_row_machine ["machine", "row"] []) {f_l_labelled : Addr} {fd_l_labelled : FuncData} (G_l_labelled : FnG P w K mg base L2.CX0 1 f_l_labelled fd_l_labelled ["machine"] (spF ⟨K, w, mg, τ⟩ 1 F_l_labelled)) (i_l_labelled : mg "_law_labelled" = some (.ref f_l_labelled)) (k_l_labelled : PySem.W.keepIn K (.ref f_l_labelled) = true) (b_l_labelled : Binds K fd_l_labelled ["machine"] []) {f_l_pasts_right : Addr} {fd_l_pasts_right : FuncData} (G_l_pasts_right : FnG P w K mg base L2.CX0 4 f_l_pasts_right fd_l_pasts_right ["bag", "machine"] (spF ⟨K, w, mg, τ⟩ 2 F_l_pasts_right)) (i_l_pasts_right : mg "_law_pasts_right" = some (.ref f_l_pasts_right)) (k_l_pasts_right : PySem.W.keepIn K (.ref f_l_pasts_right) = true) (b_l_pasts_right : Binds K fd_l_pasts_right ["bag", "machine"] []) {f_l_bent_run : Addr} {fd_l_bent_run : FuncData} (G_l_bent_run : FnG P w K mg base L2.CX0 3 f_l_bent_run fd_l_bent_run ["bag", "machine", "run", "things"] (spF ⟨K, w, mg, τ⟩ 4 F_l_bent_run)) (i_l_bent_run : mg "_law_bent_run" = some (.ref f_l_bent_run)) (k_l_bent_run : PySem.W.keepIn K (.ref f_l_bent_run) = true) (b_l_bent_run : Binds K fd_l_bent_run ["bag", "machine", "run", "things"] []) {f_figures_of : Addr} {fd_figures_of : FuncData} (G_figures_of : FnG P w K mg base (L2.CX P w) 4 f_figures_of fd_figures_of ["machine", "run"] (spX ⟨K, w, mg, τ⟩ 2 F_figures_of)) (i_figures_of : mg "figures_of" = some (.ref f_figures_of)) (k_figures_of : PySem.W.keepIn K (.ref f_figures_of) = true) (b_figures_of : Binds K fd_figures_of ["machine", "run"] []) {f_l_stands_right : Addr} {fd_l_stands_right : FuncData} (G_l_stands_right : FnG P w K mg base L2.CX0 6 f_l_stands_right fd_l_stands_right ["machine", "figures"] (spF ⟨K, w, mg, τ⟩ 2 F_l_stands_right)) (i_l_stands_right : mg "_law_stands_right" = some (.ref f_l_stands_right)) (k_l_stands_right : PySem.W.keepIn K (.ref f_l_stands_right) = true) (b_l_stands_right : Binds K fd_l_stands_right ["machine", "figures"] []) {f_l_figures : Addr} {fd_l_figures : FuncData} (G_l_figures : FnG P w K mg base L2.CX0 4 f_l_figures fd_l_figures ["machine", "run"] (spF ⟨K, w, mg, τ⟩ 2 F_l_figures)) (i_l_figures : mg "_law_figures" = some (.ref f_l_figures)) (k_l_figures : PySem.W.keepIn K (.ref f_l_figures) = true) (b_l_figures : Binds K fd_l_figures ["machine", "run"] []) {f_first_barred : Addr} {fd_first_barred : FuncData} (G_first_barred : FnG P w K mg base L2.CX0 3 f_first_barred fd_first_barred ["machine", "run"] (spF ⟨K, w, mg, τ⟩ 2 F_first_barred)) (i_first_barred : mg "first_barred" = some (.ref f_first_barred)) (k_first_barred : PySem.W.keepIn K (.ref f_first_barred) = true) (b_first_barred : Binds K fd_first_barred ["machine", "run"] []) {f_l_barred_at : Addr} {fd_l_barred_at : FuncData} (G_l_barred_at : FnG P w K mg base L2.CX0 4 f_l_barred_at fd_l_barred_at ["machine", "run"] (spF ⟨K, w, mg, τ⟩ 2 F_l_barred_at)) (i_l_barred_at : mg "_law_barred_at" = some (.ref f_l_barred_at)) (k_l_barred_at : PySem.W.keepIn K (.ref f_l_barred_at) = true) (b_l_barred_at : Binds K fd_l_barred_at ["machine", "run"] []) {f_l_run_of : Addr} {fd_l_run_of : FuncData} (G_l_run_of : FnG P w K mg base L2.CX0 4 f_l_run_of fd_l_run_of ["bag", "machine", "things", "many"] (spF ⟨K, w, mg, τ⟩ 4 F_l_run_of)) (i_l_run_of : mg "_law_run_of" = some (.ref f_l_run_of)) (k_l_run_of : PySem.W.keepIn K (.ref f_l_run_of) = true) (b_l_run_of : Binds K fd_l_run_of ["bag", "machine", "things", "many"] []) {f_l_take : Addr} {fd_l_take : FuncData} (G_l_take : FnG P w K mg base L2.CX0 1 f_l_take fd_l_take ["bag", "upto"] (spF ⟨K, w, mg, τ⟩ 2 F_l_take)) (i_l_take : mg "_law_take" = some (.ref f_l_take)) (k_l_take : PySem.W.keepIn K (.ref f_l_take) = true) (b_l_take : Binds K fd_l_take ["bag", "upto"] []) {f_l_some_things : Addr} {fd_l_some_things : FuncData} (G_l_some_things : FnG P w K mg base L2.CX0 3 f_l_some_things fd_l_some_things ["bag", "kinds", "many"] (spF ⟨K, w, mg, τ⟩ 3 F_l_some_things)) (i_l_some_things : mg "_law_some_things" = some (.ref f_l_some_things)) (k_l_some_things : PySem.W.keepIn K (.ref f_l_some_things) = true) (b_l_some_things : Binds K fd_l_some_things ["bag", "kinds", "many"] []) {f_machine_rows : Addr} {fd_machine_rows : FuncData} (G_machine_rows : FnG P w K mg base L2.CX0 1 f_machine_rows fd_machine_rows ["machine"] (spF ⟨K, w, mg, τ⟩ 1 F_machine_rows)) (i_machine_rows : mg "machine_rows" = some (.ref f_machine_rows)) (k_machine_rows : PySem.W.keepIn K (.ref f_machine_rows) = true) (b_machine_rows : Binds K fd_machine_rows ["machine"] []) {f_machine_deeds : Addr} {fd_machine_deeds : FuncData} (G_machine_deeds : FnG P w K mg base L2.CX0 1 f_machine_deeds fd_machine_deeds ["machine"] (spF ⟨K, w, mg, τ⟩ 1 F_machine_deeds)) (i_machine_deeds : mg "machine_deeds" = some (.ref f_machine_deeds)) (k_machine_deeds : PySem.W.keepIn K (.ref f_machine_deeds) = true) (b_machine_deeds : Binds K fd_machine_deeds ["machine"] []) {f_machine_kinds : Addr} {fd_machine_kinds : FuncData} (G_machine_kinds : FnG P w K mg base L2.CX0 1 f_machine_kinds fd_machine_kinds ["machine"] (spF ⟨K, w, mg, τ⟩ 1 F_machine_kinds)) (i_machine_kinds : mg "machine_kinds" = some (.ref f_machine_kinds)) (k_machine_kinds : PySem.W.keepIn K (.ref f_machine_kinds) = true) (b_machine_kinds : Binds K fd_machine_kinds ["machine"] []) {f_l_machine : Addr} {fd_l_machine : FuncData} (G_l_machine : FnG P w K mg base L2.CX0 4 f_l_machine fd_l_machine ["bag", "kinds", "points", "live", "rows", "deeds"] (spF ⟨K, w, mg, τ⟩ 6 F_l_machine)) (i_l_machine : mg "_law_machine" = some (.ref f_l_machine)) (k_l_machine : PySem.W.keepIn K (.ref f_l_machine) = true) (b_l_machine : Binds K fd_l_machine ["bag", "kinds", "points", "live", "rows", "deeds"] []) {f_l_bag : Addr} {fd_l_bag : FuncData} (G_l_bag : FnG P w K mg base L2.CX0 1 f_l_bag fd_l_bag ["script"] (spF ⟨K, w, mg, τ⟩ 1 F_l_bag)) (i_l_bag : mg "_law_bag" = some (.ref f_l_bag)) (k_l_bag : PySem.W.keepIn K (.ref f_l_bag) = true) (b_l_bag : Binds K fd_l_bag ["script"] []) (z_range : mg "range" = none) (z_list : mg "list" = none) (z_len : mg "len" = none) : FnG P w K mg base L2.CX0 7 f fd ["script"] (spF ⟨K, w, mg, τ⟩ 1 F_law) :=
  fn_d F sc_law fun cdv A outer s H E hG hr => (S_cons (S_set (i := 1) sc_law.nd rfl (by first | exact .inl rfl | exact .inr rfl) (L_call hG G_l_bag (hr.mono (by decide)) rfl i_l_bag k_l_bag b_l_bag rfl rfl (A_cons (L_var 0) A_nil) (aLen_cons aLen_nil))) (S_cons (S_for (ws := [2]) PassesOwn.never rfl (I_rng1 rfl z_range L_int) (G_name sc_law.nd rfl (by first | exact .inl rfl | exact .inr rfl)) (S_cons (S_set (i := 3) sc_law.nd rfl (by first | exact .inl rfl | exact .inr rfl) (L_call hG G_l_machine (hr.mono (by decide)) rfl i_l_machine k_l_machine b_l_machine rfl rfl (A_cons (L_var 1) (A_cons (L_op O_add L_int (L_call hG G_l_take (hr.mono (by decide)) rfl i_l_take k_l_take b_l_take rfl rfl (A_cons (L_var 1) (A_cons L_int A_nil)) (aLen_cons (aLen_cons aLen_nil)))) (A_cons L_int (A_cons L_int (A_cons (L_op O_add L_int (L_call hG G_l_take (hr.mono (by decide)) rfl i_l_take k_l_take b_l_take rfl rfl (A_cons (L_var 1) (A_cons L_int A_nil)) (aLen_cons (aLen_cons aLen_nil)))) (A_cons L_int A_nil)))))) (aLen_cons (aLen_cons (aLen_cons (aLen_cons (aLen_cons (aLen_cons aLen_nil)))))))) (S_cons (S_if (T_cmp (O_eq (u64 hr)) (L_call hG G_l_take (hr.mono (by decide)) rfl i_l_take k_l_take b_l_take rfl rfl (A_cons (L_var 1) (A_cons L_int A_nil)) (aLen_cons (aLen_cons aLen_nil))) L_int (by first | exact nomark _ | rfl)) (S_one (S_set (i := 3) sc_law.nd rfl (by first | exact .inl rfl | exact .inr rfl) (L_tup (A_cons (L_ixA (Rm.of hr) (L_var 3) L_int (fun _ _ => rfl) (fun _ _ => rfl)) (A_cons (L_ixA (Rm.of hr) (L_var 3) L_int (fun _ _ => rfl) (fun _ _ => rfl)) (A_cons (L_op O_mulA (L_tup (A_cons (L_tup A_nil) A_nil)) (L_callB B_len rfl z_len rfl (A_cons (L_ixA (Rm.of hr) (L_var 3) L_int (fun _ _ => rfl) (fun _ _ => rfl)) A_nil))) A_nil)))))) S_nil) (S_cons (S_par (i := 9) (j := 10) rfl sc_law.nd rfl rfl (by decide) rfl rfl (A_cons (L_callB B_len rfl z_len rfl (A_cons (L_ixA (Rm.of hr) (L_ixA (Rm.of hr) (L_ixA (Rm.of hr) (L_var 3) L_int (fun _ _ => rfl) (fun _ _ => rfl)) L_int (fun _ _ => rfl) (fun _ _ => rfl)) L_int (fun _ _ => rfl) (fun _ _ => rfl)) A_nil)) (A_cons (L_callB B_len rfl z_len rfl (A_cons (L_ixA (Rm.of hr) (L_ixA (Rm.of hr) (L_var 3) L_int (fun _ _ => rfl) (fun _ _ => rfl)) L_int (fun _ _ => rfl) (fun _ _ => rfl)) A_nil)) A_nil)) rfl) (S_cons (S_set (i := 4) sc_law.nd rfl (by first | exact .inl rfl | exact .inr rfl) (L_lst (A_cons (L_call hG G_machine_kinds (hr.mono (by decide)) rfl i_machine_kinds k_machine_kinds b_machine_kinds rfl rfl (A_cons (L_var 3) A_nil) (aLen_cons aLen_nil)) (A_cons (L_call hG G_machine_deeds (hr.mono (by decide)) rfl i_machine_deeds k_machine_deeds b_machine_deeds rfl rfl (A_cons (L_var 3) A_nil) (aLen_cons aLen_nil)) (A_cons (L_call hG G_machine_rows (hr.mono (by decide)) rfl i_machine_rows k_machine_rows b_machine_rows rfl rfl (A_cons (L_var 3) A_nil) (aLen_cons aLen_nil)) A_nil))))) (S_cons (S_if (T_not (T_val (L_call hG G_l_alike (hr.mono (by decide)) rfl i_l_alike k_l_alike b_l_alike rfl rfl (A_cons (L_var 4) (A_cons (L_lst (A_cons (L_callB B_len rfl z_len rfl (A_cons (L_ixA (Rm.of hr) (L_var 3) L_int (fun _ _ => rfl) (fun _ _ => rfl)) A_nil)) (A_cons (L_op O_add (L_var 10) L_int) (A_cons (L_var 9) A_nil)))) A_nil)) (aLen_cons (aLen_cons aLen_nil))))) (S_one (S_ret L_bl)) S_nil) (S_cons (S_set (i := 5) sc_law.nd rfl (by first | exact .inl rfl | exact .inr rfl) (L_call hG G_l_some_things (hr.mono (by decide)) rfl i_l_some_things k_l_some_things b_l_some_things rfl rfl (A_cons (L_var 1) (A_cons (L_callB B_len rfl z_len rfl (A_cons (L_ixA (Rm.of hr) (L_var 3) L_int (fun _ _ => rfl) (fun _ _ => rfl)) A_nil)) (A_cons (L_op O_add L_int (L_call hG G_l_take (hr.mono (by decide)) rfl i_l_take k_l_take b_l_take rfl rfl (A_cons (L_var 1) (A_cons L_int A_nil)) (aLen_cons (aLen_cons aLen_nil)))) A_nil))) (aLen_cons (aLen_cons (aLen_cons aLen_nil))))) (S_cons (S_set (i := 6) sc_law.nd rfl (by first | exact .inl rfl | exact .inr rfl) (L_call hG G_l_run_of (hr.mono (by decide)) rfl i_l_run_of k_l_run_of b_l_run_of rfl rfl (A_cons (L_var 1) (A_cons (L_var 3) (A_cons (L_var 5) (A_cons (L_call hG G_l_take (hr.mono (by decide)) rfl i_l_take k_l_take b_l_take rfl rfl (A_cons (L_var 1) (A_cons L_int A_nil)) (aLen_cons (aLen_cons aLen_nil))) A_nil)))) (aLen_cons (aLen_cons (aLen_cons (aLen_cons aLen_nil)))))) (S_cons (S_for (ws := [7]) PassesOwn.never rfl (I_seq (L_tup (A_cons (L_var 6) (A_cons (L_call hG G_l_bent_run (hr.mono (by decide)) rfl i_l_bent_run k_l_bent_run b_l_bent_run rfl rfl (A_cons (L_var 1) (A_cons (L_var 3) (A_cons (L_var 6) (A_cons (L_var 5) A_nil)))) (aLen_cons (aLen_cons (aLen_cons (aLen_cons aLen_nil))))) (A_cons (L_lst A_nil) A_nil))))) (G_name sc_law.nd rfl (by first | exact .inl rfl | exact .inr rfl)) (S_cons (S_par (i := 11) (j := 12) rfl sc_law.nd rfl rfl (by decide) rfl rfl (A_cons (L_callTy (B_listA rfl) rfl z_list rfl (A_cons (L_var 7) A_nil)) (A_cons (L_call hG G_l_barred_at (hr.mono (by decide)) rfl i_l_barred_at k_l_barred_at b_l_barred_at rfl rfl (A_cons (L_var 3) (A_cons (L_var 7) A_nil)) (aLen_cons (aLen_cons aLen_nil))) A_nil)) rfl) (S_cons (S_if (PW.pt (W_or (T_not (T_val (L_call hG G_l_alike (hr.mono (by decide)) rfl i_l_alike k_l_alike b_l_alike rfl rfl (A_cons (L_call hG G_first_barred (hr.mono (by decide)) rfl i_first_barred k_first_barred b_first_barred rfl rfl (A_cons (L_var 3) (A_cons (L_var 11) A_nil)) (aLen_cons (aLen_cons aLen_nil))) (A_cons (L_var 12) A_nil)) (aLen_cons (aLen_cons aLen_nil))))) (pw_or1 (T_cmp (O_ne (u64 hr)) (L_var 11) (L_var 7) (by first | exact nomark _ | rfl))))) (S_one (S_ret L_bl)) S_nil) (S_one (S_if (T_cmp O_isN (L_var 12) L_non (by first | exact nomark _ | rfl)) (S_cons (S_set (i := 13) sc_law.nd rfl (by first | exact .inl rfl | exact .inr rfl) (L_call hG G_l_figures (hr.mono (by decide)) rfl i_l_figures k_l_figures b_l_figures rfl rfl (A_cons (L_var 3) (A_cons (L_var 7) A_nil)) (aLen_cons (aLen_cons aLen_nil)))) (S_cons (S_setX (i := 14) sc_law.nd rfl (by first | exact .inl rfl | exact .inr rfl) (X_call takes0 hG G_figures_of (hr.mono (by decide)) rfl i_figures_of k_figures_of b_figures_of rfl rfl (A_cons (L_var 3) (A_cons (L_var 11) A_nil)) (aLen_cons (aLen_cons aLen_nil)))) (S_cons (S_if (PW.pt (W_or (T_not (T_val (L_call hG G_l_alike (hr.mono (by decide)) rfl i_l_alike k_l_alike b_l_alike rfl rfl (A_cons (L_var 14) (A_cons (L_var 13) A_nil)) (aLen_cons (aLen_cons aLen_nil))))) (pw_or1 (T_not (T_val (L_call hG G_l_stands_right (hr.mono (by decide)) rfl i_l_stands_right k_l_stands_right b_l_stands_right rfl rfl (A_cons (L_var 3) (A_cons (L_var 13) A_nil)) (aLen_cons (aLen_cons aLen_nil)))))))) (S_one (S_ret L_bl)) S_nil) (S_cons (S_expr (L_append (pl := pure true) (L_var 14) (A_cons L_non A_nil) (pe_bm PySem.F.plainAttrs_list PySem.F.slot_list_append PySem.F.type_list_append M_append (L_var 14) (A_cons L_non A_nil)))) (S_one (S_if (PW.pt (W_or (T_not (T_val (L_call hG G_l_alike (hr.mono (by decide)) rfl i_l_alike k_l_alike b_l_alike rfl rfl (A_cons (L_call hG (okG G_figures_of) (hr.mono (by decide)) rfl i_figures_of k_figures_of b_figures_of rfl rfl (A_cons (L_var 3) (A_cons (L_var 11) A_nil)) (aLen_cons (aLen_cons aLen_nil))) (A_cons (L_var 13) A_nil)) (aLen_cons (aLen_cons aLen_nil))))) (pw_or1 (T_cmp (O_ne (u64 hr)) (L_var 11) (L_var 7) (by first | exact nomark _ | rfl))))) (S_one (S_ret L_bl)) S_nil)))))) S_nil))))) (S_cons (S_if (T_not (T_val (L_call hG G_l_pasts_right (hr.mono (by decide)) rfl i_l_pasts_right k_l_pasts_right b_l_pasts_right rfl rfl (A_cons (L_var 1) (A_cons (L_var 3) A_nil)) (aLen_cons (aLen_cons aLen_nil))))) (S_one (S_ret L_bl)) S_nil) (S_cons (S_for (ws := [8]) PassesOwn.never rfl (I_rng1 rfl z_range (L_var 9)) (G_name sc_law.nd rfl (by first | exact .inl rfl | exact .inr rfl)) (S_one (S_if (T_not (T_val (L_call hG G_l_alike (hr.mono (by decide)) rfl i_l_alike k_l_alike b_l_alike rfl rfl (A_cons (L_call hG G_row_machine (hr.mono (by decide)) rfl i_row_machine k_row_machine b_row_machine rfl rfl (A_cons (L_var 3) (A_cons (L_var 8) A_nil)) (aLen_cons (aLen_cons aLen_nil))) (A_cons (L_call hG G_l_of_row (hr.mono (by decide)) rfl i_l_of_row k_l_of_row b_l_of_row rfl rfl (A_cons (L_var 3) (A_cons (L_var 8) A_nil)) (aLen_cons (aLen_cons aLen_nil))) A_nil)) (aLen_cons (aLen_cons aLen_nil))))) (S_one (S_ret L_bl)) S_nil))) (S_cons (S_set (i := 4) sc_law.nd rfl (by first | exact .inl rfl | exact .inr rfl) (L_call hG G_l_labelled (hr.mono (by decide)) rfl i_l_labelled k_l_labelled b_l_labelled rfl rfl (A_cons (L_var 3) A_nil) (aLen_cons aLen_nil))) (S_one (S_if (T_cmp (O_ne (u64 hr)) (L_comp (ws := [8]) (own := [("r", 8)]) rfl sc_law.nd (I_rng1 rfl z_range (L_var 9)) (blk_mk rfl) (fun _ _ _ _ _ => (G_name sc_law.nd rfl (by first | exact .inl rfl | exact .inr rfl))) (fun _ _ _ _ _ => (Pts_one (T_not (T_val (L_call hG G_l_alike (hr.mono (by decide)) rfl i_l_alike k_l_alike b_l_alike rfl rfl (A_cons (L_call hG G_row_machine (hr.mono (by decide)) rfl i_row_machine k_row_machine b_row_machine rfl rfl (A_cons (L_var 4) (A_cons (L_var 8) A_nil)) (aLen_cons (aLen_cons aLen_nil))) (A_cons (L_call hG G_l_of_row (hr.mono (by decide)) rfl i_l_of_row k_l_of_row b_l_of_row rfl rfl (A_cons (L_var 4) (A_cons (L_var 8) A_nil)) (aLen_cons (aLen_cons aLen_nil))) A_nil)) (aLen_cons (aLen_cons aLen_nil))))))) (fun _ _ _ _ _ => L_int)) (L_lst A_nil) (by first | exact nomark _ | rfl)) (S_one (S_ret L_bl)) S_nil)))))))))))))) (S_one (S_ret L_bl))))
end
end K35
set_option Elab.async false
set_option linter.all false
set_option maxRecDepth 100000
set_option maxHeartbeats 2000000
namespace K35
open PySem PySem.Spec PyProof.Rows L2 DL PA
theorem all_mk {P : Program} {w : World} {K : PySem.W.Frag} {h : Heap} {mg : Str → Option Value} {fa f_l_alike f_l_of_row f_row_machine f_l_labelled f_point_behind f_l_take f_l_entry f_l_done_by f_l_some f_l_past f_l_pasts_right f_l_bent_run f_lead f_can_lead f_p_led f_led_on f_figures_of f_place_by f_row_by f_l_key f_l_ahead f_is_ahead_by f_l_row f_l_rows_by f_l_stands_right f_l_led f_l_figures f_first_barred f_l_barred_at f_l_run_of f_l_some_things f_machine_rows f_machine_deeds f_machine_kinds f_l_move f_l_stances f_l_machine f_l_bag f_law C_NoIndex fI_NoIndex : Addr} (X : K.In h) (G : h.Ns mainGlobals mg) (hfa : mg "law" = some (.ref fa))
    {od_l_alike an_l_alike : Option Addr} {sl_l_alike : Array (Option Value)} {oc_l_alike kV_l_alike dc_l_alike pm_l_alike cd_l_alike ct_l_alike : Value} (a_l_alike : PySem.W.nsIn K mainGlobals "_law_alike" = some (some (.ref f_l_alike))) (l_l_alike : K.lookup f_l_alike = some ⟨oc_l_alike, od_l_alike, .func (PySem.W.fnOf "_law_alike" "_law_alike" (defArgs s_l_alike) (defBody s_l_alike) (defScope s_l_alike) .none kV_l_alike dc_l_alike pm_l_alike an_l_alike cd_l_alike ct_l_alike), sl_l_alike⟩) (r_l_alike : PySem.W.codeIn K cd_l_alike "_law_alike" = true) (k_l_alike : PySem.W.keepIn K (.ref f_l_alike) = true)
    {od_l_of_row an_l_of_row : Option Addr} {sl_l_of_row : Array (Option Value)} {oc_l_of_row kV_l_of_row dc_l_of_row pm_l_of_row cd_l_of_row ct_l_of_row : Value} (a_l_of_row : PySem.W.nsIn K mainGlobals "_law_of_row" = some (some (.ref f_l_of_row))) (l_l_of_row : K.lookup f_l_of_row = some ⟨oc_l_of_row, od_l_of_row, .func (PySem.W.fnOf "_law_of_row" "_law_of_row" (defArgs s_l_of_row) (defBody s_l_of_row) (defScope s_l_of_row) .none kV_l_of_row dc_l_of_row pm_l_of_row an_l_of_row cd_l_of_row ct_l_of_row), sl_l_of_row⟩) (r_l_of_row : PySem.W.codeIn K cd_l_of_row "_law_of_row" = true) (k_l_of_row : PySem.W.keepIn K (.ref f_l_of_row) = true)
    {od_row_machine an_row_machine : Option Addr} {sl_row_machine : Array (Option Value)} {oc_row_machine kV_row_machine dc_row_machine pm_row_machine cd_row_machine ct_row_machine : Value} (a_row_machine : PySem.W.nsIn K mainGlobals "row_machine" = some (some (.ref f_row_machine))) (l_row_machine : K.lookup f_row_machine = some ⟨oc_row_machine, od_row_machine, .func (PySem.W.fnOf "row_machine" "row_machine" (defArgs s_row_machine) (defBody s_row_machine) (defScope s_row_machine) .none kV_row_machine dc_row_machine pm_row_machine an_row_machine cd_row_machine ct_row_machine), sl_row_machine⟩) (r_row_machine : PySem.W.codeIn K cd_row_machine "row_machine" = true) (k_row_machine : PySem.W.keepIn K (.ref f_row_machine) = true)
    {od_l_labelled an_l_labelled : Option Addr} {sl_l_labelled : Array (Option Value)} {oc_l_labelled kV_l_labelled dc_l_labelled pm_l_labelled cd_l_labelled ct_l_labelled : Value} (a_l_labelled : PySem.W.nsIn K mainGlobals "_law_labelled" = some (some (.ref f_l_labelled))) (l_l_labelled : K.lookup f_l_labelled = some ⟨oc_l_labelled, od_l_labelled, .func (PySem.W.fnOf "_law_labelled" "_law_labelled" (defArgs s_l_labelled) (defBody s_l_labelled) (defScope s_l_labelled) .none kV_l_labelled dc_l_labelled pm_l_labelled an_l_labelled cd_l_labelled ct_l_labelled), sl_l_labelled⟩) (r_l_labelled : PySem.W.codeIn K cd_l_labelled "_law_labelled" = true) (k_l_labelled : PySem.W.keepIn K (.ref f_l_labelled) = true)
    {od_point_behind an_point_behind : Option Addr} {sl_point_behind : Array (Option Value)} {oc_point_behind kV_point_behind dc_point_behind pm_point_behind cd_point_behind ct_point_behind : Value} (a_point_behind : PySem.W.nsIn K mainGlobals "point_behind" = some (some (.ref f_point_behind))) (l_point_behind : K.lookup f_point_behind = some ⟨oc_point_behind, od_point_behind, .func (PySem.W.fnOf "point_behind" "point_behind" (defArgs s_point_behind) (defBody s_point_behind) (defScope s_point_behind) .none kV_point_behind dc_point_behind pm_point_behind an_point_behind cd_point_behind ct_point_behind), sl_point_behind⟩) (r_point_behind : PySem.W.codeIn K cd_point_behind "point_behind" = true) (k_point_behind : PySem.W.keepIn K (.ref f_point_behind) = true)
    {od_l_take an_l_take : Option Addr} {sl_l_take : Array (Option Value)} {oc_l_take kV_l_take dc_l_take pm_l_take cd_l_take ct_l_take : Value} (a_l_take : PySem.W.nsIn K mainGlobals "_law_take" = some (some (.ref f_l_take))) (l_l_take : K.lookup f_l_take = some ⟨oc_l_take, od_l_take, .func (PySem.W.fnOf "_law_take" "_law_take" (defArgs s_l_take) (defBody s_l_take) (defScope s_l_take) .none kV_l_take dc_l_take pm_l_take an_l_take cd_l_take ct_l_take), sl_l_take⟩) (r_l_take : PySem.W.codeIn K cd_l_take "_law_take" = true) (k_l_take : PySem.W.keepIn K (.ref f_l_take) = true)
    {od_l_entry an_l_entry : Option Addr} {sl_l_entry : Array (Option Value)} {oc_l_entry kV_l_entry dc_l_entry pm_l_entry cd_l_entry ct_l_entry : Value} (a_l_entry : PySem.W.nsIn K mainGlobals "_law_entry" = some (some (.ref f_l_entry))) (l_l_entry : K.lookup f_l_entry = some ⟨oc_l_entry, od_l_entry, .func (PySem.W.fnOf "_law_entry" "_law_entry" (defArgs s_l_entry) (defBody s_l_entry) (defScope s_l_entry) .none kV_l_entry dc_l_entry pm_l_entry an_l_entry cd_l_entry ct_l_entry), sl_l_entry⟩) (r_l_entry : PySem.W.codeIn K cd_l_entry "_law_entry" = true) (k_l_entry : PySem.W.keepIn K (.ref f_l_entry) = true)
    {od_l_done_by an_l_done_by : Option Addr} {sl_l_done_by : Array (Option Value)} {oc_l_done_by kV_l_done_by dc_l_done_by pm_l_done_by cd_l_done_by ct_l_done_by : Value} (a_l_done_by : PySem.W.nsIn K mainGlobals "_law_done_by" = some (some (.ref f_l_done_by))) (l_l_done_by : K.lookup f_l_done_by = some ⟨oc_l_done_by, od_l_done_by, .func (PySem.W.fnOf "_law_done_by" "_law_done_by" (defArgs s_l_done_by) (defBody s_l_done_by) (defScope s_l_done_by) .none kV_l_done_by dc_l_done_by pm_l_done_by an_l_done_by cd_l_done_by ct_l_done_by), sl_l_done_by⟩) (r_l_done_by : PySem.W.codeIn K cd_l_done_by "_law_done_by" = true) (k_l_done_by : PySem.W.keepIn K (.ref f_l_done_by) = true)
    {od_l_some an_l_some : Option Addr} {sl_l_some : Array (Option Value)} {oc_l_some kV_l_some dc_l_some pm_l_some cd_l_some ct_l_some : Value} (a_l_some : PySem.W.nsIn K mainGlobals "_law_some" = some (some (.ref f_l_some))) (l_l_some : K.lookup f_l_some = some ⟨oc_l_some, od_l_some, .func (PySem.W.fnOf "_law_some" "_law_some" (defArgs s_l_some) (defBody s_l_some) (defScope s_l_some) .none kV_l_some dc_l_some pm_l_some an_l_some cd_l_some ct_l_some), sl_l_some⟩) (r_l_some : PySem.W.codeIn K cd_l_some "_law_some" = true) (k_l_some : PySem.W.keepIn K (.ref f_l_some) = true)
    {od_l_past an_l_past : Option Addr} {sl_l_past : Array (Option Value)} {oc_l_past kV_l_past dc_l_past pm_l_past cd_l_past ct_l_past : Value} (a_l_past : PySem.W.nsIn K mainGlobals "_law_past" = some (some (.ref f_l_past))) (l_l_past : K.lookup f_l_past = some ⟨oc_l_past, od_l_past, .func (PySem.W.fnOf "_law_past" "_law_past" (defArgs s_l_past) (defBody s_l_past) (defScope s_l_past) .none kV_l_past dc_l_past pm_l_past an_l_past cd_l_past ct_l_past), sl_l_past⟩) (r_l_past : PySem.W.codeIn K cd_l_past "_law_past" = true) (k_l_past : PySem.W.keepIn K (.ref f_l_past) = true)
    {od_l_pasts_right an_l_pasts_right : Option Addr} {sl_l_pasts_right : Array (Option Value)} {oc_l_pasts_right kV_l_pasts_right dc_l_pasts_right pm_l_pasts_right cd_l_pasts_right ct_l_pasts_right : Value} (a_l_pasts_right : PySem.W.nsIn K mainGlobals "_law_pasts_right" = some (some (.ref f_l_pasts_right))) (l_l_pasts_right : K.lookup f_l_pasts_right = some ⟨oc_l_pasts_right, od_l_pasts_right, .func (PySem.W.fnOf "_law_pasts_right" "_law_pasts_right" (defArgs s_l_pasts_right) (defBody s_l_pasts_right) (defScope s_l_pasts_right) .none kV_l_pasts_right dc_l_pasts_right pm_l_pasts_right an_l_pasts_right cd_l_pasts_right ct_l_pasts_right), sl_l_pasts_right⟩) (r_l_pasts_right : PySem.W.codeIn K cd_l_pasts_right "_law_pasts_right" = true) (k_l_pasts_right : PySem.W.keepIn K (.ref f_l_pasts_right) = true)
    {od_l_bent_run an_l_bent_run : Option Addr} {sl_l_bent_run : Array (Option Value)} {oc_l_bent_run kV_l_bent_run dc_l_bent_run pm_l_bent_run cd_l_bent_run ct_l_bent_run : Value} (a_l_bent_run : PySem.W.nsIn K mainGlobals "_law_bent_run" = some (some (.ref f_l_bent_run))) (l_l_bent_run : K.lookup f_l_bent_run = some ⟨oc_l_bent_run, od_l_bent_run, .func (PySem.W.fnOf "_law_bent_run" "_law_bent_run" (defArgs s_l_bent_run) (defBody s_l_bent_run) (defScope s_l_bent_run) .none kV_l_bent_run dc_l_bent_run pm_l_bent_run an_l_bent_run cd_l_bent_run ct_l_bent_run), sl_l_bent_run⟩) (r_l_bent_run : PySem.W.codeIn K cd_l_bent_run "_law_bent_run" = true) (k_l_bent_run : PySem.W.keepIn K (.ref f_l_bent_run) = true)
    {od_lead an_lead : Option Addr} {sl_lead : Array (Option Value)} {oc_lead kV_lead dc_lead pm_lead cd_lead ct_lead : Value} (a_lead : PySem.W.nsIn K mainGlobals "lead" = some (some (.ref f_lead))) (l_lead : K.lookup f_lead = some ⟨oc_lead, od_lead, .func (PySem.W.fnOf "lead" "lead" (defArgs s_lead) (defBody s_lead) (defScope s_lead) .none kV_lead dc_lead pm_lead an_lead cd_lead ct_lead), sl_lead⟩) (r_lead : PySem.W.codeIn K cd_lead "lead" = true) (k_lead : PySem.W.keepIn K (.ref f_lead) = true)
    {od_can_lead an_can_lead : Option Addr} {sl_can_lead : Array (Option Value)} {oc_can_lead kV_can_lead dc_can_lead pm_can_lead cd_can_lead ct_can_lead : Value} (a_can_lead : PySem.W.nsIn K mainGlobals "can_lead" = some (some (.ref f_can_lead))) (l_can_lead : K.lookup f_can_lead = some ⟨oc_can_lead, od_can_lead, .func (PySem.W.fnOf "can_lead" "can_lead" (defArgs s_can_lead) (defBody s_can_lead) (defScope s_can_lead) .none kV_can_lead dc_can_lead pm_can_lead an_can_lead cd_can_lead ct_can_lead), sl_can_lead⟩) (r_can_lead : PySem.W.codeIn K cd_can_lead "can_lead" = true) (k_can_lead : PySem.W.keepIn K (.ref f_can_lead) = true)
    {od_p_led an_p_led : Option Addr} {sl_p_led : Array (Option Value)} {oc_p_led kV_p_led dc_p_led pm_p_led cd_p_led ct_p_led : Value} (a_p_led : PySem.W.nsIn K mainGlobals "_led" = some (some (.ref f_p_led))) (l_p_led : K.lookup f_p_led = some ⟨oc_p_led, od_p_led, .func (PySem.W.fnOf "_led" "_led" (defArgs s_p_led) (defBody s_p_led) (defScope s_p_led) .none kV_p_led dc_p_led pm_p_led an_p_led cd_p_led ct_p_led), sl_p_led⟩) (r_p_led : PySem.W.codeIn K cd_p_led "_led" = true) (k_p_led : PySem.W.keepIn K (.ref f_p_led) = true)
    {od_led_on an_led_on : Option Addr} {sl_led_on : Array (Option Value)} {oc_led_on kV_led_on dc_led_on pm_led_on cd_led_on ct_led_on : Value} (a_led_on : PySem.W.nsIn K mainGlobals "led_on" = some (some (.ref f_led_on))) (l_led_on : K.lookup f_led_on = some ⟨oc_led_on, od_led_on, .func (PySem.W.fnOf "led_on" "led_on" (defArgs s_led_on) (defBody s_led_on) (defScope s_led_on) .none kV_led_on dc_led_on pm_led_on an_led_on cd_led_on ct_led_on), sl_led_on⟩) (r_led_on : PySem.W.codeIn K cd_led_on "led_on" = true) (k_led_on : PySem.W.keepIn K (.ref f_led_on) = true)
    {od_figures_of an_figures_of : Option Addr} {sl_figures_of : Array (Option Value)} {oc_figures_of kV_figures_of dc_figures_of pm_figures_of cd_figures_of ct_figures_of : Value} (a_figures_of : PySem.W.nsIn K mainGlobals "figures_of" = some (some (.ref f_figures_of))) (l_figures_of : K.lookup f_figures_of = some ⟨oc_figures_of, od_figures_of, .func (PySem.W.fnOf "figures_of" "figures_of" (defArgs s_figures_of) (defBody s_figures_of) (defScope s_figures_of) .none kV_figures_of dc_figures_of pm_figures_of an_figures_of cd_figures_of ct_figures_of), sl_figures_of⟩) (r_figures_of : PySem.W.codeIn K cd_figures_of "figures_of" = true) (k_figures_of : PySem.W.keepIn K (.ref f_figures_of) = true)
    {od_place_by an_place_by : Option Addr} {sl_place_by : Array (Option Value)} {oc_place_by kV_place_by dc_place_by pm_place_by cd_place_by ct_place_by : Value} (a_place_by : PySem.W.nsIn K mainGlobals "place_by" = some (some (.ref f_place_by))) (l_place_by : K.lookup f_place_by = some ⟨oc_place_by, od_place_by, .func (PySem.W.fnOf "place_by" "place_by" (defArgs s_place_by) (defBody s_place_by) (defScope s_place_by) .none kV_place_by dc_place_by pm_place_by an_place_by cd_place_by ct_place_by), sl_place_by⟩) (r_place_by : PySem.W.codeIn K cd_place_by "place_by" = true) (k_place_by : PySem.W.keepIn K (.ref f_place_by) = true)
    {od_row_by an_row_by : Option Addr} {sl_row_by : Array (Option Value)} {oc_row_by kV_row_by dc_row_by pm_row_by cd_row_by ct_row_by : Value} (a_row_by : PySem.W.nsIn K mainGlobals "row_by" = some (some (.ref f_row_by))) (l_row_by : K.lookup f_row_by = some ⟨oc_row_by, od_row_by, .func (PySem.W.fnOf "row_by" "row_by" (defArgs s_row_by) (defBody s_row_by) (defScope s_row_by) .none kV_row_by dc_row_by pm_row_by an_row_by cd_row_by ct_row_by), sl_row_by⟩) (r_row_by : PySem.W.codeIn K cd_row_by "row_by" = true) (k_row_by : PySem.W.keepIn K (.ref f_row_by) = true)
    {od_l_key an_l_key : Option Addr} {sl_l_key : Array (Option Value)} {oc_l_key kV_l_key dc_l_key pm_l_key cd_l_key ct_l_key : Value} (a_l_key : PySem.W.nsIn K mainGlobals "_law_key" = some (some (.ref f_l_key))) (l_l_key : K.lookup f_l_key = some ⟨oc_l_key, od_l_key, .func (PySem.W.fnOf "_law_key" "_law_key" (defArgs s_l_key) (defBody s_l_key) (defScope s_l_key) .none kV_l_key dc_l_key pm_l_key an_l_key cd_l_key ct_l_key), sl_l_key⟩) (r_l_key : PySem.W.codeIn K cd_l_key "_law_key" = true) (k_l_key : PySem.W.keepIn K (.ref f_l_key) = true)
    {od_l_ahead an_l_ahead : Option Addr} {sl_l_ahead : Array (Option Value)} {oc_l_ahead kV_l_ahead dc_l_ahead pm_l_ahead cd_l_ahead ct_l_ahead : Value} (a_l_ahead : PySem.W.nsIn K mainGlobals "_law_ahead" = some (some (.ref f_l_ahead))) (l_l_ahead : K.lookup f_l_ahead = some ⟨oc_l_ahead, od_l_ahead, .func (PySem.W.fnOf "_law_ahead" "_law_ahead" (defArgs s_l_ahead) (defBody s_l_ahead) (defScope s_l_ahead) .none kV_l_ahead dc_l_ahead pm_l_ahead an_l_ahead cd_l_ahead ct_l_ahead), sl_l_ahead⟩) (r_l_ahead : PySem.W.codeIn K cd_l_ahead "_law_ahead" = true) (k_l_ahead : PySem.W.keepIn K (.ref f_l_ahead) = true)
    {od_is_ahead_by an_is_ahead_by : Option Addr} {sl_is_ahead_by : Array (Option Value)} {oc_is_ahead_by kV_is_ahead_by dc_is_ahead_by pm_is_ahead_by cd_is_ahead_by ct_is_ahead_by : Value} (a_is_ahead_by : PySem.W.nsIn K mainGlobals "is_ahead_by" = some (some (.ref f_is_ahead_by))) (l_is_ahead_by : K.lookup f_is_ahead_by = some ⟨oc_is_ahead_by, od_is_ahead_by, .func (PySem.W.fnOf "is_ahead_by" "is_ahead_by" (defArgs s_is_ahead_by) (defBody s_is_ahead_by) (defScope s_is_ahead_by) .none kV_is_ahead_by dc_is_ahead_by pm_is_ahead_by an_is_ahead_by cd_is_ahead_by ct_is_ahead_by), sl_is_ahead_by⟩) (r_is_ahead_by : PySem.W.codeIn K cd_is_ahead_by "is_ahead_by" = true) (k_is_ahead_by : PySem.W.keepIn K (.ref f_is_ahead_by) = true)
    {od_l_row an_l_row : Option Addr} {sl_l_row : Array (Option Value)} {oc_l_row kV_l_row dc_l_row pm_l_row cd_l_row ct_l_row : Value} (a_l_row : PySem.W.nsIn K mainGlobals "_law_row" = some (some (.ref f_l_row))) (l_l_row : K.lookup f_l_row = some ⟨oc_l_row, od_l_row, .func (PySem.W.fnOf "_law_row" "_law_row" (defArgs s_l_row) (defBody s_l_row) (defScope s_l_row) .none kV_l_row dc_l_row pm_l_row an_l_row cd_l_row ct_l_row), sl_l_row⟩) (r_l_row : PySem.W.codeIn K cd_l_row "_law_row" = true) (k_l_row : PySem.W.keepIn K (.ref f_l_row) = true)
    {od_l_rows_by an_l_rows_by : Option Addr} {sl_l_rows_by : Array (Option Value)} {oc_l_rows_by kV_l_rows_by dc_l_rows_by pm_l_rows_by cd_l_rows_by ct_l_rows_by : Value} (a_l_rows_by : PySem.W.nsIn K mainGlobals "_law_rows_by" = some (some (.ref f_l_rows_by))) (l_l_rows_by : K.lookup f_l_rows_by = some ⟨oc_l_rows_by, od_l_rows_by, .func (PySem.W.fnOf "_law_rows_by" "_law_rows_by" (defArgs s_l_rows_by) (defBody s_l_rows_by) (defScope s_l_rows_by) .none kV_l_rows_by dc_l_rows_by pm_l_rows_by an_l_rows_by cd_l_rows_by ct_l_rows_by), sl_l_rows_by⟩) (r_l_rows_by : PySem.W.codeIn K cd_l_rows_by "_law_rows_by" = true) (k_l_rows_by : PySem.W.keepIn K (.ref f_l_rows_by) = true)
    {od_l_stands_right an_l_stands_right : Option Addr} {sl_l_stands_right : Array (Option Value)} {oc_l_stands_right kV_l_stands_right dc_l_stands_right pm_l_stands_right cd_l_stands_right ct_l_stands_right : Value} (a_l_stands_right : PySem.W.nsIn K mainGlobals "_law_stands_right" = some (some (.ref f_l_stands_right))) (l_l_stands_right : K.lookup f_l_stands_right = some ⟨oc_l_stands_right, od_l_stands_right, .func (PySem.W.fnOf "_law_stands_right" "_law_stands_right" (defArgs s_l_stands_right) (defBody s_l_stands_right) (defScope s_l_stands_right) .none kV_l_stands_right dc_l_stands_right pm_l_stands_right an_l_stands_right cd_l_stands_right ct_l_stands_right), sl_l_stands_right⟩) (r_l_stands_right : PySem.W.codeIn K cd_l_stands_right "_law_stands_right" = true) (k_l_stands_right : PySem.W.keepIn K (.ref f_l_stands_right) = true)
    {od_l_led an_l_led : Option Addr} {sl_l_led : Array (Option Value)} {oc_l_led kV_l_led dc_l_led pm_l_led cd_l_led ct_l_led : Value} (a_l_led : PySem.W.nsIn K mainGlobals "_law_led" = some (some (.ref f_l_led))) (l_l_led : K.lookup f_l_led = some ⟨oc_l_led, od_l_led, .func (PySem.W.fnOf "_law_led" "_law_led" (defArgs s_l_led) (defBody s_l_led) (defScope s_l_led) .none kV_l_led dc_l_led pm_l_led an_l_led cd_l_led ct_l_led), sl_l_led⟩) (r_l_led : PySem.W.codeIn K cd_l_led "_law_led" = true) (k_l_led : PySem.W.keepIn K (.ref f_l_led) = true)
    {od_l_figures an_l_figures : Option Addr} {sl_l_figures : Array (Option Value)} {oc_l_figures kV_l_figures dc_l_figures pm_l_figures cd_l_figures ct_l_figures : Value} (a_l_figures : PySem.W.nsIn K mainGlobals "_law_figures" = some (some (.ref f_l_figures))) (l_l_figures : K.lookup f_l_figures = some ⟨oc_l_figures, od_l_figures, .func (PySem.W.fnOf "_law_figures" "_law_figures" (defArgs s_l_figures) (defBody s_l_figures) (defScope s_l_figures) .none kV_l_figures dc_l_figures pm_l_figures an_l_figures cd_l_figures ct_l_figures), sl_l_figures⟩) (r_l_figures : PySem.W.codeIn K cd_l_figures "_law_figures" = true) (k_l_figures : PySem.W.keepIn K (.ref f_l_figures) = true)
    {od_first_barred an_first_barred : Option Addr} {sl_first_barred : Array (Option Value)} {oc_first_barred kV_first_barred dc_first_barred pm_first_barred cd_first_barred ct_first_barred : Value} (a_first_barred : PySem.W.nsIn K mainGlobals "first_barred" = some (some (.ref f_first_barred))) (l_first_barred : K.lookup f_first_barred = some ⟨oc_first_barred, od_first_barred, .func (PySem.W.fnOf "first_barred" "first_barred" (defArgs s_first_barred) (defBody s_first_barred) (defScope s_first_barred) .none kV_first_barred dc_first_barred pm_first_barred an_first_barred cd_first_barred ct_first_barred), sl_first_barred⟩) (r_first_barred : PySem.W.codeIn K cd_first_barred "first_barred" = true) (k_first_barred : PySem.W.keepIn K (.ref f_first_barred) = true)
    {od_l_barred_at an_l_barred_at : Option Addr} {sl_l_barred_at : Array (Option Value)} {oc_l_barred_at kV_l_barred_at dc_l_barred_at pm_l_barred_at cd_l_barred_at ct_l_barred_at : Value} (a_l_barred_at : PySem.W.nsIn K mainGlobals "_law_barred_at" = some (some (.ref f_l_barred_at))) (l_l_barred_at : K.lookup f_l_barred_at = some ⟨oc_l_barred_at, od_l_barred_at, .func (PySem.W.fnOf "_law_barred_at" "_law_barred_at" (defArgs s_l_barred_at) (defBody s_l_barred_at) (defScope s_l_barred_at) .none kV_l_barred_at dc_l_barred_at pm_l_barred_at an_l_barred_at cd_l_barred_at ct_l_barred_at), sl_l_barred_at⟩) (r_l_barred_at : PySem.W.codeIn K cd_l_barred_at "_law_barred_at" = true) (k_l_barred_at : PySem.W.keepIn K (.ref f_l_barred_at) = true)
    {od_l_run_of an_l_run_of : Option Addr} {sl_l_run_of : Array (Option Value)} {oc_l_run_of kV_l_run_of dc_l_run_of pm_l_run_of cd_l_run_of ct_l_run_of : Value} (a_l_run_of : PySem.W.nsIn K mainGlobals "_law_run_of" = some (some (.ref f_l_run_of))) (l_l_run_of : K.lookup f_l_run_of = some ⟨oc_l_run_of, od_l_run_of, .func (PySem.W.fnOf "_law_run_of" "_law_run_of" (defArgs s_l_run_of) (defBody s_l_run_of) (defScope s_l_run_of) .none kV_l_run_of dc_l_run_of pm_l_run_of an_l_run_of cd_l_run_of ct_l_run_of), sl_l_run_of⟩) (r_l_run_of : PySem.W.codeIn K cd_l_run_of "_law_run_of" = true) (k_l_run_of : PySem.W.keepIn K (.ref f_l_run_of) = true)
    {od_l_some_things an_l_some_things : Option Addr} {sl_l_some_things : Array (Option Value)} {oc_l_some_things kV_l_some_things dc_l_some_things pm_l_some_things cd_l_some_things ct_l_some_things : Value} (a_l_some_things : PySem.W.nsIn K mainGlobals "_law_some_things" = some (some (.ref f_l_some_things))) (l_l_some_things : K.lookup f_l_some_things = some ⟨oc_l_some_things, od_l_some_things, .func (PySem.W.fnOf "_law_some_things" "_law_some_things" (defArgs s_l_some_things) (defBody s_l_some_things) (defScope s_l_some_things) .none kV_l_some_things dc_l_some_things pm_l_some_things an_l_some_things cd_l_some_things ct_l_some_things), sl_l_some_things⟩) (r_l_some_things : PySem.W.codeIn K cd_l_some_things "_law_some_things" = true) (k_l_some_things : PySem.W.keepIn K (.ref f_l_some_things) = true)
    {od_machine_rows an_machine_rows : Option Addr} {sl_machine_rows : Array (Option Value)} {oc_machine_rows kV_machine_rows dc_machine_rows pm_machine_rows cd_machine_rows ct_machine_rows : Value} (a_machine_rows : PySem.W.nsIn K mainGlobals "machine_rows" = some (some (.ref f_machine_rows))) (l_machine_rows : K.lookup f_machine_rows = some ⟨oc_machine_rows, od_machine_rows, .func (PySem.W.fnOf "machine_rows" "machine_rows" (defArgs s_machine_rows) (defBody s_machine_rows) (defScope s_machine_rows) .none kV_machine_rows dc_machine_rows pm_machine_rows an_machine_rows cd_machine_rows ct_machine_rows), sl_machine_rows⟩) (r_machine_rows : PySem.W.codeIn K cd_machine_rows "machine_rows" = true) (k_machine_rows : PySem.W.keepIn K (.ref f_machine_rows) = true)
    {od_machine_deeds an_machine_deeds : Option Addr} {sl_machine_deeds : Array (Option Value)} {oc_machine_deeds kV_machine_deeds dc_machine_deeds pm_machine_deeds cd_machine_deeds ct_machine_deeds : Value} (a_machine_deeds : PySem.W.nsIn K mainGlobals "machine_deeds" = some (some (.ref f_machine_deeds))) (l_machine_deeds : K.lookup f_machine_deeds = some ⟨oc_machine_deeds, od_machine_deeds, .func (PySem.W.fnOf "machine_deeds" "machine_deeds" (defArgs s_machine_deeds) (defBody s_machine_deeds) (defScope s_machine_deeds) .none kV_machine_deeds dc_machine_deeds pm_machine_deeds an_machine_deeds cd_machine_deeds ct_machine_deeds), sl_machine_deeds⟩) (r_machine_deeds : PySem.W.codeIn K cd_machine_deeds "machine_deeds" = true) (k_machine_deeds : PySem.W.keepIn K (.ref f_machine_deeds) = true)
    {od_machine_kinds an_machine_kinds : Option Addr} {sl_machine_kinds : Array (Option Value)} {oc_machine_kinds kV_machine_kinds dc_machine_kinds pm_machine_kinds cd_machine_kinds ct_machine_kinds : Value} (a_machine_kinds : PySem.W.nsIn K mainGlobals "machine_kinds" = some (some (.ref f_machine_kinds))) (l_machine_kinds : K.lookup f_machine_kinds = some ⟨oc_machine_kinds, od_machine_kinds, .func (PySem.W.fnOf "machine_kinds" "machine_kinds" (defArgs s_machine_kinds) (defBody s_machine_kinds) (defScope s_machine_kinds) .none kV_machine_kinds dc_machine_kinds pm_machine_kinds an_machine_kinds cd_machine_kinds ct_machine_kinds), sl_machine_kinds⟩) (r_machine_kinds : PySem.W.codeIn K cd_machine_kinds "machine_kinds" = true) (k_machine_kinds : PySem.W.keepIn K (.ref f_machine_kinds) = true)
    {od_l_move an_l_move : Option Addr} {sl_l_move : Array (Option Value)} {oc_l_move kV_l_move dc_l_move pm_l_move cd_l_move ct_l_move : Value} (a_l_move : PySem.W.nsIn K mainGlobals "_law_move" = some (some (.ref f_l_move))) (l_l_move : K.lookup f_l_move = some ⟨oc_l_move, od_l_move, .func (PySem.W.fnOf "_law_move" "_law_move" (defArgs s_l_move) (defBody s_l_move) (defScope s_l_move) .none kV_l_move dc_l_move pm_l_move an_l_move cd_l_move ct_l_move), sl_l_move⟩) (r_l_move : PySem.W.codeIn K cd_l_move "_law_move" = true) (k_l_move : PySem.W.keepIn K (.ref f_l_move) = true)
    {od_l_stances an_l_stances : Option Addr} {sl_l_stances : Array (Option Value)} {oc_l_stances kV_l_stances dc_l_stances pm_l_stances cd_l_stances ct_l_stances : Value} (a_l_stances : PySem.W.nsIn K mainGlobals "_law_stances" = some (some (.ref f_l_stances))) (l_l_stances : K.lookup f_l_stances = some ⟨oc_l_stances, od_l_stances, .func (PySem.W.fnOf "_law_stances" "_law_stances" (defArgs s_l_stances) (defBody s_l_stances) (defScope s_l_stances) .none kV_l_stances dc_l_stances pm_l_stances an_l_stances cd_l_stances ct_l_stances), sl_l_stances⟩) (r_l_stances : PySem.W.codeIn K cd_l_stances "_law_stances" = true) (k_l_stances : PySem.W.keepIn K (.ref f_l_stances) = true)
    {od_l_machine an_l_machine : Option Addr} {sl_l_machine : Array (Option Value)} {oc_l_machine kV_l_machine dc_l_machine pm_l_machine cd_l_machine ct_l_machine : Value} (a_l_machine : PySem.W.nsIn K mainGlobals "_law_machine" = some (some (.ref f_l_machine))) (l_l_machine : K.lookup f_l_machine = some ⟨oc_l_machine, od_l_machine, .func (PySem.W.fnOf "_law_machine" "_law_machine" (defArgs s_l_machine) (defBody s_l_machine) (defScope s_l_machine) .none kV_l_machine dc_l_machine pm_l_machine an_l_machine cd_l_machine ct_l_machine), sl_l_machine⟩) (r_l_machine : PySem.W.codeIn K cd_l_machine "_law_machine" = true) (k_l_machine : PySem.W.keepIn K (.ref f_l_machine) = true)
    {od_l_bag an_l_bag : Option Addr} {sl_l_bag : Array (Option Value)} {oc_l_bag kV_l_bag dc_l_bag pm_l_bag cd_l_bag ct_l_bag : Value} (a_l_bag : PySem.W.nsIn K mainGlobals "_law_bag" = some (some (.ref f_l_bag))) (l_l_bag : K.lookup f_l_bag = some ⟨oc_l_bag, od_l_bag, .func (PySem.W.fnOf "_law_bag" "_law_bag" (defArgs s_l_bag) (defBody s_l_bag) (defScope s_l_bag) .none kV_l_bag dc_l_bag pm_l_bag an_l_bag cd_l_bag ct_l_bag), sl_l_bag⟩) (r_l_bag : PySem.W.codeIn K cd_l_bag "_law_bag" = true) (k_l_bag : PySem.W.keepIn K (.ref f_l_bag) = true)
    {od_law an_law : Option Addr} {sl_law : Array (Option Value)} {oc_law kV_law dc_law pm_law cd_law ct_law : Value} (a_law : PySem.W.nsIn K mainGlobals "law" = some (some (.ref f_law))) (l_law : K.lookup f_law = some ⟨oc_law, od_law, .func (PySem.W.fnOf "law" "law" (defArgs s_law) (defBody s_law) (defScope s_law) .none kV_law dc_law pm_law an_law cd_law ct_law), sl_law⟩) (r_law : PySem.W.codeIn K cd_law "law" = true) (k_law : PySem.W.keepIn K (.ref f_law) = true)
    {nm_NoIndex q_NoIndex : Str} {N_NoIndex : Addr} {bs_NoIndex bm_NoIndex : List Value} {sn_NoIndex : List Str} {sub_NoIndex : List Value} {ab_NoIndex : Bool} {col_NoIndex : Option Bool} {dd_NoIndex : Option Addr} {m0_NoIndex m1_NoIndex m2_NoIndex m3_NoIndex m5_NoIndex : Option Value} (a_NoIndex : PySem.W.nsIn K mainGlobals "NoIndex" = some (some (.ref C_NoIndex))) (x_NoIndex : K.lookup C_NoIndex = some (excClassObj nm_NoIndex q_NoIndex C_NoIndex N_NoIndex bs_NoIndex bm_NoIndex true sn_NoIndex sub_NoIndex ab_NoIndex col_NoIndex dd_NoIndex m0_NoIndex m1_NoIndex m2_NoIndex m3_NoIndex m5_NoIndex "ValueError.__new__")) (v_NoIndex : PySem.HandSPX.refsVE bm_NoIndex = true)
    (sa_NoIndex : PySem.W.findIn K (.ref C_NoIndex) "__setattr__" = some (some (.builtin "object.__setattr__"))) (ga_NoIndex : PySem.W.findIn K (.ref C_NoIndex) "__getattribute__" = some (some (.builtin "BaseException.__getattribute__"))) (gg_NoIndex : PySem.W.findIn K (.ref C_NoIndex) "__getattr__" = some none) (ex_NoIndex : PySem.W.subIn K (.ref C_NoIndex) (.type "BaseException") = some true) (ty_NoIndex : PySem.W.typeIn K (.ref C_NoIndex) = some (.type "type")) (kC_NoIndex : PySem.W.keepIn K (.ref C_NoIndex) = true) (hd_NoIndex : PySem.W.hasDictIn K C_NoIndex = true) (ic_NoIndex : PySem.W.isClsIn K C_NoIndex = true) (se_NoIndex : PySem.W.subIn K (.ref C_NoIndex) (.ref C_NoIndex) = some true)
    (no_NoIndex_index : PySem.W.findIn K (.ref C_NoIndex) "index" = some none)
    {odI_NoIndex anI_NoIndex : Option Addr} {slI_NoIndex : Array (Option Value)} {ocI_NoIndex kVI_NoIndex dcI_NoIndex pmI_NoIndex cdI_NoIndex ctI_NoIndex : Value} (aI_NoIndex : PySem.W.findIn K (.ref C_NoIndex) "__init__" = some (some (.ref fI_NoIndex))) (tI_NoIndex : PySem.W.typeIn K (.ref fI_NoIndex) = some (.type "function")) (lI_NoIndex : K.lookup fI_NoIndex = some ⟨ocI_NoIndex, odI_NoIndex, .func (PySem.W.fnOf "__init__" "NoIndex.__init__" (defArgs s_NoIndex_init) (defBody s_NoIndex_init) (defScope s_NoIndex_init) .none kVI_NoIndex dcI_NoIndex pmI_NoIndex anI_NoIndex cdI_NoIndex ctI_NoIndex), slI_NoIndex⟩) (rI_NoIndex : PySem.W.codeIn K cdI_NoIndex "NoIndex.__init__" = true) (kI_NoIndex : PySem.W.keepIn K (.ref fI_NoIndex) = true)
    (z_abs : PySem.W.nsIn K mainGlobals "abs" = some none)
    (z_dict : PySem.W.nsIn K mainGlobals "dict" = some none)
    (z_enumerate : PySem.W.nsIn K mainGlobals "enumerate" = some none)
    (z_int : PySem.W.nsIn K mainGlobals "int" = some none)
    (z_isinstance : PySem.W.nsIn K mainGlobals "isinstance" = some none)
    (z_len : PySem.W.nsIn K mainGlobals "len" = some none)
    (z_list : PySem.W.nsIn K mainGlobals "list" = some none)
    (z_range : PySem.W.nsIn K mainGlobals "range" = some none)
    (z_repr : PySem.W.nsIn K mainGlobals "repr" = some none)
    (z_sorted : PySem.W.nsIn K mainGlobals "sorted" = some none)
    (z_tuple : PySem.W.nsIn K mainGlobals "tuple" = some none)
    {cc_row_by cP_row_by : Addr} (ec_row_by : cd_row_by = .ref cc_row_by)
    : ∃ fd : FuncData, (∀ (s : Shared) (u : Value), BindsTo s fd ⟨[u], []⟩ [("script", u)]) ∧ ∀ base : Heap, K.In base → base.Ns mainGlobals mg → (∀ p ∈ ([(cc_row_by, cP_row_by, (envOfC "row_by" (defScope s_row_by) 0 0 .none).qual ++ "<lambda>")] : List (Addr × Addr × Str)), LamX.TabB base mg p.1 p.2.1) → FnG P w K mg base L2.CX0 7 fa fd ["script"] (spF ⟨K, w, mg, tOf3 [(cc_row_by, cP_row_by, (envOfC "row_by" (defScope s_row_by) 0 0 .none).qual ++ "<lambda>")]⟩ 1 F_law) := by
  have e := hfa.symm.trans (PySem.W.mg_of X G a_law)
  cases e
  refine ⟨PySem.W.fnOf "law" "law" (defArgs s_law) (defBody s_law) (defScope s_law) .none kV_law dc_law pm_law an_law cd_law ct_law, fun s u => .of_eq rfl, fun base KB GB tb => ?_⟩
  have tb_row_by : LamX.TabB base mg cc_row_by cP_row_by := tb (cc_row_by, cP_row_by, (envOfC "row_by" (defScope s_row_by) 0 0 .none).qual ++ "<lambda>") (List.mem_cons_self ..)
  have T_NoIndex : OexC K C_NoIndex := ⟨⟨nm_NoIndex, q_NoIndex, N_NoIndex, bs_NoIndex, bm_NoIndex, sn_NoIndex, sub_NoIndex, ab_NoIndex, col_NoIndex, dd_NoIndex, m0_NoIndex, m1_NoIndex, m2_NoIndex, m3_NoIndex, m5_NoIndex, x_NoIndex, v_NoIndex⟩, sa_NoIndex, ex_NoIndex, ty_NoIndex, kC_NoIndex⟩
  have X_NoIndex : XfC K C_NoIndex := ⟨ga_NoIndex, gg_NoIndex, ex_NoIndex, hd_NoIndex⟩
  have FI_NoIndex := fun_mk (st := s_NoIndex_init) lI_NoIndex rI_NoIndex kI_NoIndex
  have bI_NoIndex := FI_NoIndex.binds (ps := ["self", "index"]) fun _ _ _ _ _ _ us hl => match us, hl with | [_, _], _ => rfl
  have I_NoIndex : FnOk P w K mg base L2.CX0 1 _ _ ["self", "index"] (spInit K 1 [("index", 1)]) := init_NoIndex FI_NoIndex
  have n_NoIndex : ∀ (f : Str) (i : Nat), (f, i) ∈ ([("index", 1)] : List (Str × Nat)) → PySem.W.findIn K (.ref C_NoIndex) f = some none := by
    intro f i hm
    simp only [List.mem_cons, List.not_mem_nil, or_false, Prod.mk.injEq] at hm
    obtain ⟨rfl, rfl⟩ := hm
    exact no_NoIndex_index
  have e_NoIndex := exm_own ex_NoIndex ic_NoIndex ty_NoIndex se_NoIndex
  have FD_l_alike := fun_mk (st := s_l_alike) l_l_alike r_l_alike k_l_alike
  have b_l_alike := FD_l_alike.binds (ps := ["found", "due"]) fun _ _ _ _ _ _ us hl => match us, hl with | [_, _], _ => rfl
  have G_l_alike : FnG P w K mg base L2.CX0 1 f_l_alike _ ["found", "due"] (spF ⟨K, w, mg, tOf3 [(cc_row_by, cP_row_by, (envOfC "row_by" (defScope s_row_by) 0 0 .none).qual ++ "<lambda>")]⟩ 2 F_l_alike) := g_l_alike FD_l_alike (PySem.W.mg_none_of X G z_repr)
  have FD_l_of_row := fun_mk (st := s_l_of_row) l_l_of_row r_l_of_row k_l_of_row
  have b_l_of_row := FD_l_of_row.binds (ps := ["machine", "row"]) fun _ _ _ _ _ _ us hl => match us, hl with | [_, _], _ => rfl
  have G_l_of_row : FnG P w K mg base L2.CX0 1 f_l_of_row _ ["machine", "row"] (spF ⟨K, w, mg, tOf3 [(cc_row_by, cP_row_by, (envOfC "row_by" (defScope s_row_by) 0 0 .none).qual ++ "<lambda>")]⟩ 2 F_l_of_row) := g_l_of_row FD_l_of_row (PySem.W.mg_none_of X G z_tuple)
  have FD_row_machine := fun_mk (st := s_row_machine) l_row_machine r_row_machine k_row_machine
  have b_row_machine := FD_row_machine.binds (ps := ["machine", "row"]) fun _ _ _ _ _ _ us hl => match us, hl with | [_, _], _ => rfl
  have G_row_machine : FnG P w K mg base L2.CX0 1 f_row_machine _ ["machine", "row"] (spF ⟨K, w, mg, tOf3 [(cc_row_by, cP_row_by, (envOfC "row_by" (defScope s_row_by) 0 0 .none).qual ++ "<lambda>")]⟩ 2 F_row_machine) := g_row_machine FD_row_machine (PySem.W.mg_none_of X G z_tuple)
  have FD_l_labelled := fun_mk (st := s_l_labelled) l_l_labelled r_l_labelled k_l_labelled
  have b_l_labelled := FD_l_labelled.binds (ps := ["machine"]) fun _ _ _ _ _ _ us hl => match us, hl with | [_], _ => rfl
  have G_l_labelled : FnG P w K mg base L2.CX0 1 f_l_labelled _ ["machine"] (spF ⟨K, w, mg, tOf3 [(cc_row_by, cP_row_by, (envOfC "row_by" (defScope s_row_by) 0 0 .none).qual ++ "<lambda>")]⟩ 1 F_l_labelled) := g_l_labelled FD_l_labelled (PySem.W.mg_none_of X G z_tuple) (PySem.W.mg_none_of X G z_len) (PySem.W.mg_none_of X G z_range)
  have FD_point_behind := fun_mk (st := s_point_behind) l_point_behind r_point_behind k_point_behind
  have b_point_behind := FD_point_behind.binds (ps := ["machine", "kind", "past"]) fun _ _ _ _ _ _ us hl => match us, hl with | [_, _, _], _ => rfl
  have G_point_behind : FnG P w K mg base L2.CX0 1 f_point_behind _ ["machine", "kind", "past"] (spF ⟨K, w, mg, tOf3 [(cc_row_by, cP_row_by, (envOfC "row_by" (defScope s_row_by) 0 0 .none).qual ++ "<lambda>")]⟩ 3 F_point_behind) := g_point_behind FD_point_behind
  have FD_l_take := fun_mk (st := s_l_take) l_l_take r_l_take k_l_take
  have b_l_take := FD_l_take.binds (ps := ["bag", "upto"]) fun _ _ _ _ _ _ us hl => match us, hl with | [_, _], _ => rfl
  have G_l_take : FnG P w K mg base L2.CX0 1 f_l_take _ ["bag", "upto"] (spF ⟨K, w, mg, tOf3 [(cc_row_by, cP_row_by, (envOfC "row_by" (defScope s_row_by) 0 0 .none).qual ++ "<lambda>")]⟩ 2 F_l_take) := g_l_take FD_l_take (PySem.W.mg_none_of X G z_int)
  have FD_l_entry := fun_mk (st := s_l_entry) l_l_entry r_l_entry k_l_entry
  have b_l_entry := FD_l_entry.binds (ps := ["machine", "point", "deed"]) fun _ _ _ _ _ _ us hl => match us, hl with | [_, _, _], _ => rfl
  have G_l_entry : FnG P w K mg base L2.CX0 1 f_l_entry _ ["machine", "point", "deed"] (spF ⟨K, w, mg, tOf3 [(cc_row_by, cP_row_by, (envOfC "row_by" (defScope s_row_by) 0 0 .none).qual ++ "<lambda>")]⟩ 3 F_l_entry) := g_l_entry FD_l_entry
  have FD_l_done_by := fun_mk (st := s_l_done_by) l_l_done_by r_l_done_by k_l_done_by
  have b_l_done_by := FD_l_done_by.binds (ps := ["machine", "figure", "deed", "now"]) fun _ _ _ _ _ _ us hl => match us, hl with | [_, _, _, _], _ => rfl
  have G_l_done_by : FnG P w K mg base L2.CX0 2 f_l_done_by _ ["machine", "figure", "deed", "now"] (spF ⟨K, w, mg, tOf3 [(cc_row_by, cP_row_by, (envOfC "row_by" (defScope s_row_by) 0 0 .none).qual ++ "<lambda>")]⟩ 4 F_l_done_by) := g_l_done_by FD_l_done_by G_l_entry (PySem.W.mg_of X G a_l_entry) k_l_entry b_l_entry (PySem.W.mg_none_of X G z_tuple)
  have FD_l_some := fun_mk (st := s_l_some) l_l_some r_l_some k_l_some
  have b_l_some := FD_l_some.binds (ps := ["bag", "things"]) fun _ _ _ _ _ _ us hl => match us, hl with | [_, _], _ => rfl
  have G_l_some : FnG P w K mg base L2.CX0 2 f_l_some _ ["bag", "things"] (spF ⟨K, w, mg, tOf3 [(cc_row_by, cP_row_by, (envOfC "row_by" (defScope s_row_by) 0 0 .none).qual ++ "<lambda>")]⟩ 2 F_l_some) := g_l_some FD_l_some G_l_take (PySem.W.mg_of X G a_l_take) k_l_take b_l_take (PySem.W.mg_none_of X G z_len)
  have FD_l_past := fun_mk (st := s_l_past) l_l_past r_l_past k_l_past
  have b_l_past := FD_l_past.binds (ps := ["bag", "machine", "kind", "most"]) fun _ _ _ _ _ _ us hl => match us, hl with | [_, _, _, _], _ => rfl
  have G_l_past : FnG P w K mg base L2.CX0 3 f_l_past _ ["bag", "machine", "kind", "most"] (spF ⟨K, w, mg, tOf3 [(cc_row_by, cP_row_by, (envOfC "row_by" (defScope s_row_by) 0 0 .none).qual ++ "<lambda>")]⟩ 4 F_l_past) := g_l_past FD_l_past G_l_take (PySem.W.mg_of X G a_l_take) k_l_take b_l_take G_l_done_by (PySem.W.mg_of X G a_l_done_by) k_l_done_by b_l_done_by G_l_some (PySem.W.mg_of X G a_l_some) k_l_some b_l_some (PySem.W.mg_none_of X G z_range) (PySem.W.mg_none_of X G z_len)
  have FD_l_pasts_right := fun_mk (st := s_l_pasts_right) l_l_pasts_right r_l_pasts_right k_l_pasts_right
  have b_l_pasts_right := FD_l_pasts_right.binds (ps := ["bag", "machine"]) fun _ _ _ _ _ _ us hl => match us, hl with | [_, _], _ => rfl
  have G_l_pasts_right : FnG P w K mg base L2.CX0 4 f_l_pasts_right _ ["bag", "machine"] (spF ⟨K, w, mg, tOf3 [(cc_row_by, cP_row_by, (envOfC "row_by" (defScope s_row_by) 0 0 .none).qual ++ "<lambda>")]⟩ 2 F_l_pasts_right) := g_l_pasts_right FD_l_pasts_right G_point_behind (PySem.W.mg_of X G a_point_behind) k_point_behind b_point_behind G_l_alike (PySem.W.mg_of X G a_l_alike) k_l_alike b_l_alike G_l_take (PySem.W.mg_of X G a_l_take) k_l_take b_l_take G_l_past (PySem.W.mg_of X G a_l_past) k_l_past b_l_past G_l_some (PySem.W.mg_of X G a_l_some) k_l_some b_l_some (PySem.W.mg_none_of X G z_range) (PySem.W.mg_none_of X G z_len)
  have FD_l_bent_run := fun_mk (st := s_l_bent_run) l_l_bent_run r_l_bent_run k_l_bent_run
  have b_l_bent_run := FD_l_bent_run.binds (ps := ["bag", "machine", "run", "things"]) fun _ _ _ _ _ _ us hl => match us, hl with | [_, _, _, _], _ => rfl
  have G_l_bent_run : FnG P w K mg base L2.CX0 3 f_l_bent_run _ ["bag", "machine", "run", "things"] (spF ⟨K, w, mg, tOf3 [(cc_row_by, cP_row_by, (envOfC "row_by" (defScope s_row_by) 0 0 .none).qual ++ "<lambda>")]⟩ 4 F_l_bent_run) := g_l_bent_run FD_l_bent_run G_l_some (PySem.W.mg_of X G a_l_some) k_l_some b_l_some G_l_take (PySem.W.mg_of X G a_l_take) k_l_take b_l_take (PySem.W.mg_none_of X G z_len) (PySem.W.mg_none_of X G z_list)
  have FD_lead := fun_mk (st := s_lead) l_lead r_lead k_lead
  have b_lead := FD_lead.binds (ps := ["machine", "there", "deed", "x", "now"]) fun _ _ _ _ _ _ us hl => match us, hl with | [_, _, _, _, _], _ => rfl
  have G_lead : FnG P w K mg base L2.CX0 1 f_lead _ ["machine", "there", "deed", "x", "now"] (spF ⟨K, w, mg, tOf3 [(cc_row_by, cP_row_by, (envOfC "row_by" (defScope s_row_by) 0 0 .none).qual ++ "<lambda>")]⟩ 5 F_lead) := g_lead FD_lead (PySem.W.mg_none_of X G z_tuple)
  have FD_can_lead := fun_mk (st := s_can_lead) l_can_lead r_can_lead k_can_lead
  have b_can_lead := FD_can_lead.binds (ps := ["machine", "there", "deed", "x"]) fun _ _ _ _ _ _ us hl => match us, hl with | [_, _, _, _], _ => rfl
  have G_can_lead : FnG P w K mg base L2.CX0 1 f_can_lead _ ["machine", "there", "deed", "x"] (spF ⟨K, w, mg, tOf3 [(cc_row_by, cP_row_by, (envOfC "row_by" (defScope s_row_by) 0 0 .none).qual ++ "<lambda>")]⟩ 4 F_can_lead) := g_can_lead FD_can_lead
  have FD_p_led := fun_mk (st := s_p_led) l_p_led r_p_led k_p_led
  have b_p_led := FD_p_led.binds (ps := ["machine", "there", "run", "now"]) fun _ _ _ _ _ _ us hl => match us, hl with | [_, _, _, _], _ => rfl
  have G_p_led : FnG P w K mg base L2.CX0 2 f_p_led _ ["machine", "there", "run", "now"] (spF ⟨K, w, mg, tOf3 [(cc_row_by, cP_row_by, (envOfC "row_by" (defScope s_row_by) 0 0 .none).qual ++ "<lambda>")]⟩ 4 F_p_led) := g_p_led FD_p_led G_lead (PySem.W.mg_of X G a_lead) k_lead b_lead G_can_lead (PySem.W.mg_of X G a_can_lead) k_can_lead b_can_lead (PySem.W.mg_none_of X G z_enumerate)
  have FD_led_on := fun_mk (st := s_led_on) l_led_on r_led_on k_led_on
  have b_led_on := FD_led_on.binds (ps := ["machine", "figures", "run", "now"]) fun _ _ _ _ _ _ us hl => match us, hl with | [_, _, _, _], _ => rfl
  have G_led_on : FnG P w K mg base (L2.CX P w) 3 f_led_on _ ["machine", "figures", "run", "now"] (spX ⟨K, w, mg, tOf3 [(cc_row_by, cP_row_by, (envOfC "row_by" (defScope s_row_by) 0 0 .none).qual ++ "<lambda>")]⟩ 4 F_led_on) := g_led_on FD_led_on G_p_led (PySem.W.mg_of X G a_p_led) k_p_led b_p_led T_NoIndex X_NoIndex aI_NoIndex tI_NoIndex I_NoIndex bI_NoIndex (PySem.W.mg_of X G a_NoIndex) n_NoIndex e_NoIndex (PySem.W.mg_none_of X G z_sorted)
  have FD_figures_of := fun_mk (st := s_figures_of) l_figures_of r_figures_of k_figures_of
  have b_figures_of := FD_figures_of.binds (ps := ["machine", "run"]) fun _ _ _ _ _ _ us hl => match us, hl with | [_, _], _ => rfl
  have G_figures_of : FnG P w K mg base (L2.CX P w) 4 f_figures_of _ ["machine", "run"] (spX ⟨K, w, mg, tOf3 [(cc_row_by, cP_row_by, (envOfC "row_by" (defScope s_row_by) 0 0 .none).qual ++ "<lambda>")]⟩ 2 F_figures_of) := g_figures_of FD_figures_of G_led_on (PySem.W.mg_of X G a_led_on) k_led_on b_led_on
  have FD_place_by := fun_mk (st := s_place_by) l_place_by r_place_by k_place_by
  have b_place_by := FD_place_by.binds (ps := ["machine", "row", "figure"]) fun _ _ _ _ _ _ us hl => match us, hl with | [_, _, _], _ => rfl
  have G_place_by : FnG P w K mg base L2.CX0 1 f_place_by _ ["machine", "row", "figure"] (spF ⟨K, w, mg, tOf3 [(cc_row_by, cP_row_by, (envOfC "row_by" (defScope s_row_by) 0 0 .none).qual ++ "<lambda>")]⟩ 3 F_place_by) := g_place_by FD_place_by
  have FD_row_by := fun_mk (st := s_row_by) l_row_by r_row_by k_row_by
  have b_row_by := FD_row_by.binds (ps := ["machine", "row", "figures"]) fun _ _ _ _ _ _ us hl => match us, hl with | [_, _, _], _ => rfl
  have G_row_by : FnG P w K mg base L2.CX0 5 f_row_by _ ["machine", "row", "figures"] (spF ⟨K, w, mg, tOf3 [(cc_row_by, cP_row_by, (envOfC "row_by" (defScope s_row_by) 0 0 .none).qual ++ "<lambda>")]⟩ 3 F_row_by) := g_row_by FD_row_by G_place_by (PySem.W.mg_of X G a_place_by) k_place_by b_place_by ec_row_by tb_row_by (by simp [tOf3]) (fun q hq hp => by simp [tOf3] at hq; rw [hq]) (PySem.W.mg_none_of X G z_sorted)
  have FD_l_key := fun_mk (st := s_l_key) l_l_key r_l_key k_l_key
  have b_l_key := FD_l_key.binds (ps := ["machine", "row", "figure"]) fun _ _ _ _ _ _ us hl => match us, hl with | [_, _, _], _ => rfl
  have G_l_key : FnG P w K mg base L2.CX0 1 f_l_key _ ["machine", "row", "figure"] (spF ⟨K, w, mg, tOf3 [(cc_row_by, cP_row_by, (envOfC "row_by" (defScope s_row_by) 0 0 .none).qual ++ "<lambda>")]⟩ 3 F_l_key) := g_l_key FD_l_key
  have FD_l_ahead := fun_mk (st := s_l_ahead) l_l_ahead r_l_ahead k_l_ahead
  have b_l_ahead := FD_l_ahead.binds (ps := ["machine", "row", "one", "other"]) fun _ _ _ _ _ _ us hl => match us, hl with | [_, _, _, _], _ => rfl
  have G_l_ahead : FnG P w K mg base L2.CX0 2 f_l_ahead _ ["machine", "row", "one", "other"] (spF ⟨K, w, mg, tOf3 [(cc_row_by, cP_row_by, (envOfC "row_by" (defScope s_row_by) 0 0 .none).qual ++ "<lambda>")]⟩ 4 F_l_ahead) := g_l_ahead FD_l_ahead G_l_key (PySem.W.mg_of X G a_l_key) k_l_key b_l_key
  have FD_is_ahead_by := fun_mk (st := s_is_ahead_by) l_is_ahead_by r_is_ahead_by k_is_ahead_by
  have b_is_ahead_by := FD_is_ahead_by.binds (ps := ["machine", "row", "one", "other"]) fun _ _ _ _ _ _ us hl => match us, hl with | [_, _, _, _], _ => rfl
  have G_is_ahead_by : FnG P w K mg base L2.CX0 2 f_is_ahead_by _ ["machine", "row", "one", "other"] (spF ⟨K, w, mg, tOf3 [(cc_row_by, cP_row_by, (envOfC "row_by" (defScope s_row_by) 0 0 .none).qual ++ "<lambda>")]⟩ 4 F_is_ahead_by) := g_is_ahead_by FD_is_ahead_by G_place_by (PySem.W.mg_of X G a_place_by) k_place_by b_place_by
  have FD_l_row := fun_mk (st := s_l_row) l_l_row r_l_row k_l_row
  have b_l_row := FD_l_row.binds (ps := ["machine", "row", "figures"]) fun _ _ _ _ _ _ us hl => match us, hl with | [_, _, _], _ => rfl
  have G_l_row : FnG P w K mg base L2.CX0 2 f_l_row _ ["machine", "row", "figures"] (spF ⟨K, w, mg, tOf3 [(cc_row_by, cP_row_by, (envOfC "row_by" (defScope s_row_by) 0 0 .none).qual ++ "<lambda>")]⟩ 3 F_l_row) := g_l_row FD_l_row G_l_key (PySem.W.mg_of X G a_l_key) k_l_key b_l_key (PySem.W.mg_none_of X G z_sorted)
  have FD_l_rows_by := fun_mk (st := s_l_rows_by) l_l_rows_by r_l_rows_by k_l_rows_by
  have b_l_rows_by := FD_l_rows_by.binds (ps := ["machine", "figures"]) fun _ _ _ _ _ _ us hl => match us, hl with | [_, _], _ => rfl
  have G_l_rows_by : FnG P w K mg base L2.CX0 3 f_l_rows_by _ ["machine", "figures"] (spF ⟨K, w, mg, tOf3 [(cc_row_by, cP_row_by, (envOfC "row_by" (defScope s_row_by) 0 0 .none).qual ++ "<lambda>")]⟩ 2 F_l_rows_by) := g_l_rows_by FD_l_rows_by G_l_row (PySem.W.mg_of X G a_l_row) k_l_row b_l_row (PySem.W.mg_none_of X G z_len) (PySem.W.mg_none_of X G z_range) (PySem.W.mg_none_of X G z_tuple)
  have FD_l_stands_right := fun_mk (st := s_l_stands_right) l_l_stands_right r_l_stands_right k_l_stands_right
  have b_l_stands_right := FD_l_stands_right.binds (ps := ["machine", "figures"]) fun _ _ _ _ _ _ us hl => match us, hl with | [_, _], _ => rfl
  have G_l_stands_right : FnG P w K mg base L2.CX0 6 f_l_stands_right _ ["machine", "figures"] (spF ⟨K, w, mg, tOf3 [(cc_row_by, cP_row_by, (envOfC "row_by" (defScope s_row_by) 0 0 .none).qual ++ "<lambda>")]⟩ 2 F_l_stands_right) := g_l_stands_right FD_l_stands_right G_l_alike (PySem.W.mg_of X G a_l_alike) k_l_alike b_l_alike G_row_by (PySem.W.mg_of X G a_row_by) k_row_by b_row_by G_l_ahead (PySem.W.mg_of X G a_l_ahead) k_l_ahead b_l_ahead G_is_ahead_by (PySem.W.mg_of X G a_is_ahead_by) k_is_ahead_by b_is_ahead_by G_l_rows_by (PySem.W.mg_of X G a_l_rows_by) k_l_rows_by b_l_rows_by (PySem.W.mg_none_of X G z_len) (PySem.W.mg_none_of X G z_range) (PySem.W.mg_none_of X G z_list)
  have FD_l_led := fun_mk (st := s_l_led) l_l_led r_l_led k_l_led
  have b_l_led := FD_l_led.binds (ps := ["machine", "figures", "run", "now"]) fun _ _ _ _ _ _ us hl => match us, hl with | [_, _, _, _], _ => rfl
  have G_l_led : FnG P w K mg base L2.CX0 3 f_l_led _ ["machine", "figures", "run", "now"] (spF ⟨K, w, mg, tOf3 [(cc_row_by, cP_row_by, (envOfC "row_by" (defScope s_row_by) 0 0 .none).qual ++ "<lambda>")]⟩ 4 F_l_led) := g_l_led FD_l_led G_l_done_by (PySem.W.mg_of X G a_l_done_by) k_l_done_by b_l_done_by (PySem.W.mg_none_of X G z_list) (PySem.W.mg_none_of X G z_sorted) (PySem.W.mg_none_of X G z_len) (PySem.W.mg_none_of X G z_range) (PySem.W.mg_none_of X G z_dict)
  have FD_l_figures := fun_mk (st := s_l_figures) l_l_figures r_l_figures k_l_figures
  have b_l_figures := FD_l_figures.binds (ps := ["machine", "run"]) fun _ _ _ _ _ _ us hl => match us, hl with | [_, _], _ => rfl
  have G_l_figures : FnG P w K mg base L2.CX0 4 f_l_figures _ ["machine", "run"] (spF ⟨K, w, mg, tOf3 [(cc_row_by, cP_row_by, (envOfC "row_by" (defScope s_row_by) 0 0 .none).qual ++ "<lambda>")]⟩ 2 F_l_figures) := g_l_figures FD_l_figures G_l_led (PySem.W.mg_of X G a_l_led) k_l_led b_l_led
  have FD_first_barred := fun_mk (st := s_first_barred) l_first_barred r_first_barred k_first_barred
  have b_first_barred := FD_first_barred.binds (ps := ["machine", "run"]) fun _ _ _ _ _ _ us hl => match us, hl with | [_, _], _ => rfl
  have G_first_barred : FnG P w K mg base L2.CX0 3 f_first_barred _ ["machine", "run"] (spF ⟨K, w, mg, tOf3 [(cc_row_by, cP_row_by, (envOfC "row_by" (defScope s_row_by) 0 0 .none).qual ++ "<lambda>")]⟩ 2 F_first_barred) := g_first_barred FD_first_barred G_p_led (PySem.W.mg_of X G a_p_led) k_p_led b_p_led
  have FD_l_barred_at := fun_mk (st := s_l_barred_at) l_l_barred_at r_l_barred_at k_l_barred_at
  have b_l_barred_at := FD_l_barred_at.binds (ps := ["machine", "run"]) fun _ _ _ _ _ _ us hl => match us, hl with | [_, _], _ => rfl
  have G_l_barred_at : FnG P w K mg base L2.CX0 4 f_l_barred_at _ ["machine", "run"] (spF ⟨K, w, mg, tOf3 [(cc_row_by, cP_row_by, (envOfC "row_by" (defScope s_row_by) 0 0 .none).qual ++ "<lambda>")]⟩ 2 F_l_barred_at) := g_l_barred_at FD_l_barred_at G_l_led (PySem.W.mg_of X G a_l_led) k_l_led b_l_led (PySem.W.mg_none_of X G z_int) (PySem.W.mg_none_of X G z_isinstance)
  have FD_l_run_of := fun_mk (st := s_l_run_of) l_l_run_of r_l_run_of k_l_run_of
  have b_l_run_of := FD_l_run_of.binds (ps := ["bag", "machine", "things", "many"]) fun _ _ _ _ _ _ us hl => match us, hl with | [_, _, _, _], _ => rfl
  have G_l_run_of : FnG P w K mg base L2.CX0 4 f_l_run_of _ ["bag", "machine", "things", "many"] (spF ⟨K, w, mg, tOf3 [(cc_row_by, cP_row_by, (envOfC "row_by" (defScope s_row_by) 0 0 .none).qual ++ "<lambda>")]⟩ 4 F_l_run_of) := g_l_run_of FD_l_run_of G_l_led (PySem.W.mg_of X G a_l_led) k_l_led b_l_led G_l_some (PySem.W.mg_of X G a_l_some) k_l_some b_l_some G_l_take (PySem.W.mg_of X G a_l_take) k_l_take b_l_take (PySem.W.mg_none_of X G z_range) (PySem.W.mg_none_of X G z_len) (PySem.W.mg_none_of X G z_dict)
  have FD_l_some_things := fun_mk (st := s_l_some_things) l_l_some_things r_l_some_things k_l_some_things
  have b_l_some_things := FD_l_some_things.binds (ps := ["bag", "kinds", "many"]) fun _ _ _ _ _ _ us hl => match us, hl with | [_, _, _], _ => rfl
  have G_l_some_things : FnG P w K mg base L2.CX0 3 f_l_some_things _ ["bag", "kinds", "many"] (spF ⟨K, w, mg, tOf3 [(cc_row_by, cP_row_by, (envOfC "row_by" (defScope s_row_by) 0 0 .none).qual ++ "<lambda>")]⟩ 3 F_l_some_things) := g_l_some_things FD_l_some_things G_l_some (PySem.W.mg_of X G a_l_some) k_l_some b_l_some G_l_take (PySem.W.mg_of X G a_l_take) k_l_take b_l_take (PySem.W.mg_none_of X G z_sorted) (PySem.W.mg_none_of X G z_range)
  have FD_machine_rows := fun_mk (st := s_machine_rows) l_machine_rows r_machine_rows k_machine_rows
  have b_machine_rows := FD_machine_rows.binds (ps := ["machine"]) fun _ _ _ _ _ _ us hl => match us, hl with | [_], _ => rfl
  have G_machine_rows : FnG P w K mg base L2.CX0 1 f_machine_rows _ ["machine"] (spF ⟨K, w, mg, tOf3 [(cc_row_by, cP_row_by, (envOfC "row_by" (defScope s_row_by) 0 0 .none).qual ++ "<lambda>")]⟩ 1 F_machine_rows) := g_machine_rows FD_machine_rows (PySem.W.mg_none_of X G z_len)
  have FD_machine_deeds := fun_mk (st := s_machine_deeds) l_machine_deeds r_machine_deeds k_machine_deeds
  have b_machine_deeds := FD_machine_deeds.binds (ps := ["machine"]) fun _ _ _ _ _ _ us hl => match us, hl with | [_], _ => rfl
  have G_machine_deeds : FnG P w K mg base L2.CX0 1 f_machine_deeds _ ["machine"] (spF ⟨K, w, mg, tOf3 [(cc_row_by, cP_row_by, (envOfC "row_by" (defScope s_row_by) 0 0 .none).qual ++ "<lambda>")]⟩ 1 F_machine_deeds) := g_machine_deeds FD_machine_deeds (PySem.W.mg_none_of X G z_len)
  have FD_machine_kinds := fun_mk (st := s_machine_kinds) l_machine_kinds r_machine_kinds k_machine_kinds
  have b_machine_kinds := FD_machine_kinds.binds (ps := ["machine"]) fun _ _ _ _ _ _ us hl => match us, hl with | [_], _ => rfl
  have G_machine_kinds : FnG P w K mg base L2.CX0 1 f_machine_kinds _ ["machine"] (spF ⟨K, w, mg, tOf3 [(cc_row_by, cP_row_by, (envOfC "row_by" (defScope s_row_by) 0 0 .none).qual ++ "<lambda>")]⟩ 1 F_machine_kinds) := g_machine_kinds FD_machine_kinds (PySem.W.mg_none_of X G z_len)
  have FD_l_move := fun_mk (st := s_l_move) l_l_move r_l_move k_l_move
  have b_l_move := FD_l_move.binds (ps := ["bag", "lives", "p"]) fun _ _ _ _ _ _ us hl => match us, hl with | [_, _, _], _ => rfl
  have G_l_move : FnG P w K mg base L2.CX0 3 f_l_move _ ["bag", "lives", "p"] (spF ⟨K, w, mg, tOf3 [(cc_row_by, cP_row_by, (envOfC "row_by" (defScope s_row_by) 0 0 .none).qual ++ "<lambda>")]⟩ 3 F_l_move) := g_l_move FD_l_move G_l_take (PySem.W.mg_of X G a_l_take) k_l_take b_l_take G_l_some (PySem.W.mg_of X G a_l_some) k_l_some b_l_some (PySem.W.mg_none_of X G z_tuple) (PySem.W.mg_none_of X G z_range) (PySem.W.mg_none_of X G z_len) (PySem.W.mg_none_of X G z_list)
  have FD_l_stances := fun_mk (st := s_l_stances) l_l_stances r_l_stances k_l_stances
  have b_l_stances := FD_l_stances.binds (ps := ["bag", "lives", "rows"]) fun _ _ _ _ _ _ us hl => match us, hl with | [_, _, _], _ => rfl
  have G_l_stances : FnG P w K mg base L2.CX0 3 f_l_stances _ ["bag", "lives", "rows"] (spF ⟨K, w, mg, tOf3 [(cc_row_by, cP_row_by, (envOfC "row_by" (defScope s_row_by) 0 0 .none).qual ++ "<lambda>")]⟩ 3 F_l_stances) := g_l_stances FD_l_stances G_l_take (PySem.W.mg_of X G a_l_take) k_l_take b_l_take G_l_some (PySem.W.mg_of X G a_l_some) k_l_some b_l_some (PySem.W.mg_none_of X G z_range) (PySem.W.mg_none_of X G z_len)
  have FD_l_machine := fun_mk (st := s_l_machine) l_l_machine r_l_machine k_l_machine
  have b_l_machine := FD_l_machine.binds (ps := ["bag", "kinds", "points", "live", "rows", "deeds"]) fun _ _ _ _ _ _ us hl => match us, hl with | [_, _, _, _, _, _], _ => rfl
  have G_l_machine : FnG P w K mg base L2.CX0 4 f_l_machine _ ["bag", "kinds", "points", "live", "rows", "deeds"] (spF ⟨K, w, mg, tOf3 [(cc_row_by, cP_row_by, (envOfC "row_by" (defScope s_row_by) 0 0 .none).qual ++ "<lambda>")]⟩ 6 F_l_machine) := g_l_machine FD_l_machine G_l_move (PySem.W.mg_of X G a_l_move) k_l_move b_l_move G_l_stances (PySem.W.mg_of X G a_l_stances) k_l_stances b_l_stances G_l_some (PySem.W.mg_of X G a_l_some) k_l_some b_l_some G_l_take (PySem.W.mg_of X G a_l_take) k_l_take b_l_take (PySem.W.mg_none_of X G z_range) (PySem.W.mg_none_of X G z_tuple)
  have FD_l_bag := fun_mk (st := s_l_bag) l_l_bag r_l_bag k_l_bag
  have b_l_bag := FD_l_bag.binds (ps := ["script"]) fun _ _ _ _ _ _ us hl => match us, hl with | [_], _ => rfl
  have G_l_bag : FnG P w K mg base L2.CX0 1 f_l_bag _ ["script"] (spF ⟨K, w, mg, tOf3 [(cc_row_by, cP_row_by, (envOfC "row_by" (defScope s_row_by) 0 0 .none).qual ++ "<lambda>")]⟩ 1 F_l_bag) := g_l_bag FD_l_bag (PySem.W.mg_none_of X G z_abs)
  have FD_law := fun_mk (st := s_law) l_law r_law k_law
  have b_law := FD_law.binds (ps := ["script"]) fun _ _ _ _ _ _ us hl => match us, hl with | [_], _ => rfl
  have G_law : FnG P w K mg base L2.CX0 7 fa _ ["script"] (spF ⟨K, w, mg, tOf3 [(cc_row_by, cP_row_by, (envOfC "row_by" (defScope s_row_by) 0 0 .none).qual ++ "<lambda>")]⟩ 1 F_law) := g_law FD_law G_l_alike (PySem.W.mg_of X G a_l_alike) k_l_alike b_l_alike G_l_of_row (PySem.W.mg_of X G a_l_of_row) k_l_of_row b_l_of_row G_row_machine (PySem.W.mg_of X G a_row_machine) k_row_machine b_row_machine G_l_labelled (PySem.W.mg_of X G a_l_labelled) k_l_labelled b_l_labelled G_l_pasts_right (PySem.W.mg_of X G a_l_pasts_right) k_l_pasts_right b_l_pasts_right G_l_bent_run (PySem.W.mg_of X G a_l_bent_run) k_l_bent_run b_l_bent_run G_figures_of (PySem.W.mg_of X G a_figures_of) k_figures_of b_figures_of G_l_stands_right (PySem.W.mg_of X G a_l_stands_right) k_l_stands_right b_l_stands_right G_l_figures (PySem.W.mg_of X G a_l_figures) k_l_figures b_l_figures G_first_barred (PySem.W.mg_of X G a_first_barred) k_first_barred b_first_barred G_l_barred_at (PySem.W.mg_of X G a_l_barred_at) k_l_barred_at b_l_barred_at G_l_run_of (PySem.W.mg_of X G a_l_run_of) k_l_run_of b_l_run_of G_l_take (PySem.W.mg_of X G a_l_take) k_l_take b_l_take G_l_some_things (PySem.W.mg_of X G a_l_some_things) k_l_some_things b_l_some_things G_machine_rows (PySem.W.mg_of X G a_machine_rows) k_machine_rows b_machine_rows G_machine_deeds (PySem.W.mg_of X G a_machine_deeds) k_machine_deeds b_machine_deeds G_machine_kinds (PySem.W.mg_of X G a_machine_kinds) k_machine_kinds b_machine_kinds G_l_machine (PySem.W.mg_of X G a_l_machine) k_l_machine b_l_machine G_l_bag (PySem.W.mg_of X G a_l_bag) k_l_bag b_l_bag (PySem.W.mg_none_of X G z_range) (PySem.W.mg_none_of X G z_list) (PySem.W.mg_none_of X G z_len)
  exact G_law
end K35
-- metas: ?a_l_alike ?l_l_alike ?r_l_alike ?k_l_alike ?a_l_of_row ?l_l_of_row ?r_l_of_row ?k_l_of_row ?a_row_machine ?l_row_machine ?r_row_machine ?k_row_machine ?a_l_labelled ?l_l_labelled ?r_l_labelled ?k_l_labelled ?a_point_behind ?l_point_behind ?r_point_behind ?k_point_behind ?a_l_take ?l_l_take ?r_l_take ?k_l_take ?a_l_entry ?l_l_entry ?r_l_entry ?k_l_entry ?a_l_done_by ?l_l_done_by ?r_l_done_by ?k_l_done_by ?a_l_some ?l_l_some ?r_l_some ?k_l_some ?a_l_past ?l_l_past ?r_l_past ?k_l_past ?a_l_pasts_right ?l_l_pasts_right ?r_l_pasts_right ?k_l_pasts_right ?a_l_bent_run ?l_l_bent_run ?r_l_bent_run ?k_l_bent_run ?a_lead ?l_lead ?r_lead ?k_lead ?a_can_lead ?l_can_lead ?r_can_lead ?k_can_lead ?a_p_led ?l_p_led ?r_p_led ?k_p_led ?a_led_on ?l_led_on ?r_led_on ?k_led_on ?a_figures_of ?l_figures_of ?r_figures_of ?k_figures_of ?a_place_by ?l_place_by ?r_place_by ?k_place_by ?a_row_by ?l_row_by ?r_row_by ?k_row_by ?a_l_key ?l_l_key ?r_l_key ?k_l_key ?a_l_ahead ?l_l_ahead ?r_l_ahead ?k_l_ahead ?a_is_ahead_by ?l_is_ahead_by ?r_is_ahead_by ?k_is_ahead_by ?a_l_row ?l_l_row ?r_l_row ?k_l_row ?a_l_rows_by ?l_l_rows_by ?r_l_rows_by ?k_l_rows_by ?a_l_stands_right ?l_l_stands_right ?r_l_stands_right ?k_l_stands_right ?a_l_led ?l_l_led ?r_l_led ?k_l_led ?a_l_figures ?l_l_figures ?r_l_figures ?k_l_figures ?a_first_barred ?l_first_barred ?r_first_barred ?k_first_barred ?a_l_barred_at ?l_l_barred_at ?r_l_barred_at ?k_l_barred_at ?a_l_run_of ?l_l_run_of ?r_l_run_of ?k_l_run_of ?a_l_some_things ?l_l_some_things ?r_l_some_things ?k_l_some_things ?a_machine_rows ?l_machine_rows ?r_machine_rows ?k_machine_rows ?a_machine_deeds ?l_machine_deeds ?r_machine_deeds ?k_machine_deeds ?a_machine_kinds ?l_machine_kinds ?r_machine_kinds ?k_machine_kinds ?a_l_move ?l_l_move ?r_l_move ?k_l_move ?a_l_stances ?l_l_stances ?r_l_stances ?k_l_stances ?a_l_machine ?l_l_machine ?r_l_machine ?k_l_machine ?a_l_bag ?l_l_bag ?r_l_bag ?k_l_bag ?a_law ?l_law ?r_law ?k_law ?a_NoIndex ?x_NoIndex ?v_NoIndex ?sa_NoIndex ?ga_NoIndex ?gg_NoIndex ?ex_NoIndex ?ty_NoIndex ?kC_NoIndex ?hd_NoIndex ?ic_NoIndex ?se_NoIndex ?no_NoIndex_index ?aI_NoIndex ?tI_NoIndex ?lI_NoIndex ?rI_NoIndex ?kI_NoIndex ?z_abs ?z_dict ?z_enumerate ?z_int ?z_isinstance ?z_len ?z_list ?z_range ?z_repr ?z_sorted ?z_tuple ?ec_row_by
set_option Elab.async false
set_option linter.all false
set_option maxRecDepth 100000
/-! PA.Bag: what a step keeps of the heap; the bag; take, some. -/
namespace PA
open PySem PySem.Spec PyProof.Rows L2 DL
/-- all is kept but what S says; the rest is new -/
structure Kp (S : Nat → Prop) (h h' : Hm) : Prop where
  len : h.length ≤ h'.length
  at_ : ∀ i, i < h.length → ¬ S i → h'[i]? = h[i]?
theorem lt_of_some {α : Type} {h : List α} {i : Nat} {o : α} (e : h[i]? = some o) : i < h.length := (List.getElem?_eq_some_iff.mp e).1
theorem Kp.refl {S : Nat → Prop} {h : Hm} : Kp S h h := ⟨Nat.le_refl _, fun _ _ _ => rfl⟩
theorem Kp.trans {S : Nat → Prop} {h h1 h2 : Hm} (a : Kp S h h1) (b : Kp S h1 h2) : Kp S h h2 := ⟨Nat.le_trans a.len b.len, fun i hi n => by rw [b.at_ i (Nat.lt_of_lt_of_le hi a.len) n, a.at_ i hi n]⟩
theorem Kp.mono {S T : Nat → Prop} {h h1 : Hm} (a : Kp S h h1) (i : ∀ n, S n → T n) : Kp T h h1 := ⟨a.len, fun n hn t => a.at_ n hn fun s => t (i n s)⟩
theorem Kp.get {S : Nat → Prop} {h h' : Hm} (k : Kp S h h') {i : Nat} {o : MO} (e : h[i]? = some o) (n : ¬ S i) : h'[i]? = some o := by rw [k.at_ i (lt_of_some e) n, e]
theorem Kp.app {S : Nat → Prop} {h l : Hm} : Kp S h (h ++ l) := ⟨by simp, fun i hi _ => List.getElem?_append_left hi⟩
theorem Kp.set {S : Nat → Prop} {h : Hm} {i : Nat} {o : MO} (s : S i) : Kp S h (h.set i o) := ⟨by simp, fun j hj n => List.getElem?_set_ne (fun z => n (by rw [← z]; exact s))⟩
/-- behind what is new: a step that writes only new things keeps the old -/
theorem Kp.cut {S T : Nat → Prop} {h h1 h2 : Hm} (a : Kp S h h1) (b : Kp T h1 h2) (i : ∀ n, n < h.length → T n → S n) : Kp S h h2 := ⟨Nat.le_trans a.len b.len, fun n hn s => by rw [b.at_ n (Nat.lt_of_lt_of_le hn a.len) (fun t => s (i n hn t)), a.at_ n hn s]⟩
abbrev No : Nat → Prop := fun _ => False
abbrev Kq (h h' : Hm) : Prop := Kp No h h'
theorem Kq.any {S : Nat → Prop} {h h' : Hm} (k : Kq h h') : Kp S h h' := k.mono fun _ z => z.elim
theorem Kq.get {h h' : Hm} (k : Kq h h') {i : Nat} {o : MO} (e : h[i]? = some o) : h'[i]? = some o := Kp.get k e (fun z => z)
@[simp] theorem app_new {h : Hm} {o : MO} {l : Hm} : (h ++ o :: l)[h.length]? = some o := by simp
@[simp] theorem app_new2 {h : Hm} {o p : MO} {l : Hm} : (h ++ o :: p :: l)[h.length + 1]? = some p := by simp

@[simp] theorem app_new3 {h : Hm} {o p q : MO} {l : Hm} : (h ++ o :: p :: q :: l)[h.length + 2]? = some q := by simp
/-- the bag at 2, the numbers at 1 -/
structure Bg (h : Hm) : Prop where
  mk :: ex : ∃ (a b c : Int) (xs : List Int), h[1]? = some (.lst (xs.map .int)) ∧ h[2]? = some (.lst [.int a, .int b, .int c, .ref 1]) ∧ 0 ≤ a ∧ 0 ≤ b ∧ b < 2147483647 ∧ 0 ≤ c ∧ (∀ x ∈ xs, 0 ≤ x) ∧ xs.length ≤ 63
abbrev isB : Nat → Prop := fun i => i = 2
structure Kb (h h' : Hm) : Prop where
  kp : Kp isB h h'
  bg : Bg h'
theorem Bg.len {h : Hm} (b : Bg h) : 3 ≤ h.length := let ⟨_, _, _, _, _, e, _⟩ := b.ex; lt_of_some e
theorem Bg.keep {S : Nat → Prop} {h h' : Hm} (b : Bg h) (k : Kp S h h') (h0 : ¬ S 1) (h1 : ¬ S 2) : Bg h' := by
  obtain ⟨x, y, z, xs, e0, e1, r⟩ := b.ex
  exact ⟨x, y, z, xs, k.get e0 h0, k.get e1 h1, r⟩
theorem Kb.refl {h : Hm} (b : Bg h) : Kb h h := ⟨Kp.refl, b⟩
theorem Kb.trans {h h1 h2 : Hm} (a : Kb h h1) (b : Kb h1 h2) : Kb h h2 := ⟨a.kp.trans b.kp, b.bg⟩
theorem Kb.get {h h' : Hm} (k : Kb h h') {i : Nat} {o : MO} (e : h[i]? = some o) (n : i ≠ 2) : h'[i]? = some o := k.kp.get e n
theorem Kq.kb {h h' : Hm} (k : Kq h h') (b : Bg h) : Kb h h' := ⟨k.any, b.keep k (fun z => z) (fun z => z)⟩
theorem Kb.q {h h1 h2 : Hm} (a : Kb h h1) (b : Kq h1 h2) : Kb h h2 := a.trans (b.kb a.bg)
/-- writing what is new -/
theorem Kb.cut {T : Nat → Prop} {h h1 h2 : Hm} (a : Kb h h1) (b : Kp T h1 h2) (i : ∀ n, T n → h.length ≤ n) (bh : Bg h) : Kb h h2 := by
  have l := bh.len
  refine ⟨a.kp.cut b fun n hn t => absurd (i n t) (by omega), a.bg.keep b (fun t => ?_) (fun t => ?_)⟩
  · have := i 1 t; omega
  · have := i 2 t; omega

theorem head_int (xs : List Int) (hx : ∀ x ∈ xs, 0 ≤ x) (c : Int) : ∃ y r, DL.cutD (xs.map D.int) (some c) none ++ [D.int 0] = D.int y :: r ∧ 0 ≤ y ∧ r.length ≤ xs.length := by
  unfold DL.cutD
  generalize hg : ((xs.map D.int).drop (HT.sIx (xs.map D.int).length 0 (some c))).take (HT.sIx (xs.map D.int).length (xs.map D.int).length none - HT.sIx (xs.map D.int).length 0 (some c)) = g
  have hm : ∀ d ∈ g, d ∈ xs.map D.int := fun d hd => List.mem_of_mem_drop (List.mem_of_mem_take (by rw [hg]; exact hd))
  have hl : g.length ≤ xs.length := by
    rw [← hg, List.length_take, List.length_drop, List.length_map]
    omega
  cases g with
  | nil => exact ⟨0, [], rfl, Int.le_refl _, Nat.zero_le _⟩
  | cons d r =>
    obtain ⟨x, hx1, rfl⟩ := List.mem_map.mp (hm d (List.mem_cons_self ..))
    exact ⟨x, r ++ [.int 0], rfl, hx x hx1, by simp at hl ⊢; omega⟩
theorem size_ok {n : Nat} (h : n ≤ 1000000) : n ≤ sizeLine := Nat.le_trans h (by decide)
theorem Kb.put {h h1 : Hm} {xs : List Int} {a s c : Int} (k : Kp isB h h1) (e0 : h1[1]? = some (.lst (xs.map .int))) (l : 2 < h1.length) (ha : 0 ≤ a) (hs : 0 ≤ s) (hs2 : s < 2147483647) (hc : 0 ≤ c) (hx : ∀ x ∈ xs, 0 ≤ x) (hl : xs.length ≤ 63) :
    Kb h (h1.set 2 (.lst [.int a, .int s, .int c, .ref 1])) :=
  ⟨k.trans (Kp.set rfl), ⟨a, s, c, xs, by rw [List.getElem?_set_ne (by decide)]; exact e0, by rw [List.getElem?_set_self l], ha, hs, hs2, hc, hx, hl⟩⟩
theorem cpow : CPow 10 18 := by unfold CPow; decide
theorem size_lt {n : Nat} (h : n < 1000000) : n < sizeLine := Nat.lt_trans h (by decide)
theorem take_wp {h : Hm} (b : Bg h) {u : Nat} (hu : 0 < u) (hu2 : u < 1073741824) : Wp (F_l_take [.ref 2, .int (u : Nat)] h) fun d h' => ∃ v : Nat, v < u ∧ d = .int (v : Nat) ∧ Kb h h' := by
  obtain ⟨a, s, c, xs, e0, e1, ha, hs, hs2, hc, hx, hl⟩ := b.ex
  have l := b.len
  unfold F_l_take
  rw [w_runF, m_l_take, w_sSeq]
  refine Ws.imp (Q := fun f δ h' => f = .nx ∧ (∃ x y, δ = [some (.ref 2), some (.int (u : Nat)), none, none, x, y, none]) ∧ Kb h h' ∧ ∃ a s c, h'[2]? = some (.lst [.int a, .int s, .int c, .ref 1]) ∧ 0 ≤ a ∧ 0 ≤ s ∧ s < 2147483647 ∧ 0 ≤ c) ?_ ?_
  · by_cases ha0 : a = 0
    · subst ha0
      obtain ⟨y, r, hy, hy0, hr⟩ := head_int xs hx c
      have hn : (DL.cutD (List.map D.int xs) (some c) none).length + 1 ≤ 64 := by
        have := congrArg List.length hy
        simp only [List.length_append, List.length_cons, List.length_nil] at this
        omega
      have l1 : 2 < h.length := l
      have ap : ∀ l : Hm, (h ++ l)[2]? = some (.lst [.int 0, .int s, .int c, .ref 1]) := fun l => (List.getElem?_append_left l1).trans e1
      have ap0 : ∀ l : Hm, (h ++ l)[1]? = some (.lst (xs.map .int)) := fun l => (List.getElem?_append_left (by omega)).trans e0
      simp [-getElem?_pos, List.getElem?_cons_zero, List.getElem?_cons_succ, e1, e0, hy, ap]
      have m1 : CMul s 48271 := by unfold CMul; omega
      have m2 : CMul 7919 (c + 1) := by unfold CMul; omega
      have lb : ∀ l : Hm, 2 < (h ++ l).length := fun l => by simp; omega
      have hm0 : 0 ≤ (s * 48271 + y % 2147483647 + 7919 * (c + 1)) % 2147483647 := Int.emod_nonneg _ (by decide)
      have hm1 : (s * 48271 + y % 2147483647 + 7919 * (c + 1)) % 2147483647 < 2147483647 := Int.emod_lt_of_pos _ (by decide)
      refine ⟨size_ok (by decide), size_ok (by omega), cpow, ?_⟩
      split
      · exact ⟨m1, m2, Kb.put Kp.app (ap0 _) (lb _) hy0 hm0 hm1 (by omega) hx hl, _, _, _, ⟨rfl, rfl, rfl⟩, hy0, hm0, hm1, by omega⟩
      · exact ⟨m1, m2, Kb.put Kp.app (ap0 _) (lb _) (Int.le_refl _) hm0 hm1 (by omega) hx hl, _, _, _, ⟨rfl, rfl, rfl⟩, Int.le_refl _, hm0, hm1, by omega⟩
    · simp [e1, e0, ha0]
      exact ⟨Kb.refl b, a, s, c, ⟨rfl, rfl, rfl⟩, ha, hs, hs2, hc⟩
  · rintro f δ h' ⟨rfl, ⟨x, y, rfl⟩, k, a, s, c, e, ha, hs, hs2, hc⟩
    have l' := k.bg.len
    obtain ⟨a', s', c', xs', e0', e1', _, _, _, _, hx', hl'⟩ := k.bg.ex
    have hu' : (0 : Int) < u := by omega
    by_cases ha0 : 0 < a
    · simp [e, ha0]
      refine ⟨hu, ⟨by omega, by omega⟩, (a % u).toNat, ?_, ?_, Kb.put k.kp e0' (by omega) (Int.ediv_nonneg ha (by omega)) hs hs2 hc hx' hl'⟩
      · have := Int.emod_lt_of_pos a hu'
        have := Int.emod_nonneg a (show (u : Int) ≠ 0 by omega)
        omega
      · have := Int.emod_nonneg a (show (u : Int) ≠ 0 by omega)
        omega
    · simp [e, ha0]
      have q0 : 0 ≤ (s + 1) * 39373 % 1000000007 := Int.emod_nonneg _ (by decide)
      have q1 : (s + 1) * 39373 % 1000000007 < 1000000007 := Int.emod_lt_of_pos _ (by decide)
      generalize (s + 1) * 39373 % 1000000007 = q at q0 q1
      have r0 : 0 ≤ q * q % 998244353 := Int.emod_nonneg _ (by decide)
      have r1 : q * q % 998244353 < 998244353 := Int.emod_lt_of_pos _ (by decide)
      generalize q * q % 998244353 = r at r0 r1
      have p0 : 0 ≤ r * 30011 % 998244353 := Int.emod_nonneg _ (by decide)
      have z0 : 0 ≤ r * 30011 % 998244353 / 7 := Int.ediv_nonneg p0 (by decide)
      generalize r * 30011 % 998244353 / 7 = z at z0
      refine ⟨by unfold CMul; omega, by unfold CMul; omega, by unfold CMul; omega, ⟨by omega, by omega⟩, hu, (z % u).toNat, ?_, ?_, k⟩
      · have := Int.emod_lt_of_pos z hu'
        have := Int.emod_nonneg z (show (u : Int) ≠ 0 by omega)
        omega
      · have := Int.emod_nonneg z (show (u : Int) ≠ 0 by omega)
        omega
/-- a drawn one of a list -/
theorem some_wp {h : Hm} (b : Bg h) {k : Nat} {xs : List D} (e : h[k]? = some (.lst xs)) (hk : k ≠ 2) (h0 : 0 < xs.length) (h1 : xs.length < 1073741824) : Wp (F_l_some [.ref 2, .ref k] h) fun d h' => d ∈ xs ∧ Kb h h' := by
  unfold F_l_some
  rw [w_runF, m_l_some]
  simp [e]
  refine (take_wp b h0 h1).imp ?_
  rintro d h' ⟨v, hv, rfl, k'⟩
  simp [k'.get e hk, List.getElem?_eq_getElem hv, k']
end PA
set_option Elab.async false
set_option linter.all false
set_option maxRecDepth 100000
/-! PA.Data: data as Python's data: reading, ==, repr, sorting. -/
namespace PA
open PySem PySem.Spec PyProof.Rows L2 DL
mutual
def pyp : D → PyData
  | .non => .none
  | .bl b => .bool b
  | .int i => .int i
  | .str x => .str x
  | .tup ds => .tuple (pyps ds)
  | .rol ds => .list (pyps ds)
  | .ref _ => .none
  | .ty _ => .none
def pyps : List D → List PyData
  | [] => []
  | d :: ds => pyp d :: pyps ds
end
mutual
/-- without lists that can be written, at most so deep -/
def pok : Nat → D → Bool
  | _, .non => true
  | _, .bl _ => true
  | _, .int _ => true
  | _, .str _ => true
  | n + 1, .tup ds => poks n ds
  | 0, .tup _ => false
  | _, .rol _ => false
  | _, .ref _ => false
  | _, .ty _ => false
def poks : Nat → List D → Bool
  | _, [] => true
  | n, d :: ds => pok n d && poks n ds
end
mutual
theorem py_pok (h : Hm) : ∀ (d : D) (n k : Nat), pok n d = true → n < k → py h k d = some (pyp d)
  | .non, _, k + 1, _, _ => by simp [py, pyp]
  | .bl _, _, k + 1, _, _ => by simp [py, pyp]
  | .int _, _, k + 1, _, _ => by simp [py, pyp]
  | .str _, _, k + 1, _, _ => by simp [py, pyp]
  | .tup ds, n + 1, k + 1, p, hk => by
    have := py_poks h ds n k (by simpa [pok] using p) (by omega)
    simp [py, pyp, this]
theorem py_poks (h : Hm) : ∀ (ds : List D) (n k : Nat), poks n ds = true → n < k → allM (py h k) ds = some (pyps ds)
  | [], _, _, _, _ => by simp [allM, pyps]
  | d :: ds, n, k, p, hk => by
    simp only [poks, Bool.and_eq_true] at p
    simp [allM, pyps, py_pok h d n k p.1 hk, py_poks h ds n k p.2 hk]
end
theorem pyps_map {α : Type} (f : α → D) (xs : List α) : pyps (xs.map f) = xs.map fun x => pyp (f x) := by
  induction xs with
  | nil => rfl
  | cons x r ih => simp [pyps, ih]
theorem pyps_eq (xs : List D) : pyps xs = xs.map pyp := by
  induction xs with
  | nil => rfl
  | cons x r ih => simp [pyps, ih]
theorem poks_of {n : Nat} {ds : List D} (h : ∀ d ∈ ds, pok n d = true) : poks n ds = true := by
  induction ds with
  | nil => rfl
  | cons d r ih => simp [poks, h d (List.mem_cons_self ..), ih fun d m => h d (List.mem_cons_of_mem _ m)]
/-- a list of data -/
theorem py_lst {h : Hm} {r : Nat} {ds : List D} (e : h[r]? = some (.lst ds)) {n k : Nat} (p : ∀ d ∈ ds, pok n d = true) (hk : n + 1 < k) : py h k (.ref r) = some (.list (pyps ds)) := by
  cases k with
  | zero => omega
  | succ k => simp [py, getL_lst e, py_poks h ds n k (poks_of p) (by omega)]

/-- small data: can be compared and shown -/
structure Sm (n w : Nat) (p : PyData) : Prop where
  lay : p.canLay0 = true
  deep : p.depth ≤ n
  wt : p.weight ≤ w
  short : p.intsShort 13 = true
  show_ : p.showable = true
theorem Sm.mono {n w n' w' : Nat} {p : PyData} (s : Sm n w p) (hn : n ≤ n') (hw : w ≤ w') : Sm n' w' p := ⟨s.lay, Nat.le_trans s.deep hn, Nat.le_trans s.wt hw, s.short, s.show_⟩
theorem Sm.none {n w : Nat} : Sm n w .none := ⟨rfl, Nat.zero_le _, Nat.zero_le _, rfl, rfl⟩
theorem Sm.bool {n w : Nat} {b : Bool} : Sm n w (.bool b) := ⟨rfl, Nat.zero_le _, Nat.zero_le _, rfl, rfl⟩
theorem log_lt {i : Nat} (h : i < 2 ^ 40) : i.log2 < 40 := by
  by_cases z : i = 0
  · subst z; decide
  · exact (Nat.log2_lt z).mpr h
theorem Sm.int {n : Nat} {i : Int} (h1 : -999999999999 ≤ i) (h2 : i ≤ 999999999999) : Sm n 40 (.int i) := by
  have hl : i.natAbs.log2 < 40 := log_lt (by omega)
  refine ⟨rfl, Nat.zero_le _, ?_, ?_, ?_⟩
  · simp only [PyData.weight]
    split <;> omega
  · simp only [PyData.intsShort, decide_eq_true_eq]
    exact PyData.shown_int_le2 (by omega) (by omega)
  · simp only [PyData.showable, decide_eq_true_eq]
    omega
theorem Sm.str {n : Nat} {x : Str} (h : PyData.strOk x = true) : Sm n x.cps.size (.str x) := ⟨by simpa [PyData.canLay0] using h, Nat.zero_le _, by simp [PyData.weight], rfl, rfl⟩
structure Sms (n w : Nat) (ps : List PyData) : Prop where
  lay : PyData.canLayAll0 ps = true
  deep : PyData.depthAll ps ≤ n
  wt : PyData.weightAll ps ≤ ps.length * (w + 1)
  short : PyData.intsShortAll 13 ps = true
  show_ : PyData.showableAll ps = true
theorem Sms.of {n w : Nat} : ∀ {ps : List PyData}, (∀ p ∈ ps, Sm n w p) → Sms n w ps
  | [], _ => ⟨rfl, Nat.zero_le _, Nat.zero_le _, rfl, rfl⟩
  | p :: ps, h => by
    have a := h p (List.mem_cons_self ..)
    have b := Sms.of (n := n) (w := w) fun q m => h q (List.mem_cons_of_mem _ m)
    refine ⟨?_, ?_, ?_, ?_, ?_⟩
    · simp [PyData.canLayAll0, a.lay, b.lay]
    · simp only [PyData.depthAll]
      have := a.deep
      have := b.deep
      omega
    · have e : (p :: ps).length * (w + 1) = ps.length * (w + 1) + (w + 1) := by simp [Nat.succ_mul]
      simp only [PyData.weightAll, e]
      have := a.wt
      have := b.wt
      omega
    · simp [PyData.intsShortAll, a.short, b.short]
    · simp [PyData.showableAll, a.show_, b.show_]
theorem Sm.tuple {n w : Nat} {ps : List PyData} (h : ∀ p ∈ ps, Sm n w p) : Sm (n + 1) (ps.length * (w + 1)) (.tuple ps) := by
  have s := Sms.of h
  refine ⟨by simpa [PyData.canLay0] using s.lay, ?_, by simpa [PyData.weight] using s.wt, by simpa [PyData.intsShort] using s.short, by simpa [PyData.showable] using s.show_⟩
  simp only [PyData.depth]
  have := s.deep
  omega
theorem Sm.list {n w : Nat} {ps : List PyData} (h : ∀ p ∈ ps, Sm n w p) : Sm (n + 1) (ps.length * (w + 1)) (.list ps) := by
  have s := Sms.of h
  refine ⟨by simpa [PyData.canLay0] using s.lay, ?_, by simpa [PyData.weight] using s.wt, by simpa [PyData.intsShort] using s.short, by simpa [PyData.showable] using s.show_⟩
  simp only [PyData.depth]
  have := s.deep
  omega
theorem Sm.shaped {n w : Nat} {p : PyData} (s : Sm n w p) (hn : n ≤ 64) : SeqAt.shaped p = true := by
  unfold SeqAt.shaped
  rw [Bool.and_eq_true, decide_eq_true_eq]
  exact ⟨s.lay, Nat.le_trans s.deep hn⟩
theorem Sm.len {n w : Nat} {p : PyData} (s : Sm n w p) (hw : w ≤ 1000000) : p.shown.length ≤ sizeLine := by
  have h2 := PyData.shown_le 13 (by decide) p (PyData.leavesShort_of_canLay0 13 p s.lay s.short)
  have e : sizeLine = 16777216 := by decide
  have := s.wt
  rw [e]
  omega
theorem Sm.refl {n w : Nat} {p : PyData} (s : Sm n w p) : PyData.eqv p p = true := PySem.SeqAt.eqv_refl p s.lay

/-! == and repr of small data -/
section
variable {h : Hm} {Q : D → Hm → Prop} {x y d : D} {p q : PyData} {n w : Nat}
theorem w_eq_same (hx : cmpd x = true) (e1 : py h deepest x = some p) (e2 : py h deepest y = some p) (s : Sm n w p) (hn : n ≤ 64) : Wp (dEq x y h) Q ↔ Q (.bl true) h := by
  rw [w_dEq_g hx e1 e2 (s.shaped hn) (s.shaped hn), s.refl]
theorem w_ne_same (hx : cmpd x = true) (e1 : py h deepest x = some p) (e2 : py h deepest y = some p) (s : Sm n w p) (hn : n ≤ 64) : Wp (dNe x y h) Q ↔ Q (.bl false) h := by
  rw [w_dNe_g hx e1 e2 (s.shaped hn) (s.shaped hn), s.refl]
  rfl
theorem w_repr_sm (e : py h deepest d = some p) (s : Sm n w p) (hn : n ≤ 64) (hw : w ≤ 1000000) : Wp (fRepr [d] h) Q ↔ Q (.str p.shown) h := w_repr e s.show_ (s.len hw) (s.shaped hn)
/-- _law_alike of what reads alike -/
theorem alike_wp (hx : cmpd x = true) (e1 : py h deepest x = some p) (e2 : py h deepest y = some p) (s : Sm n w p) (hn : n ≤ 64) (hw : w ≤ 1000000) : Wp (F_l_alike [x, y] h) fun d h' => d = .bl true ∧ h' = h := by
  unfold F_l_alike
  rw [w_runF, m_l_alike]
  simp [w_eq_same hx e1 e2 s hn, w_repr_sm e1 s hn hw, w_repr_sm e2 s hn hw]
end
end PA
set_option Elab.async false
set_option linter.all false
set_option maxRecDepth 100000
/-! PA.Sort: sorting tuples of ints. -/
namespace PA
open PySem PySem.Spec PyProof.Rows L2 DL
/-- order of lists of ints, as tuples are ordered -/
def lexI : List Int → List Int → Bool
  | [], _ => true
  | _ :: _, [] => false
  | a :: r, b :: t => decide (a < b) || (decide (a = b) && lexI r t)
theorem lexI_cons {a b : Int} {r t : List Int} : lexI (a :: r) (b :: t) = true ↔ a < b ∨ (a = b ∧ lexI r t = true) := by simp [lexI]
theorem lexI_total : ∀ (xs ys : List Int), lexI xs ys = true ∨ lexI ys xs = true
  | [], _ => .inl (by simp [lexI])
  | _ :: _, [] => .inr (by simp [lexI])
  | a :: r, b :: t => by
    rw [lexI_cons, lexI_cons]
    rcases Int.lt_trichotomy a b with h | h | h
    · exact .inl (.inl h)
    · rcases lexI_total r t with z | z
      · exact .inl (.inr ⟨h, z⟩)
      · exact .inr (.inr ⟨h.symm, z⟩)
    · exact .inr (.inl h)
theorem lexI_trans : ∀ (xs ys zs : List Int), lexI xs ys = true → lexI ys zs = true → lexI xs zs = true
  | [], _, _, _, _ => by simp [lexI]
  | _ :: _, [], _, h, _ => by simp [lexI] at h
  | _ :: _, _ :: _, [], _, h => by simp [lexI] at h
  | a :: r, b :: t, c :: u, h1, h2 => by
    rw [lexI_cons] at h1 h2 ⊢
    rcases h1 with h1 | ⟨h1, h1'⟩
    · rcases h2 with h2 | ⟨h2, _⟩
      · exact .inl (by omega)
      · exact .inl (by omega)
    · rcases h2 with h2 | ⟨h2, h2'⟩
      · exact .inl (by omega)
      · exact .inr ⟨by omega, lexI_trans r t u h1' h2'⟩
theorem lexI_anti : ∀ (xs ys : List Int), lexI xs ys = true → lexI ys xs = true → xs = ys
  | [], [], _, _ => rfl
  | [], _ :: _, _, h => by simp [lexI] at h
  | _ :: _, [], h, _ => by simp [lexI] at h
  | a :: r, b :: t, h1, h2 => by
    rw [lexI_cons] at h1 h2
    rcases h1 with h1 | ⟨h1, h1'⟩
    · rcases h2 with h2 | ⟨h2, _⟩ <;> omega
    · rcases h2 with h2 | ⟨h2, h2'⟩
      · omega
      · rw [h1, lexI_anti r t h1' h2']
theorem lexI_refl : ∀ xs : List Int, lexI xs xs = true
  | [] => rfl
  | a :: r => lexI_cons.mpr (.inr ⟨rfl, lexI_refl r⟩)

/-- sorting by a list of ints that each has -/
def leBy {α : Type} (k : α → List Int) (a b : α) : Bool := lexI (k a) (k b)
theorem leBy_sorted {α : Type} (k : α → List Int) (xs : List α) : (xs.mergeSort (leBy k)).Pairwise fun a b => leBy k a b = true :=
  List.pairwise_mergeSort (le := leBy k) (fun a b c => lexI_trans (k a) (k b) (k c)) (fun a b => by simpa [leBy] using lexI_total (k a) (k b)) xs
/-- two orders of the same things, each thing with a key of its own, are sorted alike -/
theorem sort_perm {α : Type} (k : α → List Int) {xs ys : List α} (p : xs.Perm ys) (inj : ∀ a ∈ xs, ∀ b ∈ xs, k a = k b → a = b) : xs.mergeSort (leBy k) = ys.mergeSort (leBy k) := by
  refine List.Perm.eq_of_pairwise (le := fun a b => leBy k a b = true) (fun a b ha hb h1 h2 => ?_) (leBy_sorted k xs) (leBy_sorted k ys) (((List.mergeSort_perm xs _).trans p).trans (List.mergeSort_perm ys _).symm)
  have ha' := (List.mergeSort_perm xs _).mem_iff.mp ha
  have hb' := p.mem_iff.mpr ((List.mergeSort_perm ys _).mem_iff.mp hb)
  exact inj a ha' b hb' (lexI_anti _ _ h1 h2)
/-- what is sorted already stays -/
theorem sort_id {α : Type} (k : α → List Int) {xs : List α} (s : xs.Pairwise fun a b => leBy k a b = true) : xs.mergeSort (leBy k) = xs := List.mergeSort_of_pairwise s

/-! the model's order on tuples of ints -/
theorem dle2 {a b c d : Int} : PySem.W.dataLe false (fun p : PyData => p) (.tuple [.int a, .int b]) (.tuple [.int c, .int d]) = lexI [a, b] [c, d] := by
  show (!PyProof.Rows.lexLt itemOrd _ _) = _
  simp only [PySem.W.keyToks, PySem.W.keyToksAll, List.cons_append, List.nil_append, PyProof.Rows.lexLt, itemLt, lexI]
  by_cases z : a < c
  · have : ¬ c < a := by omega
    simp [z, this]
  · by_cases z2 : a = c
    · subst z2
      by_cases y : b < d
      · have : ¬ d < b := by omega
        simp [y, this]
      · by_cases y2 : b = d
        · subst y2; simp
        · have : d < b := by omega
          simp [y, y2, this]
    · have : c < a := by omega
      simp [z, z2, this]
theorem dle4 {a b e f c d g i : Int} : PySem.W.dataLe false (fun p : PyData => p) (.tuple [.tuple [.int a, .int b], .tuple [.int e, .int f]]) (.tuple [.tuple [.int c, .int d], .tuple [.int g, .int i]]) = lexI [a, b, e, f] [c, d, g, i] := by
  show (!PyProof.Rows.lexLt itemOrd _ _) = _
  have key : ∀ (x y : Int) (A B : List (Int ⊕ List Nat)) (Y : Bool), (!PyProof.Rows.lexLt itemOrd B A) = Y → (!PyProof.Rows.lexLt itemOrd (Sum.inl y :: B) (Sum.inl x :: A)) = (decide (x < y) || (decide (x = y) && Y)) := by
    intro x y A B Y hY
    rw [← hY]
    simp only [PyProof.Rows.lexLt, itemLt]
    by_cases z : x < y
    · have : ¬ y < x := by omega
      simp [z, this]
    · by_cases z2 : x = y
      · subst z2; simp
      · have : y < x := by omega
        simp [z, z2, this]
  have one : ∀ (A B : List (Int ⊕ List Nat)) (n : Int), PyProof.Rows.lexLt itemOrd (Sum.inl n :: B) (Sum.inl n :: A) = PyProof.Rows.lexLt itemOrd B A := by
    intro A B n
    simp [PyProof.Rows.lexLt, itemLt]
  simp only [PySem.W.keyToks, PySem.W.keyToksAll, List.cons_append, List.nil_append, one, lexI]
  refine key _ _ _ _ _ ?_
  rw [one]
  refine key _ _ _ _ _ ?_
  rw [one, one, one]
  refine key _ _ _ _ _ ?_
  rw [one]
  refine key _ _ _ _ _ ?_
  rw [one, one]
  rfl
/-- things that are sorted by the ints k -/
structure SK {α : Type} (f : α → D) (k : α → List Int) : Prop where
  ok : ∀ x, pok 7 (f x) = true
  tup : ∀ x, ∃ y r, pyp (f x) = .tuple (y :: r)
  alike : ∀ x y, PySem.W.alike (pyp (f x)) (pyp (f y)) = true
  le : ∀ x y, PySem.W.dataLe false (fun p : PyData => p) (pyp (f x)) (pyp (f y)) = lexI (k x) (k y)
  deep : ∀ x, (pyp (f x)).depth ≤ 8
section
variable {α : Type} {f : α → D} {k : α → List Int} {h : Hm} {xs : List α}
theorem SK.enc (s : SK f k) (x : α) : DL.encD h (f x) = pyp (f x) := by
  unfold DL.encD
  rw [py_pok h (f x) 7 deepest (s.ok x) (by decide)]
  rfl
theorem SK.sortOk (s : SK f k) : SortOk h (xs.map f) := by
  refine ⟨fun d m => ?_, fun d m e n => ?_, .inl fun d m => ?_, fun d m => ?_⟩
  · obtain ⟨x, _, rfl⟩ := List.mem_map.mp m
    exact ⟨_, py_pok h (f x) 7 deepest (s.ok x) (by decide)⟩
  · rw [List.map_map] at m n
    obtain ⟨x, _, rfl⟩ := List.mem_map.mp m
    obtain ⟨y, _, rfl⟩ := List.mem_map.mp n
    simp only [Function.comp_apply, s.enc]
    exact s.alike x y
  · rw [List.map_map] at m
    obtain ⟨x, _, rfl⟩ := List.mem_map.mp m
    simp only [Function.comp_apply, s.enc]
    exact s.tup x
  · obtain ⟨x, _, rfl⟩ := List.mem_map.mp m
    rw [s.enc]
    exact s.deep x
theorem SK.sortD (s : SK f k) : DL.sortD h (xs.map f) = (xs.mergeSort (leBy k)).map f := by
  unfold DL.sortD
  refine (List.map_mergeSort fun a _ b _ => ?_).symm
  show lexI (k a) (k b) = PySem.W.dataLe false (fun p : PyData => p) (DL.encD h (f a)) (DL.encD h (f b))
  rw [s.enc, s.enc, s.le]
theorem SK.sorted {Q : D → Hm → Prop} {r : Nat} (s : SK f k) (e : h[r]? = some (.lst (xs.map f))) : Wp (fSorted [.ref r] h) Q ↔ Q (.ref h.length) (h ++ [.lst ((xs.mergeSort (leBy k)).map f)]) := by
  rw [w_sorted e s.sortOk, s.sortD]
theorem SK.sortedK {Q : D → Hm → Prop} {r : Nat} {kvs : List (D × D)} (s : SK f k) (e : h[r]? = some (.dct kvs)) (ek : kvs.map (·.1) = xs.map f) : Wp (fSorted [.ref r] h) Q ↔ Q (.ref h.length) (h ++ [.lst ((xs.mergeSort (leBy k)).map f)]) := by
  rw [w_sortedK e (by rw [ek]; exact s.sortOk), ek, s.sortD]
end
end PA
set_option Elab.async false
set_option linter.all false
set_option maxRecDepth 100000
/-! PA.Mach: machines, figures and dicts of figures as plain data. -/
namespace PA
open PySem PySem.Spec PyProof.Rows L2 DL
abbrev Th := Nat × Nat
def dTh (x : Th) : D := .tup [.int (x.1 : Nat), .int (x.2 : Nat)]
def kTh (x : Th) : List Int := [(x.1 : Nat), (x.2 : Nat)]
abbrev Fg := Nat × List Nat
def dNat (n : Nat) : D := .int (n : Nat)
def dFg (f : Fg) : D := .tup [.int (f.1 : Nat), .tup (f.2.map dNat)]
abbrev Pr := Th × Fg
def dPr (p : Pr) : D := .tup [dTh p.1, dFg p.2]
def dWay (b : Bool) : D := if b = true then .str "later" else .str "earlier"
theorem dWay_t : dWay true = .str (Str.ofString "later") := rfl
theorem dWay_f : dWay false = .str (Str.ofString "earlier") := rfl
abbrev Sd := Nat × Bool × Nat
def dSd (s : Sd) : D := .tup [.int (s.1 : Nat), dWay s.2.1, .int (s.2.2 : Nat)]
def dLab : Option (Nat × Nat) → D
  | none => .tup []
  | some p => .tup [.int (p.1 : Nat), .int (p.2 : Nat)]
structure Pt where
  st : List Sd
  live : Nat
  lab : Option (Nat × Nat)
def dPt (p : Pt) : D := .tup [.tup (p.st.map dSd), .int (p.live : Nat), dLab p.lab]
def dK : Option Nat → D
  | none => .int (-1)
  | some k => .int (k : Nat)
abbrev Mv := Option (Nat × List (Option Nat))
def dMv : Mv → D
  | none => .non
  | some p => .tup [.int (p.1 : Nat), .tup (p.2.map dK)]
structure Mach where
  begins : List Nat
  pts : List Pt
  mvs : List (List Mv)
def dMvs (r : List Mv) : D := .tup (r.map dMv)
def dMach (m : Mach) : D := .tup [.tup (m.begins.map dNat), .tup (m.pts.map dPt), .tup (m.mvs.map dMvs)]

section
variable {h : Hm} {Q : D → Hm → Prop} {m : Mach} {x : Th} {f : Fg} {p : Pr} {pt : Pt} {s : Sd}
@[simp] theorem mach_0 : Wp (dIxA (dMach m) (.int 0) h) Q ↔ Q (.tup (m.begins.map dNat)) h := by simp [dMach]
@[simp] theorem mach_1 : Wp (dIxA (dMach m) (.int 1) h) Q ↔ Q (.tup (m.pts.map dPt)) h := by simp [dMach]
@[simp] theorem mach_2 : Wp (dIxA (dMach m) (.int 2) h) Q ↔ Q (.tup (m.mvs.map dMvs)) h := by simp [dMach]
@[simp] theorem th_0 : Wp (dIxA (dTh x) (.int 0) h) Q ↔ Q (.int (x.1 : Nat)) h := by simp [dTh]
@[simp] theorem th_1 : Wp (dIxA (dTh x) (.int 1) h) Q ↔ Q (.int (x.2 : Nat)) h := by simp [dTh]
@[simp] theorem fg_0 : Wp (dIxA (dFg f) (.int 0) h) Q ↔ Q (.int (f.1 : Nat)) h := by simp [dFg]
@[simp] theorem fg_1 : Wp (dIxA (dFg f) (.int 1) h) Q ↔ Q (.tup (f.2.map dNat)) h := by simp [dFg]
@[simp] theorem pr_0 : Wp (dIxA (dPr p) (.int 0) h) Q ↔ Q (dTh p.1) h := by simp [dPr]
@[simp] theorem pr_1 : Wp (dIxA (dPr p) (.int 1) h) Q ↔ Q (dFg p.2) h := by simp [dPr]
@[simp] theorem pt_0 : Wp (dIxA (dPt pt) (.int 0) h) Q ↔ Q (.tup (pt.st.map dSd)) h := by simp [dPt]
@[simp] theorem pt_1 : Wp (dIxA (dPt pt) (.int 1) h) Q ↔ Q (.int (pt.live : Nat)) h := by simp [dPt]
@[simp] theorem pt_2 : Wp (dIxA (dPt pt) (.int 2) h) Q ↔ Q (dLab pt.lab) h := by simp [dPt]
@[simp] theorem tupK_fg {k : List D → Prop} : tupK 2 k (dFg f) = k [.int (f.1 : Nat), .tup (f.2.map dNat)] := by simp [dFg]
@[simp] theorem tupK_pr {k : List D → Prop} : tupK 2 k (dPr p) = k [dTh p.1, dFg p.2] := by simp [dPr]
@[simp] theorem tupK_sd {k : List D → Prop} : tupK 3 k (dSd s) = k [.int (s.1 : Nat), dWay s.2.1, .int (s.2.2 : Nat)] := by simp [dSd]
@[simp] theorem ixL_nat {xs : List D} {n : Nat} : ixL Q h xs (dNat n) = oK xs[n]? Q h := by simp [dNat]
@[simp] theorem isN_fg : Wp (dIsN (dFg f) .non h) Q ↔ Q (.bl false) h := by simp [dFg]
end
theorem thInj {x y : Th} (e : kTh x = kTh y) : x = y := by
  unfold kTh at e
  simp only [List.cons.injEq, and_true] at e
  exact Prod.ext (by omega) (by omega)
theorem thSK : SK dTh kTh := ⟨fun x => rfl, fun x => ⟨_, _, rfl⟩, fun x y => rfl, fun x y => by simp only [dTh, pyp, pyps, kTh]; exact dle2, fun x => by simp [dTh, pyp, pyps, PyData.depth, PyData.depthAll]⟩

/-! dicts whose keys are things -/
def nTh (x : Th) : NestedKey := .tup [.num (x.1 : Nat), .num (x.2 : Nat)]
theorem nk_th (x : Th) : nk (dTh x) = some (nTh x) := by simp [dTh, nk, nks, nTh]
theorem nTh_inj {x y : Th} : nTh x = nTh y ↔ x = y := by
  constructor
  · intro e
    simp only [nTh, NestedKey.tup.injEq, List.cons.injEq, NestedKey.num.injEq, and_true] at e
    exact Prod.ext (by omega) (by omega)
  · rintro rfl; rfl
theorem tkey_th (x : Th) : tkey (dTh x) = some (nTh x) := by
  simp [tkey, dTh, nk, nks, nTh, NestedKey.depth, NestedKey.depthAll]
section
variable {α : Type} (e : α → D)
abbrev Dt (α : Type) := List (Th × α)
def look (kvs : Dt α) (x : Th) : Option α := (kvs.find? fun p => decide (p.1 = x)).map (·.2)
def put (kvs : Dt α) (x : Th) (f : α) : Dt α := if (look kvs x).isSome = true then kvs.map fun p => if p.1 = x then (p.1, f) else p else kvs ++ [(x, f)]
def drp (kvs : Dt α) (x : Th) : Dt α := kvs.filter fun p => decide (p.1 ≠ x)
def dKv (p : Th × α) : D × D := (dTh p.1, e p.2)
theorem dLook_th (kvs : Dt α) (x : Th) : dLook (kvs.map (dKv e)) (nTh x) = (look kvs x).map e := by
  unfold dLook look
  induction kvs with
  | nil => rfl
  | cons p r ih =>
    by_cases z : p.1 = x
    · simp [dKv, nk_th, nTh_inj, z]
    · simp only [List.map_cons, List.find?_cons]
      have h1 : decide (nk (dKv e p).1 = some (nTh x)) = false := by simp [dKv, nk_th, nTh_inj, z]
      have h2 : decide (p.1 = x) = false := by simp [z]
      rw [h1, h2]
      exact ih
theorem dPut_th (kvs : Dt α) (x : Th) (f : α) : dPut (kvs.map (dKv e)) (dTh x) (nTh x) (e f) = (put kvs x f).map (dKv e) := by
  unfold dPut put
  rw [dLook_th, Option.isSome_map]
  split
  · rw [List.map_map, List.map_map]
    refine List.map_congr_left fun p _ => ?_
    by_cases z : p.1 = x
    · simp [dKv, nk_th, nTh_inj, z]
    · simp [dKv, nk_th, nTh_inj, z]
  · simp [dKv]
theorem dDrop_th (kvs : Dt α) (x : Th) : dDrop (kvs.map (dKv e)) (nTh x) = (drp kvs x).map (dKv e) := by
  unfold dDrop drp
  rw [List.filter_map]
  refine congrArg _ (List.filter_congr fun p _ => ?_)
  simp [dKv, nk_th, nTh_inj]
theorem keys_th (kvs : Dt α) : (kvs.map (dKv e)).map (·.1) = (kvs.map (·.1)).map dTh := by simp [dKv]
/-- a dict from a list of pairs -/
theorem dFrom_th (ps : Dt α) (acc : Dt α) (nd : ((acc ++ ps).map (·.1)).Nodup) : dFrom (ps.map fun p => .tup [dTh p.1, e p.2]) (acc.map (dKv e)) = some ((acc ++ ps).map (dKv e)) := by
  induction ps generalizing acc with
  | nil => simp [dFrom]
  | cons p r ih =>
    simp only [List.map_cons, dFrom, tkey_th, Option.bind_some, dPut_th]
    have hn : look acc p.1 = none := by
      unfold look
      rw [Option.map_eq_none_iff, List.find?_eq_none]
      intro q hq
      simp only [decide_eq_true_eq]
      intro z
      rw [List.map_append, List.nodup_append] at nd
      exact nd.2.2 q.1 (List.mem_map_of_mem hq) p.1 (by simp) z
    have hp : put acc p.1 p.2 = acc ++ [p] := by simp [put, hn]
    rw [hp, ih (acc ++ [p]) (by simpa using nd)]
    simp
end
end PA
set_option Elab.async false
set_option linter.all false
set_option maxRecDepth 100000
/-! PA.Comp: comprehensions and loops over typed items. -/
namespace PA
open PySem PySem.Spec PyProof.Rows L2 DL
section
variable {δ : Lo} {h : Hm} {m a b e : ME} {P : Src → Hm → Prop} {Q : D → Hm → Prop} {mi : MI} {g : MG} {t : MT} {vs : List Nat}
def seqK (P : Src → Hm → Prop) : D → Hm → Prop
  | .ref i, h => lsK (fun ds => P ⟨ds, fun h => getL h i = some ds⟩ h) h[i]?
  | .tup ds, h => P ⟨ds, fun _ => True⟩ h
  | .rol ds, h => P ⟨ds, fun _ => True⟩ h
  | _, _ => False
@[simp] theorem seqK_ref {i : Nat} : seqK P (.ref i) h = lsK (fun ds => P ⟨ds, fun h => getL h i = some ds⟩ h) h[i]? := rfl
@[simp] theorem seqK_tup {ds : List D} : seqK P (.tup ds) h = P ⟨ds, fun _ => True⟩ h := rfl
@[simp] theorem seqK_rol {ds : List D} : seqK P (.rol ds) h = P ⟨ds, fun _ => True⟩ h := rfl
@[simp] theorem w_iSeq : Wp (iSeq m δ h) P ↔ Wp (m δ h) (seqK P) := by
  simp only [iSeq, wp_bind]
  refine iff_of_eq (congrArg _ (funext fun d => funext fun h => propext ?_))
  cases d <;> simp [seqK]
  rename_i i
  rcases mo_cases h[i]? with e | ⟨xs, e⟩ | ⟨xs, e⟩
  · simp [getL_no e, e, lsK]
  · simp [getL_lst e, e, lsK]
  · simp [getL_dct e, e, lsK]
@[simp] theorem w_iRng1 : Wp (DL.iRng1 m δ h) P ↔ Wp (m δ h) (intK fun n h => (-(2 ^ 62) ≤ n ∧ n < 2 ^ 62) ∧ P ⟨rngD 0 n.toNat, fun _ => True⟩ h) := by
  simp only [DL.iRng1, wp_bind]
  refine iff_of_eq (congrArg _ (funext fun d => funext fun h => propext ?_))
  cases d <;> simp [intK]
  rename_i n
  by_cases z : -4611686018427387904 ≤ n ∧ n < 4611686018427387904 <;> simp [z]
def enK (P : Src → Hm → Prop) : D → Hm → Prop
  | .ref i, h => lsK (fun ds => P ⟨enD ds, fun h => getL h i = some ds⟩ h) h[i]?
  | .rol ds, h => P ⟨enD ds, fun _ => True⟩ h
  | _, _ => False
@[simp] theorem enK_ref {i : Nat} : enK P (.ref i) h = lsK (fun ds => P ⟨enD ds, fun h => getL h i = some ds⟩ h) h[i]? := rfl
@[simp] theorem w_iEnum1 : Wp (iEnum1 m δ h) P ↔ Wp (m δ h) (enK P) := by
  simp only [iEnum1, wp_bind]
  refine iff_of_eq (congrArg _ (funext fun d => funext fun h => propext ?_))
  cases d <;> simp [enK]
  rename_i i
  rcases mo_cases h[i]? with e | ⟨xs, e⟩ | ⟨xs, e⟩
  · simp [getL_no e, e, lsK]
  · simp [getL_lst e, e, lsK]
  · simp [getL_dct e, e, lsK]
theorem rng_map (n : Nat) : rngD 0 n = (List.range n).map dNat := by
  unfold rngD dNat
  refine List.map_congr_left fun k _ => ?_
  rw [Int.zero_add]
theorem small62 {n : Nat} (h : n ≤ 1000000000) : (-(2 ^ 62) : Int) ≤ (n : Int) ∧ (n : Int) < 2 ^ 62 := by
  constructor
  · have : (0 : Int) ≤ n := Int.natCast_nonneg n
    have : (-(2 ^ 62) : Int) ≤ 0 := by decide
    omega
  · have : (1000000000 : Int) < 2 ^ 62 := by decide
    omega
/-- list(range(n)) -/
@[simp] theorem w_rg1 : Wp (mRg1 m newL δ h) Q ↔ Wp (m δ h) (intK fun n h => rgOk 0 n ∧ Q (.ref h.length) (h ++ [.lst (rngD 0 n.toNat)])) := by
  simp only [mRg1, wp_bind]
  refine iff_of_eq (congrArg _ (funext fun d => funext fun h => propext ?_))
  cases d <;> simp [intK]
  rename_i n
  by_cases z : rgOk 0 n <;> simp [z, newL]
end
inductive All2 {α β : Type} (R : α → β → Prop) : List α → List β → Prop
  | nil : All2 R [] []
  | cons {a : α} {b : β} {l : List α} {m : List β} : R a b → All2 R l m → All2 R (a :: l) (b :: m)
theorem All2.snoc {α β : Type} {R : α → β → Prop} {a : α} {b : β} : ∀ {l : List α} {m : List β}, All2 R l m → R a b → All2 R (l ++ [a]) (m ++ [b])
  | _, _, .nil, r => .cons r .nil
  | _, _, .cons q w, r => .cons q (All2.snoc w r)
theorem All2.length {α β : Type} {R : α → β → Prop} {l : List α} {m : List β} (w : All2 R l m) : l.length = m.length := by
  induction w with
  | nil => rfl
  | cons _ _ ih => simp [ih]
theorem All2.get {α β : Type} {R : α → β → Prop} {l : List α} {m : List β} (w : All2 R l m) : ∀ {i : Nat} {a : α}, l[i]? = some a → ∃ b, m[i]? = some b ∧ R a b := by
  induction w with
  | nil => intro i a e; simp at e
  | cons r _ ih =>
    intro i a e
    cases i with
    | zero => simp at e; subst e; exact ⟨_, rfl, r⟩
    | succ i =>
      obtain ⟨b, h1, h2⟩ := ih (i := i) (a := a) (by simpa using e)
      exact ⟨b, by simpa using h1, h2⟩
/-- the encoded ones, decoded -/
theorem All2.dec {α β : Type} {R : α → D → Prop} {S : α → β → Prop} (enc : β → D) (hd : ∀ a d, R a d → ∃ b, d = enc b ∧ S a b) {l : List α} {m : List D} (w : All2 R l m) : ∃ zs : List β, m = zs.map enc ∧ All2 S l zs := by
  induction w with
  | nil => exact ⟨[], rfl, .nil⟩
  | cons r _ ih =>
    obtain ⟨b, rfl, s⟩ := hd _ _ r
    obtain ⟨zs, rfl, w⟩ := ih
    exact ⟨b :: zs, rfl, .cons s w⟩
section
variable {δ : Lo} {h : Hm} {e : ME} {Q : D → Hm → Prop} {mi : MI} {g : MG} {t : MT} {vs : List Nat}
theorem filter_take_succ {α : Type} {p : α → Bool} {xs : List α} {i : Nat} {x : α} (e : xs[i]? = some x) : (xs.take (i + 1)).filter p = (xs.take i).filter p ++ (if p x = true then [x] else []) := by
  rw [List.take_add_one, e]
  simp only [Option.toList_some, List.filter_append]
  congr 1
  by_cases z : p x = true <;> simp [z]
theorem Kq.cutq {T : Nat → Prop} {h h1 h2 : Hm} (a : Kq h h1) (b : Kp T h1 h2) (i : ∀ n, T n → h.length ≤ n) : Kq h h2 := a.cut b fun n hn t => absurd (i n t) (by omega)
theorem Kb.app {h h1 l : Hm} (k : Kb h h1) : Kb h (h1 ++ l) := k.q Kp.app
theorem Kb.setn {h h1 : Hm} {r : Nat} {o : MO} (k : Kb h h1) (hr : h.length ≤ r) (b : Bg h) : Kb h (h1.set r o) := k.cut (Kp.set (S := fun i => i = r) rfl) (fun n e => by rw [e]; exact hr) b
theorem Kq.app {h h1 l : Hm} (k : Kq h h1) : Kq h (h1 ++ l) := k.trans Kp.app
theorem Kq.setn {h h1 : Hm} {r : Nat} {o : MO} (k : Kq h h1) (hr : h.length ≤ r) : Kq h (h1.set r o) := k.cutq (Kp.set (S := fun i => i = r) rfl) (fun n e => by rw [e]; exact hr)
/-- a comprehension over typed items that draw -/
theorem comp_b {α : Type} (ι : α → D) (xs : List α) (p : α → Bool) (R : α → D → Prop) (b : Bg h) (hs : xs.length ≤ sizeLine)
    (hm : Wp (mi δ h) fun S hb => S.items = xs.map ι ∧ (∀ h2, Kb h h2 → Kb hb h2 → S.guard h2) ∧ Kb h hb)
    (step : ∀ x ∈ xs, ∀ h2, Kb h h2 → Wp (g (ι x) (wipeL δ vs) h2) fun δ2 h3 => Wp (t δ2 h3) fun c h4 => c = p x ∧ Kb h2 h4 ∧ (c = true → Wp (e δ2 h4) fun y h5 => R x y ∧ Kb h4 h5))
    (fin : ∀ h2 r ys, Kb h h2 → h.length ≤ r → h2[r]? = some (.lst ys) → All2 R (xs.filter p) ys → Q (.ref r) h2) : Wp (mComp mi g t e vs δ h) Q := by
  obtain ⟨S, hb, hm, hi, hg, kb⟩ := hm
  have lb : h.length ≤ hb.length := kb.kp.len
  refine comp_inv (fun i acc h' => Kb hb h' ∧ All2 R ((xs.take i).filter p) acc) S.items S.guard (hb := hb) ?_ ?_ ?_ (by rw [hm])
  · exact ⟨(Kb.refl kb.bg).app, by simpa using All2.nil⟩
  · rintro i d acc h1 hd hx ⟨j, w⟩
    rw [hi, List.getElem?_map, Option.map_eq_some_iff] at hd
    obtain ⟨x, ex, rfl⟩ := hd
    have hil : i < xs.length := lt_of_some ex
    refine ⟨hg _ (kb.trans j) j, ?_⟩
    refine (step x (List.mem_of_getElem? ex) h1 (kb.trans j)).imp fun δ2 h3 s => s.imp fun c h4 ⟨ec, j4, s⟩ => ?_
    subst ec
    have hx4 : h4[hb.length]? = some (.lst acc) := j4.get hx (by have := b.len; omega)
    by_cases z : p x = true
    · rw [if_pos z]
      refine (s z).imp fun y h5 ⟨r, j5⟩ => ?_
      have jj := (j.trans j4).trans j5
      refine ⟨j5.get hx4 (by have := b.len; omega), ?_, jj.setn (Nat.le_refl _) kb.bg, ?_⟩
      · have := w.length
        have : ((xs.take i).filter p).length ≤ (xs.take i).length := List.length_filter_le ..
        have : (xs.take i).length = i := by rw [List.length_take]; omega
        omega
      · rw [filter_take_succ ex, if_pos z]
        exact w.snoc r
    · rw [if_neg z]
      refine ⟨hx4, j.trans j4, ?_⟩
      rw [filter_take_succ ex, if_neg z, List.append_nil]
      exact w
  · rintro acc h1 hx ⟨j, w⟩
    have e : S.items.length = xs.length := by rw [hi, List.length_map]
    rw [e, List.take_length] at w
    exact ⟨hg _ (kb.trans j) j, fin h1 _ acc (kb.trans j) lb hx w⟩
/-- a comprehension over typed items -/
theorem comp_q {α : Type} (ι : α → D) (xs : List α) (p : α → Bool) (R : α → D → Prop) (hs : xs.length ≤ sizeLine)
    (hm : Wp (mi δ h) fun S hb => S.items = xs.map ι ∧ (∀ h2, Kq h h2 → Kq hb h2 → S.guard h2) ∧ Kq h hb)
    (step : ∀ x ∈ xs, ∀ h2, Kq h h2 → Wp (g (ι x) (wipeL δ vs) h2) fun δ2 h3 => Wp (t δ2 h3) fun c h4 => c = p x ∧ Kq h2 h4 ∧ (c = true → Wp (e δ2 h4) fun y h5 => R x y ∧ Kq h4 h5))
    (fin : ∀ h2 r ys, Kq h h2 → h.length ≤ r → h2[r]? = some (.lst ys) → All2 R (xs.filter p) ys → Q (.ref r) h2) : Wp (mComp mi g t e vs δ h) Q := by
  obtain ⟨S, hb, hm, hi, hg, kb⟩ := hm
  have lb : h.length ≤ hb.length := kb.len
  refine comp_inv (fun i acc h' => Kq hb h' ∧ All2 R ((xs.take i).filter p) acc) S.items S.guard (hb := hb) ?_ ?_ ?_ (by rw [hm])
  · exact ⟨Kq.app (Kp.refl (S := No)), by simpa using All2.nil⟩
  · rintro i d acc h1 hd hx ⟨j, w⟩
    rw [hi, List.getElem?_map, Option.map_eq_some_iff] at hd
    obtain ⟨x, ex, rfl⟩ := hd
    have hil : i < xs.length := lt_of_some ex
    refine ⟨hg _ (kb.trans j) j, ?_⟩
    refine (step x (List.mem_of_getElem? ex) h1 (kb.trans j)).imp fun δ2 h3 s => s.imp fun c h4 ⟨ec, j4, s⟩ => ?_
    subst ec
    have hx4 : h4[hb.length]? = some (.lst acc) := Kq.get j4 hx
    by_cases z : p x = true
    · rw [if_pos z]
      refine (s z).imp fun y h5 ⟨r, j5⟩ => ?_
      have jj := (j.trans j4).trans j5
      refine ⟨Kq.get j5 hx4, ?_, Kq.setn jj (Nat.le_refl _), ?_⟩
      · have := w.length
        have : ((xs.take i).filter p).length ≤ (xs.take i).length := List.length_filter_le ..
        have : (xs.take i).length = i := by rw [List.length_take]; omega
        omega
      · rw [filter_take_succ ex, if_pos z]
        exact w.snoc r
    · rw [if_neg z]
      refine ⟨hx4, j.trans j4, ?_⟩
      rw [filter_take_succ ex, if_neg z, List.append_nil]
      exact w
  · rintro acc h1 hx ⟨j, w⟩
    have e : S.items.length = xs.length := by rw [hi, List.length_map]
    rw [e, List.take_length] at w
    exact ⟨hg _ (kb.trans j) j, fin h1 _ acc (kb.trans j) lb hx w⟩
theorem rng_get {n i : Nat} {d : D} (e : (rngD 0 n)[i]? = some d) : i < n ∧ d = .int (i : Nat) := by
  rw [rng_map, List.getElem?_map, Option.map_eq_some_iff] at e
  obtain ⟨k, e, rfl⟩ := e
  have hi : i < n := by simpa using lt_of_some e
  rw [List.getElem?_range hi] at e
  cases e
  exact ⟨hi, rfl⟩
/-- for k in range(n) -/
theorem for_rng {n j : Nat} {b : MS} {S : Fl → Lo → Hm → Prop} (I : Nat → Lo → Hm → Prop) (h0 : I 0 δ h) (step : ∀ i δ h, i < n → I i δ h → Ws (b (δ.set j (some (.int (i : Nat)))) h) (forK (I (i + 1)) S)) (fin : ∀ δ h, I n δ h → S .nx δ h) :
    Ws (forGo (fun _ => True) (gN j) b (rngD 0 n) δ h) S := by
  have hl : (rngD 0 n).length = n := by simp [rngD]
  refine for_inv I _ h0 (fun i d δ h e q => ⟨trivial, ?_⟩) (fun δ h q => ⟨trivial, fin δ h (by rw [hl] at q; exact q)⟩)
  obtain ⟨hi, rfl⟩ := rng_get e
  rw [w_gN]
  exact step i δ h hi q
end
end PA
set_option Elab.async false
set_option linter.all false
set_option maxRecDepth 100000
/-! PA.Led: how a machine leads things: the plain function, and the defs that do it. -/
namespace PA
open PySem PySem.Spec PyProof.Rows L2 DL
theorem All2.fn {α β : Type} {f : α → β} {l : List α} {m : List β} (w : All2 (fun x y => y = f x) l m) : m = l.map f := by
  induction w with
  | nil => rfl
  | cons r _ ih => rw [r, ih]; rfl
theorem All2.imp {α β : Type} {R S : α → β → Prop} (i : ∀ a b, R a b → S a b) {l : List α} {m : List β} (w : All2 R l m) : All2 S l m := by
  induction w with
  | nil => exact .nil
  | cons r _ ih => exact .cons (i _ _ r) ih
theorem filter_true {α : Type} (xs : List α) : xs.filter (fun _ => true) = xs := List.filter_eq_self.mpr fun _ _ => rfl
section
variable {δ : Lo} {h : Hm} {e : ME} {Q : D → Hm → Prop} {mi : MI} {g : MG} {vs : List Nat}
/-- [f(x) for x in xs], f a function -/
theorem comp_f {α : Type} (ι f : α → D) (xs : List α) (hs : xs.length ≤ sizeLine) (hm : Wp (mi δ h) fun S hb => S.items = xs.map ι ∧ (∀ h2, Kq h h2 → Kq hb h2 → S.guard h2) ∧ Kq h hb)
    (step : ∀ x ∈ xs, ∀ h2, Kq h h2 → Wp (g (ι x) (wipeL δ vs) h2) fun δ2 h3 => Kq h2 h3 ∧ Wp (e δ2 h3) fun y h5 => y = f x ∧ Kq h3 h5)
    (fin : ∀ h2 r, Kq h h2 → h.length ≤ r → h2[r]? = some (.lst (xs.map f)) → Q (.ref r) h2) : Wp (mComp mi g tYesM e vs δ h) Q := by
  refine comp_q ι xs (fun _ => true) (fun x y => y = f x) hs hm (fun x hx h2 k => ?_) (fun h2 r ys k hr e w => ?_)
  · refine (step x hx h2 k).imp fun δ2 h3 ⟨k3, s⟩ => ?_
    rw [w_tYes]
    exact ⟨rfl, k3, fun _ => s⟩
  · rw [filter_true] at w
    rw [w.fn] at e
    exact fin h2 r k hr e
end
/-! the plain functions -/
def mvAt (m : Mach) (p d : Nat) : Option Mv := (m.mvs[p]?).bind fun r => r[d]?
def took (now : Nat) (ts : List Nat) (t : List (Option Nat)) : List Nat := t.map fun o => match o with
  | none => now
  | some k => ts.getD k 0
def step (m : Mach) (kvs : Dt Fg) (d : Int) (x : Th) (now : Nat) : Option (Dt Fg) :=
  if d = 0 then (if (look kvs x).isSome = true then none else some (put kvs x (m.begins.getD x.1 0, [now])))
  else match look kvs x with
    | none => none
    | some f => if d < 0 then some (drp kvs x) else match mvAt m f.1 (d - 1).toNat with
      | some (some q) => some (put kvs x (q.1, took now f.2 q.2))
      | _ => none
abbrev Rt := Int × Th
def dRt (r : Rt) : D := .tup [.int r.1, dTh r.2]
def led (m : Mach) : Dt Fg → List Rt → Nat → Nat → Sum Nat (Dt Fg)
  | kvs, [], _, _ => .inr kvs
  | kvs, r :: rs, now, k => match step m kvs r.1 r.2 (now + k) with
    | none => .inl k
    | some kvs' => led m kvs' rs now (k + 1)
/-- a machine by form, with K kinds, R rows, E deeds from 1 on -/
structure MOk (m : Mach) (K R E : Nat) : Prop where
  kinds : m.begins.length = K
  mvl : m.mvs.length = m.pts.length
  beg : ∀ b ∈ m.begins, ∃ p, m.pts[b]? = some p ∧ p.live = 1
  rows : ∀ p ∈ m.pts, p.st.length = R
  at_ : ∀ p ∈ m.pts, ∀ s ∈ p.st, s.2.2 < p.live
  live : ∀ p ∈ m.pts, 1 ≤ p.live ∧ p.live ≤ 3
  way : ∀ p ∈ m.pts, ∀ q ∈ m.pts, ∀ (r : Nat) (s t : Sd), p.st[r]? = some s → q.st[r]? = some t → s.1 = t.1 → s.2.1 = t.2.1
  deeds : ∀ r ∈ m.mvs, r.length = E
  mv : ∀ (i : Nat) (r : List Mv) (p : Pt), m.mvs[i]? = some r → m.pts[i]? = some p → ∀ q, some q ∈ r → ∃ p', m.pts[q.1]? = some p' ∧ q.2.length = p'.live ∧ ∀ k, some k ∈ q.2 → k < p.live
/-- a thing's figure fits the machine -/
def FgOk (m : Mach) (f : Fg) : Prop := ∃ p, m.pts[f.1]? = some p ∧ f.2.length = p.live
def KvOk (m : Mach) (kvs : Dt Fg) : Prop := (∀ p ∈ kvs, FgOk m p.2) ∧ (kvs.map (·.1)).Nodup
def RtOk (m : Mach) (E : Nat) (r : Rt) : Prop := -1 ≤ r.1 ∧ r.1 ≤ E ∧ r.2.1 < m.begins.length
section
variable {α : Type} {kvs : Dt α} {x y : Th} {f : α}
theorem look_mem (e : look kvs x = some f) : (x, f) ∈ kvs := by
  unfold look at e
  obtain ⟨p, hp, rfl⟩ := Option.map_eq_some_iff.mp e
  have h1 := List.find?_some hp
  have h2 := List.mem_of_find?_eq_some hp
  simp only [decide_eq_true_eq] at h1
  rw [← h1]
  exact h2
theorem look_none : look kvs x = none ↔ ∀ p ∈ kvs, p.1 ≠ x := by
  unfold look
  rw [Option.map_eq_none_iff, List.find?_eq_none]
  simp
theorem look_of_mem (nd : (kvs.map (·.1)).Nodup) (h : (x, f) ∈ kvs) : look kvs x = some f := by
  unfold look
  induction kvs with
  | nil => cases h
  | cons p r ih =>
    rw [List.map_cons, List.nodup_cons] at nd
    rcases List.mem_cons.mp h with z | z
    · subst z; simp
    · have : p.1 ≠ x := fun q => nd.1 (by rw [q]; exact List.mem_map_of_mem z)
      simp only [List.find?_cons, this, decide_false]
      exact ih nd.2 z
theorem put_keys : ((put kvs x f).map (·.1)) = if (look kvs x).isSome = true then kvs.map (·.1) else kvs.map (·.1) ++ [x] := by
  unfold put
  split
  · rw [List.map_map]
    refine List.map_congr_left fun p _ => ?_
    simp only [Function.comp_apply]
    split <;> rfl
  · simp
theorem put_nodup (nd : (kvs.map (·.1)).Nodup) : ((put kvs x f).map (·.1)).Nodup := by
  rw [put_keys]
  split
  · exact nd
  · rename_i h
    rw [List.nodup_append]
    refine ⟨nd, by simp, fun a ha b hb z => ?_⟩
    rw [List.mem_singleton] at hb
    subst hb
    subst z
    obtain ⟨p, hp, rfl⟩ := List.mem_map.mp ha
    rw [look_of_mem (f := p.2) nd hp] at h
    exact h rfl
theorem put_mem {p : Th × α} (h : p ∈ put kvs x f) : p = (x, f) ∨ (p ∈ kvs ∧ p.1 ≠ x) := by
  unfold put at h
  split at h
  · obtain ⟨q, hq, e⟩ := List.mem_map.mp h
    split at e
    · rename_i z; subst z; exact .inl e.symm
    · rename_i z; subst e; exact .inr ⟨hq, z⟩
  · rename_i hn
    rcases List.mem_append.mp h with z | z
    · refine .inr ⟨z, fun e => hn ?_⟩
      cases hl : look kvs x with
      | some _ => rfl
      | none => exact absurd e (look_none.mp hl p z)
    · rw [List.mem_singleton] at z; exact .inl z
theorem drp_nodup (nd : (kvs.map (·.1)).Nodup) : ((drp kvs x).map (·.1)).Nodup := by
  unfold drp
  exact List.Pairwise.sublist (List.Sublist.map _ List.filter_sublist) nd
theorem drp_mem {p : Th × α} (h : p ∈ drp kvs x) : p ∈ kvs ∧ p.1 ≠ x := by
  unfold drp at h
  rw [List.mem_filter] at h
  simpa using h
theorem put_len : (put kvs x f).length ≤ kvs.length + 1 := by
  unfold put
  split <;> simp
theorem drp_len : (drp kvs x).length ≤ kvs.length := List.length_filter_le ..
end
section
variable {m : Mach} {K R E : Nat} {kvs kvs' : Dt Fg} {d : Int} {x : Th} {now : Nat}
theorem mvAt_some (M : MOk m K R E) {p : Nat} {pt : Pt} (ep : m.pts[p]? = some pt) {k : Nat} (hk : k < E) : ∃ o, mvAt m p k = some o ∧ ∃ r, m.mvs[p]? = some r ∧ r[k]? = some o := by
  have hp : p < m.mvs.length := by rw [M.mvl]; exact lt_of_some ep
  have er := List.getElem?_eq_getElem hp
  have hl := M.deeds _ (List.getElem_mem hp)
  have eo := List.getElem?_eq_getElem (l := m.mvs[p]) (i := k) (by omega)
  exact ⟨_, by unfold mvAt; rw [er]; exact eo, _, er, eo⟩
theorem step_ok (M : MOk m K R E) (kv : KvOk m kvs) (r : RtOk m E (d, x)) (e : step m kvs d x now = some kvs') : KvOk m kvs' := by
  unfold step at e
  split at e
  · split at e
    · cases e
    · cases e
      refine ⟨fun p hp => ?_, put_nodup kv.2⟩
      rcases put_mem hp with z | z
      · subst z
        have hb : x.1 < m.begins.length := r.2.2
        have eb : m.begins.getD x.1 0 = m.begins[x.1] := by simp [List.getD, List.getElem?_eq_getElem hb]
        obtain ⟨pt, h1, h2⟩ := M.beg _ (List.getElem_mem hb)
        exact ⟨pt, by simpa only [eb] using h1, by simp [h2]⟩
      · exact kv.1 p z.1
  · split at e
    · cases e
    · rename_i f ef
      split at e
      · cases e
        exact ⟨fun p hp => kv.1 p (drp_mem hp).1, drp_nodup kv.2⟩
      · split at e
        · rename_i q eq
          cases e
          refine ⟨fun p hp => ?_, put_nodup kv.2⟩
          rcases put_mem hp with z | z
          · subst z
            obtain ⟨pt, h1, h2⟩ := kv.1 _ (look_mem ef)
            unfold mvAt at eq
            obtain ⟨r', e1, e2⟩ := Option.bind_eq_some_iff.mp eq
            obtain ⟨p', g1, g2, g3⟩ := M.mv _ _ _ e1 h1 q (List.mem_of_getElem? e2)
            exact ⟨p', g1, by simp [took, g2]⟩
          · exact kv.1 p z.1
        · cases e
end

/-! the defs -/
section
variable {m : Mach} {K R E : Nat} {h : Hm} {Q : D → Hm → Prop}
theorem entry_wp {p k : Nat} {o : Mv} (e : mvAt m p k = some o) : Wp (F_l_entry [dMach m, .int (p : Nat), .int ((k : Nat) + 1)] h) Q ↔ Q (dMv o) h := by
  unfold mvAt at e
  obtain ⟨r, e1, e2⟩ := Option.bind_eq_some_iff.mp e
  unfold F_l_entry
  rw [w_runF, m_l_entry]
  simp [dMach, e1, dMvs, e2]
theorem done_wp {f : Fg} {k now : Nat} {o : Mv} (e : mvAt m f.1 k = some o) (hk : ∀ q, o = some q → q.2.length ≤ 1000 ∧ ∀ i, some i ∈ q.2 → i < f.2.length) :
    Wp (F_l_done_by [dMach m, dFg f, .int ((k : Nat) + 1), .int (now : Nat)] h) fun d h' => Kq h h' ∧ d = match o with | none => .non | some q => dFg (q.1, took now f.2 q.2) := by
  unfold F_l_done_by
  rw [w_runF, m_l_done_by]
  cases o with
  | none => simp [dFg, entry_wp e, dMv, Kp.refl]
  | some q =>
    obtain ⟨hk1, hk2⟩ := hk q rfl
    simp [dFg, entry_wp e, dMv]
    refine comp_f (f := fun o => match o with | none => dNat now | some i => dNat (f.2.getD i 0)) dK q.2 (size_ok (by omega)) (by simp; exact Kp.refl) (fun x hx h2 k2 => ?_) (fun h2 r k2 hr er => ?_)
    · simp [wipeL]
      refine ⟨Kp.refl, ?_⟩
      cases x with
      | none => simp [dK, dNat, Kp.refl]
      | some i =>
        have hi := hk2 i hx
        have : ¬ ((i : Int) < 0) := by omega
        simp [dK, this, List.getElem?_eq_getElem hi, dNat, Kp.refl]
    · simp [er, took]
      refine ⟨size_ok (by decide), k2, ?_⟩
      intro a ha
      cases a <;> rfl
theorem w_popA_dct {δ : Lo} {i r : Nat} {mi : ME} {kvs0 : List (D × D)} (e0 : δ[i]? = some (some (.ref r))) (e : h[r]? = some (.dct kvs0)) : Wp (mPopA (mVar i) mi δ h) Q ↔ Wp (mi δ h) fun y h => dcK (fun kvs => oK (tkey y) (fun key _ => oK (dLook kvs key) (fun v h => Q v (h.set r (.dct (dDrop kvs key)))) h) h) h[r]? := by
  simp only [mPopA, mVar, e0, Option.bind_some, getK_dct e, mPopD, Option.isSome_some, if_true, wp_bind]
  refine iff_of_eq (congrArg _ (funext fun y => funext fun h => propext ?_))
  rcases mo_cases h[r]? with e | ⟨xs, e⟩ | ⟨xs, e⟩
  · simp [getK_no e, e, dcK]
  · simp [getK_lst e, e, dcK]
  · simp only [getK_dct e, e, dcK, Option.bind_some]
    cases tkey y with
    | none => simp
    | some key =>
      simp only [Option.bind_some, oK_some]
      cases dLook xs key <;> simp
/-- the dict sorted by its keys -/
def srt (kvs : Dt Fg) : Dt Fg := kvs.mergeSort (leBy fun p => kTh p.1)
theorem srt_keys (kvs : Dt Fg) : ((kvs.map (·.1)).mergeSort (leBy kTh)) = (srt kvs).map (·.1) := (List.map_mergeSort (r := leBy fun p : Th × Fg => kTh p.1) (s := leBy kTh) (f := fun p : Th × Fg => p.1) fun _ _ _ _ => rfl).symm
theorem srt_mem {kvs : Dt Fg} {p : Pr} : p ∈ srt kvs ↔ p ∈ kvs := (List.mergeSort_perm kvs _).mem_iff
theorem srt_len {kvs : Dt Fg} : (srt kvs).length = kvs.length := (List.mergeSort_perm kvs _).length_eq
theorem srt_nodup {kvs : Dt Fg} (nd : (kvs.map (·.1)).Nodup) : ((srt kvs).map (·.1)).Nodup := ((List.mergeSort_perm kvs _).map _).nodup_iff.mpr nd
theorem srt_ok {kvs : Dt Fg} (kv : KvOk m kvs) : KvOk m (srt kvs) := ⟨fun p hp => kv.1 p (srt_mem.mp hp), srt_nodup kv.2⟩
/-- how led ends -/
def LedR (h : Hm) (d : D) (h' : Hm) : Sum Nat (Dt Fg) → Prop
  | .inl k => d = .int (k : Nat)
  | .inr kvs => ∃ r, d = .ref r ∧ h.length ≤ r ∧ h'[r]? = some (.lst ((srt kvs).map dPr))
theorem map_dKv (ps : Dt Fg) : (ps.map dPr) = ps.map fun p => .tup [dTh p.1, dFg p.2] := rfl
theorem led_wp (M : MOk m K R E) (hE : E ≤ 1000) {rf rr now : Nat} {figs : Dt Fg} {run : List Rt} (e1 : h[rf]? = some (.lst (figs.map dPr))) (e2 : h[rr]? = some (.lst (run.map dRt))) (kv : KvOk m figs) (ro : ∀ r ∈ run, RtOk m E r)
    (hl : figs.length + run.length ≤ 100000) (tk : ∀ r ∈ m.mvs, ∀ q, some q ∈ r → q.2.length ≤ 1000) : Wp (F_l_led [dMach m, .ref rf, .ref rr, .int (now : Nat)] h) fun d h' => Kq h h' ∧ LedR h d h' (led m figs run now 0) := by
  unfold F_l_led
  rw [w_runF, m_l_led]
  have ed : dFrom (figs.map fun p => .tup [dTh p.1, dFg p.2]) [] = some (figs.map (dKv dFg)) := dFrom_th dFg figs [] (by simpa using kv.2)
  have ap : ∀ l : Hm, (h ++ l)[rr]? = some (.lst (run.map dRt)) := fun l => (List.getElem?_append_left (lt_of_some e2)).trans e2
  simp [-getElem?_pos, List.getElem?_cons_zero, List.getElem?_cons_succ, e1, map_dKv figs, ed, ap]
  have n62 : (run.length : Int) < 4611686018427387904 := by omega
  refine ⟨n62, ?_⟩
  let I : Nat → Lo → Hm → Prop := fun i δ h' => ∃ x5 x6 x7 x8 kvs, δ = [some (dMach m), some (.ref rf), some (.ref rr), some (.int (now : Nat)), some (.ref h.length), x5, x6, x7, x8] ∧ Kq h h' ∧ h'[h.length]? = some (.dct (kvs.map (dKv dFg))) ∧ KvOk m kvs ∧ kvs.length ≤ figs.length + i ∧
    led m kvs (run.drop i) now i = led m figs run now 0
  refine for_rng I ⟨none, none, none, none, figs, rfl, Kp.app, by simp, kv, by omega, by simp⟩ ?_ ?_
  · rintro i δ h1 hil ⟨x5, x6, x7, x8, kvs, rfl, kq, er, kv1, len1, el⟩
    have es := List.getElem?_eq_getElem hil
    have ro1 := ro _ (List.getElem_mem hil)
    rw [List.drop_eq_getElem_cons hil] at el
    generalize run[i] = r at es ro1 el
    obtain ⟨d, x⟩ := r
    have e2' := Kq.get kq e2
    simp only [led] at el
    simp [-getElem?_pos, List.getElem?_cons_zero, List.getElem?_cons_succ, e2', es, dRt, er, w_in_dct er, tkey_th, dLook_th]
    have hle : h.length < h1.length := lt_of_some er
    have next : ∀ (kvs' : Dt Fg) (x5 x6 x7 x8 : Option D) (h2 : Hm), Kq h h2 → h.length < h2.length → step m kvs d x (now + i) = some kvs' → kvs'.length ≤ kvs.length + 1 → I (i + 1) [some (dMach m), some (.ref rf), some (.ref rr), some (.int (now : Nat)), some (.ref h.length), x5, x6, x7, x8] (h2.set h.length (.dct (kvs'.map (dKv dFg)))) := by
      intro kvs' x5 x6 x7 x8 h2 k2 hl2 es2 hl'
      rw [es2] at el
      exact ⟨x5, x6, x7, x8, kvs', rfl, Kq.setn k2 (Nat.le_refl _), by rw [List.getElem?_set_self hl2], step_ok M kv1 ro1 es2, by omega, el⟩
    have stop : ∀ h2, Kq h h2 → step m kvs d x (now + i) = none → Kq h h2 ∧ LedR h (D.int (i : Nat)) h2 (led m figs run now 0) := by
      intro h2 k2 es2
      rw [es2] at el
      rw [← el]
      exact ⟨k2, rfl⟩
    have sz : kvs.length < sizeLine := Nat.lt_of_le_of_lt (show kvs.length ≤ 100000 by omega) (by decide)
    have now1 : ((now : Int) + (i : Int)) = ((now + i : Nat) : Int) := by omega
    cases hlk : look kvs x with
    | none =>
      by_cases hd : d = 0
      · subst hd
        have hb := ro1.2.2
        simp only [Option.isSome_none, decide_true, Bool.true_eq_false, if_false, if_true]
        simp [List.getElem?_eq_getElem hb, er]
        refine ⟨size_ok (by decide), size_ok (by decide), sz, ?_⟩
        have := next (put kvs x (m.begins.getD x.1 0, [now + i])) (some (.int (i : Nat))) (some (.int 0)) (some (dTh x)) x8 h1 kq hle (by simp [step, hlk]) put_len
        rw [← dPut_th] at this
        have eb : m.begins.getD x.1 0 = m.begins[x.1] := by simp [List.getD, List.getElem?_eq_getElem hb]
        rw [eb] at this
        rw [now1]
        exact this
      · simp only [hd, decide_false, Option.isSome_none, if_true]
        exact stop h1 kq (by simp [step, hd, hlk])
    | some f =>
      by_cases hd : d = 0
      · subst hd
        simp only [decide_true, Option.isSome_some, if_true]
        exact stop h1 kq (by simp [step, hlk])
      · simp only [hd, decide_false, Option.isSome_some, Bool.false_eq_true, if_false, Option.map_some, oK_some]
        by_cases hn : d < 0
        · rw [if_pos hn]
          rw [w_popA_dct (by rfl) er]
          simp [er, tkey_th, dLook_th, hlk]
          have := next (drp kvs x) (some (.int (i : Nat))) (some (.int d)) (some (dTh x)) x8 h1 kq hle (by simp [step, hd, hlk, hn]) (Nat.le_succ_of_le drp_len)
          rw [← dDrop_th] at this
          simpa using this
        · rw [if_neg hn]
          obtain ⟨k, rfl⟩ : ∃ k : Nat, d = (k : Int) + 1 := ⟨(d - 1).toNat, by omega⟩
          obtain ⟨pt, hp1, hp2⟩ := kv1.1 _ (look_mem hlk)
          obtain ⟨o, ho, r', hr1, hr2⟩ := mvAt_some M hp1 (k := k) (by have := ro1.2.1; simp at this; omega)
          rw [now1]
          refine (done_wp ho (now := now + i) ?_).imp ?_
          · rintro q rfl
            obtain ⟨p', g1, g2, g3⟩ := M.mv _ _ _ hr1 hp1 q (List.mem_of_getElem? hr2)
            exact ⟨tk _ (List.mem_of_getElem? hr1) q (List.mem_of_getElem? hr2), fun j hj => by rw [hp2]; exact g3 j hj⟩
          · rintro d' h2 ⟨k2, rfl⟩
            have er2 := Kq.get k2 er
            cases o with
            | none =>
              simp
              exact stop h2 (kq.trans k2) (by simp [step, hlk, hn, ho, hd])
            | some q =>
              simp [er2]
              refine ⟨sz, ?_⟩
              have := next (put kvs x (q.1, took (now + i) f.2 q.2)) (some (.int (i : Nat))) (some (.int ((k : Int) + 1))) (some (dTh x)) (some (dFg (q.1, took (now + i) f.2 q.2))) h2 (kq.trans k2) (lt_of_some er2) (by simp [step, hlk, hn, ho, hd]) put_len
              rw [← dPut_th] at this
              simpa [dFg] using this
  · rintro δ h1 ⟨x5, x6, x7, x8, kvs, rfl, kq, er, kv1, len1, el⟩
    rw [List.drop_length, led] at el
    rw [← el]
    have sz : kvs.length ≤ 100000 := by omega
    simp only [sqK_nx, w_sRet]
    have ek : ((kvs.map (·.1)).mergeSort (leBy kTh)).length = kvs.length := by rw [List.length_mergeSort, List.length_map]
    refine comp_f (α := Pr) (fun p => dTh p.1) dPr (srt kvs) (size_ok (by rw [srt_len]; omega)) ?_ (fun p hp h2 k2 => ?_) (fun h2 r k2 hr e2 => ?_)
    · simp [er, keys_th, -List.map_map]
      rw [thSK.sorted (r := h1.length) (xs := kvs.map (·.1)) (by simp [keys_th, -List.map_map])]
      simp [srt_keys, -List.map_map]
      exact ⟨by rw [List.map_map]; rfl, fun h2 _ k3 => getL_lst (Kq.get k3 (by simp)), Kp.app⟩
    · have er2 := Kq.get k2 er
      simp [wipeL, er2, tkey_th, dLook_th, look_of_mem kv1.2 (srt_mem.mp hp)]
      exact ⟨Kp.refl, size_ok (by decide), rfl, Kp.refl⟩
    · exact ⟨kq.trans k2, r, rfl, Nat.le_trans kq.len hr, e2⟩
theorem figures_wp (M : MOk m K R E) (hE : E ≤ 1000) {rr : Nat} {run : List Rt} (e2 : h[rr]? = some (.lst (run.map dRt))) (ro : ∀ r ∈ run, RtOk m E r) (hl : run.length ≤ 100000) (tk : ∀ r ∈ m.mvs, ∀ q, some q ∈ r → q.2.length ≤ 1000) :
    Wp (F_l_figures [dMach m, .ref rr] h) fun d h' => Kq h h' ∧ LedR h d h' (led m [] run 0 0) := by
  unfold F_l_figures
  rw [w_runF, m_l_figures]
  simp
  refine (led_wp (h := h ++ [.lst []]) (rf := h.length) (figs := []) (now := 0) M hE (by simp) (by rw [List.getElem?_append_left (lt_of_some e2)]; exact e2) ⟨by simp, by simp⟩ ro (by simpa using hl) tk).imp ?_
  rintro d h' ⟨k, r⟩
  refine ⟨Kp.trans (Kq.app (Kp.refl (S := No))) k, ?_⟩
  revert r
  cases led m [] run 0 0 with
  | inl k => exact _root_.id
  | inr kvs => exact fun ⟨r, e, hr, z⟩ => ⟨r, e, by simp at hr; omega, z⟩
end
end PA
set_option Elab.async false
set_option linter.all false
set_option maxRecDepth 100000
/-! PA.Draw: the bag's beginning, drawn machines, things, runs. -/
namespace PA
open PySem PySem.Spec PyProof.Rows L2 DL
theorem Kb.mk' {h h' : Hm} (b : Bg h) (k : Kq h h') : Kb h h' := k.kb b
theorem bag_wp {ns : List Int} (hn : ns.length ≤ 63) : Wp (F_l_bag [.rol (ns.map .int)] []) fun d h' => d = .ref 2 ∧ Bg h' ∧ h'.length = 3 := by
  unfold F_l_bag
  rw [w_runF, m_l_bag]
  have hc : cutD (ns.map D.int) none (some 63) = ns.map D.int := by
    unfold DL.cutD
    have e1 : HT.sIx (ns.map D.int).length 0 none = 0 := rfl
    have e2 : HT.sIx (ns.map D.int).length (ns.map D.int).length (some 63) = ns.length := by
      rw [show (some 63 : Option Int) = some ((63 : Nat) : Int) from rfl, HT.sIx_nat]
      simp; omega
    rw [e1, e2]
    simp
    exact List.take_of_length_le (by simp)
  simp [hc]
  refine comp_inv (hb := [.lst (ns.map .int)]) (fun i acc h' => h'.length = 2 ∧ h'[0]? = some (.lst (ns.map .int)) ∧ acc = (ns.take i).map fun n => D.int (if n < 0 then -n else n)) (ns.map D.int) (fun h => getL h 0 = some (ns.map D.int)) ?_ ?_ ?_ ?_
  · simp
  · rintro i d acc h1 hd hx ⟨hl, h0, rfl⟩
    rw [List.getElem?_map, Option.map_eq_some_iff] at hd
    obtain ⟨n, hn1, rfl⟩ := hd
    have hil := lt_of_some hn1
    refine ⟨getL_lst h0, ?_⟩
    simp [wipeL]
    refine ⟨by simpa using hx, Nat.lt_of_le_of_lt (show min i ns.length ≤ 63 by omega) (by decide), hl, h0, ?_⟩
    rw [List.take_add_one, List.getElem?_map, hn1]
    rfl
  · rintro acc h1 hx ⟨hl, h0, rfl⟩
    refine ⟨getL_lst h0, ?_⟩
    simp at hx ⊢
    refine ⟨size_ok (by decide), by rw [hl], ⟨0, 1234567891, 0, ns.map fun n => if n < 0 then -n else n, ?_, ?_, by decide, by decide, by decide, by decide, ?_, by simpa using hn⟩, hl⟩
    · rw [List.getElem?_append_left (by omega), hx]
      simp
    · rw [List.getElem?_append_right (by omega), hl]
      rfl
    · intro x hx
      obtain ⟨n, _, rfl⟩ := List.mem_map.mp hx
      split <;> omega
  · simp [DL.iSeq, mSl, mVar, oNone, oSome, mC, dSl, hc, newL, getL]
theorem seqIndex_nat (v n : Nat) : seqIndex? (v : Int) n = if v < n then some v else none := by
  unfold seqIndex?
  have h1 : ¬ ((v : Int) < 0) := by omega
  simp only [h1, if_false]
  by_cases z : v < n
  · have : (decide (0 ≤ (v : Int)) && decide ((v : Int) < (n : Int))) = true := by simp; omega
    rw [if_pos this, if_pos z]
    simp
  · have : ¬ (decide (0 ≤ (v : Int)) && decide ((v : Int) < (n : Int))) = true := by simp; omega
    rw [if_neg this, if_neg z]
theorem w_popA_lst {h : Hm} {Q : D → Hm → Prop} {δ : Lo} {i r : Nat} {mi : ME} {xs0 : List D} (e0 : δ[i]? = some (some (.ref r))) (e : h[r]? = some (.lst xs0)) : Wp (mPopA (mVar i) mi δ h) Q ↔ Wp (mi δ h) (intK fun v h => lsK (fun xs => (-(2 ^ 63) ≤ v ∧ v < 2 ^ 63) ∧ oK (seqIndex? v xs.length) (fun k h => oK xs[k]? (fun y h => Q y (h.set r (.lst (xs.eraseIdx k)))) h) h) h[r]?) := by
  simp only [mPopA, mVar, e0, Option.bind_some, getK_lst e, mMeth, getL_lst e, Option.isSome_some, if_true, wp_bind, w_aCons, w_aNil]
  refine iff_of_eq (congrArg _ (funext fun y => funext fun h => propext ?_))
  cases y <;> simp [fPop, intK]
  rename_i v
  rcases mo_cases h[r]? with e | ⟨xs, e⟩ | ⟨xs, e⟩
  · simp [getL_no e, e, lsK]
  · simp only [getL_lst e, e, lsK, Option.bind_some]
    by_cases z : -9223372036854775808 ≤ v ∧ v < 9223372036854775808
    · rw [if_pos z]
      simp only [z, and_self, true_and]
      cases seqIndex? v xs.length with
      | none => simp
      | some k =>
        simp only [Option.bind_some, oK_some]
        cases xs[k]? <;> simp
    · rw [if_neg z]
      simp only [wp_none, false_iff]
      exact fun q => z q.1
  · simp [getL_dct e, e, lsK]
theorem map_eraseIdx {α β : Type} (f : α → β) : ∀ (xs : List α) (v : Nat), (xs.map f).eraseIdx v = (xs.eraseIdx v).map f
  | [], _ => rfl
  | _ :: _, 0 => rfl
  | x :: r, v + 1 => by simp [map_eraseIdx f r v]
/-- an entry of moves -/
def MvOk (lives : List Nat) (p : Nat) : Mv → Prop
  | none => True
  | some q => ∃ (l : Nat) (olds : List Nat) (j : Nat), lives[q.1]? = some l ∧ q.2 = olds.map some ++ List.replicate j none ∧ olds.Pairwise (· < ·) ∧ (∀ k ∈ olds, k < lives.getD p 0) ∧ j ≤ 1 ∧ olds.length + j = l
theorem move_wp {h : Hm} (b : Bg h) {rl p : Nat} {lives : List Nat} (el : h[rl]? = some (.lst (lives.map dNat))) (hr : rl ≠ 2) (hp : p < lives.length) (hl : lives.length ≤ 1000) (hv : ∀ l ∈ lives, 1 ≤ l ∧ l ≤ 100) :
    Wp (F_l_move [.ref 2, .ref rl, .int (p : Nat)] h) fun d h' => Kb h h' ∧ ∃ o, d = dMv o ∧ MvOk lives p o := by
  unfold F_l_move
  rw [w_runF, m_l_move]
  refine ws_cut fun K hK => ?_
  simp
  refine (take_wp b (u := 6) (by decide) (by decide)).imp ?_
  rintro d h1 ⟨v, hv1, rfl, k1⟩
  have el1 := k1.get el hr
  have ep := List.getElem?_eq_getElem hp
  have eD : lives.getD p 0 = lives[p] := by simp [List.getD, ep]
  have hlp := hv _ (List.getElem_mem hp)
  simp only [w_dEq_int, blK_bl, decide_eq_true_eq]
  split
  · exact ⟨k1, none, rfl, trivial⟩
  refine hK _ _ (ws_cut fun K hK => ?_)
  simp
  refine comp_q dNat (List.range lives.length) (fun k => decide (lives.getD k 0 ≤ lives.getD p 0 + 1)) (fun k y => y = dNat k) (by simp; exact size_ok (by omega)) ?_ ?_ ?_
  · simp [el1, rng_map, Kp.refl]
    omega
  · intro k hk h2 k2
    have hk' : k < lives.length := List.mem_range.mp hk
    have el2 := Kq.get k2 el1
    simp [wipeL, el2, dNat, List.getElem?_eq_getElem hk', ep, List.getD]
    refine ⟨?_, Kp.refl, fun _ => Kp.refl⟩
    omega
  · intro h2 r ys k2 hr2 er w
    have b2 := (k1.q k2).bg
    have el2 := Kq.get k2 el1
    have ey := w.fn
    subst ey
    have hpm : p ∈ List.filter (fun k => decide (lives.getD k 0 ≤ lives.getD p 0 + 1)) (List.range lives.length) := by
      rw [List.mem_filter]
      exact ⟨List.mem_range.mpr hp, by simp⟩
    have hlen : (List.filter (fun k => decide (lives.getD k 0 ≤ lives.getD p 0 + 1)) (List.range lives.length)).length ≤ lives.length := Nat.le_trans (List.length_filter_le ..) (by simp)
    have hb2 := b.len
    have hb1 := k1.kp.len
    refine (some_wp b2 er (by omega) (by rw [List.length_map]; exact List.length_pos_of_mem hpm) (by rw [List.length_map]; omega)).imp ?_
    rintro d h3 ⟨hd, k3⟩
    obtain ⟨q, hq, rfl⟩ := List.mem_map.mp hd
    rw [List.mem_filter] at hq
    have hq1 : q < lives.length := List.mem_range.mp hq.1
    have eq := List.getElem?_eq_getElem hq1
    have eqD : lives.getD q 0 = lives[q] := by simp [List.getD, eq]
    have hq2 : lives[q] ≤ lives[p] + 1 := by
      have := of_decide_eq_true hq.2
      rw [eD, eqD] at this
      exact this
    have hlq := hv _ (List.getElem_mem hq1)
    generalize hlqe : lives[q] = lq at *
    generalize hlpe : lives[p] = lp at *
    have el3 := k3.get el2 hr
    have k13 := (k1.q k2).trans k3
    have h3l : h.length ≤ h3.length := k13.kp.len
    refine hK _ _ (ws_cut fun K hK => ?_)
    have ap : ∀ l : Hm, (h3 ++ l)[rl]? = some (.lst (lives.map dNat)) := fun l => (List.getElem?_append_left (lt_of_some el3)).trans el3
    simp [-getElem?_pos, List.getElem?_cons_zero, List.getElem?_cons_succ, el3, ap, ep, eq, dNat]
    refine ⟨⟨by decide, by decide, by omega, by omega, by omega⟩, ?_⟩
    have e4 : (h3 ++ [.lst (rngD 0 lp)])[h3.length]? = some (.lst ((List.range lp).map dNat)) := by rw [rng_map]; simp
    have k4 : Kb h (h3 ++ [.lst (rngD 0 lp)]) := k13.q Kp.app
    have el4 := ap [.lst (rngD 0 lp)]
    refine hK _ _ ?_
    generalize h3 ++ [.lst (rngD 0 lp)] = h4 at e4 k4 el4 ⊢
    generalize hO : h3.length = O at e4 ⊢
    have hO2 : h.length ≤ O := by omega
    refine (w_sSeq.mpr (Ws.imp (Q := fun f δ h5 => f = .nx ∧ ∃ kept : Nat, δ = [some (.ref 2), some (.ref rl), some (.int (p : Nat)), some (.int (q : Nat)), none, some (.ref O), some (.int (kept : Nat))] ∧ kept ≤ lp ∧ kept ≤ lq ∧ lq ≤ kept + 1 ∧ Kb h4 h5) ?_ ?_))
    · have el41 : ((lq - 1 : Nat) : Int) = (lq : Int) - 1 := by omega
      simp [-getElem?_pos, List.getElem?_cons_zero, List.getElem?_cons_succ, el4, ep, eq, dNat]
      by_cases hz : lq ≤ lp
      · simp only [hz, if_true]
        refine (take_wp k4.bg (u := 4) (by decide) (by decide)).imp ?_
        rintro d h5 ⟨v, hv1, rfl, k5⟩
        have el5 := k5.get el4 hr
        simp only [w_dEq_int, blK_bl, decide_eq_true_eq]
        split
        · simp [-getElem?_pos, List.getElem?_cons_zero, List.getElem?_cons_succ, el5, eq, dNat]
          exact ⟨lq, rfl, hz, Nat.le_refl _, by omega, k5⟩
        · exact ⟨lq - 1, by rw [el41], by omega, by omega, by omega, k5⟩
      · simp only [hz, if_false]
        exact ⟨lq - 1, by rw [el41], by omega, by omega, by omega, Kb.refl k4.bg⟩
    rintro f δ h5 ⟨rfl, kept, rfl, kp1, kp2, kp3, k5⟩
    have el5 := k5.get el4 hr
    have e5 := k5.get e4 (by omega)
    have k05 := k4.trans k5
    refine ws_cut fun K hK => ?_
    simp [-getElem?_pos, List.getElem?_cons_zero, List.getElem?_cons_succ, el5, ep, dNat]
    refine ⟨by omega, ?_⟩
    have en : ((lp : Int) - (kept : Int)).toNat = lp - kept := by omega
    refine for_rng (fun i δ h6 => ∃ x4 olds, δ = [some (.ref 2), some (.ref rl), some (.int (p : Nat)), some (.int (q : Nat)), x4, some (.ref O), some (.int (kept : Nat))] ∧ Kb h h6 ∧ h6[O]? = some (.lst (olds.map dNat)) ∧ h6[rl]? = some (.lst (lives.map dNat)) ∧ olds.length + i = lp ∧ olds.Pairwise (· < ·) ∧ ∀ k ∈ olds, k < lp)
      ⟨none, List.range lp, rfl, k05, e5, el5, by simp, List.pairwise_lt_range, fun k hk => List.mem_range.mp hk⟩ ?_ ?_
    · rintro i δ h6 hi ⟨x4, olds, rfl, k6, e6, el6, ol, op, ok⟩
      simp
      rw [w_popA_lst (by rfl) e6]
      simp [-getElem?_pos, List.getElem?_cons_zero, List.getElem?_cons_succ, e6]
      refine (take_wp k6.bg (u := olds.length) (by omega) (by omega)).imp ?_
      rintro d h7 ⟨v, hv1, rfl, k7⟩
      have e7 := k7.get e6 (by omega)
      simp [-getElem?_pos, List.getElem?_cons_zero, List.getElem?_cons_succ, e7, seqIndex_nat, hv1]
      refine ⟨by omega, ?_⟩
      rw [List.getElem?_eq_getElem hv1]
      simp only [Option.map_some, oK_some]
      have hrl : rl < h.length := lt_of_some el
      have k67 := k6.trans k7
      have el7 := k7.get el6 hr
      refine ⟨k67.setn hO2 b, olds.eraseIdx v, ?_, ?_, ?_, op.sublist (List.eraseIdx_sublist ..), fun k hk => ok k (List.mem_of_mem_eraseIdx hk)⟩
      · rw [List.getElem?_set_self (lt_of_some e7), map_eraseIdx]
      · rw [List.getElem?_set_ne (by omega)]
        exact el7
      · rw [List.length_eraseIdx_of_lt hv1]
        omega
    · rintro δ h6 ⟨x4, olds, rfl, k6, e6, el6, ol, op, ok⟩
      refine hK _ _ ?_
      simp [-getElem?_pos, List.getElem?_cons_zero, List.getElem?_cons_succ, e6, el6, eq, dNat]
      refine ⟨size_ok (by decide), ⟨by omega, by omega⟩, size_ok (by omega), size_ok (by decide), k6, some (q, olds.map some ++ List.replicate (lq - kept) none), ?_, lq, olds, lq - kept, eq, rfl, op, by rw [eD]; exact ok, by omega, by omega⟩
      simp [dMv, dK]
      intro a _; rfl
end PA
set_option Elab.async false
set_option linter.all false
set_option maxRecDepth 100000
/-! PA.Stan: the stands of a drawn machine. -/
namespace PA
open PySem PySem.Spec PyProof.Rows L2 DL
/-- a row of stands: Ws tells the ways of the classes of each row -/
def StOk (Ws : List (List Bool)) (l : Nat) (sd : List Sd) : Prop := sd.length = Ws.length ∧ ∀ (r : Nat) (s : Sd), sd[r]? = some s → s.1 < 3 ∧ s.2.2 < l ∧ ∃ W, Ws[r]? = some W ∧ W[s.1]? = some s.2.1
/-- the lists of stands in the heap -/
structure StH (h : Hm) (lives : List Nat) (F : Nat) (rs : List Nat) (sd : Nat → List Sd) (h' : Hm) : Prop where
  kb : Kb h h'
  top : h'[F]? = some (.lst (rs.map .ref))
  len : rs.length = lives.length
  nd : rs.Nodup
  new : h.length ≤ F ∧ ∀ r ∈ rs, h.length ≤ r ∧ r ≠ F
  at_ : ∀ (i r : Nat), rs[i]? = some r → h'[r]? = some (.lst ((sd i).map dSd))
theorem StH.keep {h h1 h2 : Hm} {lives : List Nat} {F : Nat} {rs : List Nat} {sd : Nat → List Sd} (b : Bg h) (s : StH h lives F rs sd h1) (k : Kb h1 h2) : StH h lives F rs sd h2 := by
  have := b.len
  refine ⟨s.kb.trans k, k.get s.top (by have := s.new.1; omega), s.len, s.nd, s.new, fun i r e => k.get (s.at_ i r e) ?_⟩
  have := (s.new.2 r (List.mem_of_getElem? e)).1
  omega
theorem stances_wp {h : Hm} (b : Bg h) {rl rows : Nat} {lives : List Nat} (el : h[rl]? = some (.lst (lives.map dNat))) (hr : rl ≠ 2) (hl : lives.length ≤ 1000) (hv : ∀ l ∈ lives, 1 ≤ l ∧ l ≤ 100) (hrows : rows ≤ 1000) :
    Wp (F_l_stances [.ref 2, .ref rl, .int (rows : Nat)] h) fun d h' => ∃ F rs sd Ws, d = .ref F ∧ StH h lives F rs sd h' ∧ Ws.length = rows ∧ ∀ (i l : Nat), lives[i]? = some l → StOk Ws l (sd i) := by
  have hb := b.len
  unfold F_l_stances
  rw [w_runF, m_l_stances]
  refine ws_cut fun K hK => ?_
  simp
  refine comp_inv (hb := h) (fun i acc h' => ∃ rs : List Nat, Kb h h' ∧ acc = rs.map .ref ∧ rs.length = i ∧ rs.Nodup ∧ (∀ r ∈ rs, h.length < r ∧ r < h'.length ∧ h'[r]? = some (.lst []))) (lives.map dNat) (fun h => getL h rl = some (lives.map dNat)) ?_ ?_ ?_ ?_
  · exact ⟨[], (Kb.refl b).app, rfl, rfl, by simp, by simp⟩
  · rintro i d acc h1 hd hx ⟨rs, k1, rfl, rlen, nd, hrs⟩
    have hlt := lt_of_some hx
    have hi : i < lives.length := by simpa using lt_of_some hd
    have hx2 : ∀ l : Hm, (h1 ++ l)[h.length]? = some (.lst (rs.map .ref)) := fun l => (List.getElem?_append_left hlt).trans hx
    refine ⟨getL_lst (k1.get el hr), ?_⟩
    simp [-getElem?_pos, List.getElem?_cons_zero, List.getElem?_cons_succ, wipeL, hx2]
    have := k1.kp.len
    refine ⟨size_lt (by omega), (k1.app).setn (Nat.le_refl _) b, rs ++ [h1.length], by simp, by simp [rlen], ?_, ?_⟩
    · rw [List.nodup_append]
      refine ⟨nd, by simp, fun x hx y hy z => ?_⟩
      rw [List.mem_singleton] at hy
      subst hy
      have := (hrs x hx).2.1
      omega
    · intro r hr
      rcases List.mem_append.mp hr with z | z
      · obtain ⟨q1, q2, q3⟩ := hrs r z
        refine ⟨q1, by omega, ?_⟩
        rw [List.getElem?_set_ne (by omega), List.getElem?_append_left q2]
        exact q3
      · rw [List.mem_singleton] at z
        subst z
        refine ⟨by omega, by omega, ?_⟩
        rw [List.getElem?_set_ne (by omega)]
        simp
  · rintro acc h1 hx ⟨rs, k1, rfl, rlen, nd, hrs⟩
    refine ⟨getL_lst (k1.get el hr), ?_⟩
    have el1 := k1.get el hr
    rw [List.length_map] at rlen
    have s0 : StH h lives h.length rs (fun _ => []) h1 := ⟨k1, hx, rlen, nd, ⟨Nat.le_refl _, fun r hr => ⟨by have := (hrs r hr).1; omega, by have := (hrs r hr).1; omega⟩⟩, fun i r e => (hrs r (List.mem_of_getElem? e)).2.2⟩
    refine hK _ _ (ws_cut fun K hK => ?_)
    simp
    refine ⟨by omega, ?_⟩
    generalize h.length = F at hx s0 ⊢
    refine for_rng (fun j δ h2 => ∃ x4 x5 x6 x8 x9 sd Ws, δ = [some (.ref 2), some (.ref rl), some (.int (rows : Nat)), some (.ref F), x4, x5, x6, none, x8, x9, none] ∧ StH h lives F rs sd h2 ∧ Ws.length = j ∧ ∀ (i l : Nat), lives[i]? = some l → StOk Ws l (sd i))
      ⟨none, none, none, none, none, fun _ => [], [], rfl, s0, rfl, fun i l _ => ⟨rfl, fun r s e => by simp at e⟩⟩ ?_ ?_
    · rintro j δ h2 hj ⟨x4, x5, x6, x8, x9, sd, Ws, rfl, s2, lw, so⟩
      simp only [List.set_cons_succ, List.set_cons_zero]
      refine ws_cut fun K hK => ?_
      have b2 := s2.kb.bg
      rw [w_sSet]
      obtain ⟨n3, h3, e3, hn3, k3⟩ : ∃ (n3 : Nat) (h3 : Hm), F_l_take [.ref 2, .int 3] h2 = some (.int (n3 : Nat), h3) ∧ n3 < 3 ∧ Kb h2 h3 := by
        obtain ⟨d, h3, e, v, hv, rfl, k⟩ := take_wp b2 (u := 3) (by decide) (by decide)
        exact ⟨v, h3, e, hv, k⟩
      refine comp_b dNat (List.range (1 + n3)) (fun _ => true) (fun _ y => ∃ w : Bool, y = dWay w) b2 (by simp; exact size_ok (by omega)) ?_ ?_ ?_
      · simp [e3]
        refine ⟨⟨by omega, by omega⟩, ?_, k3⟩
        rw [show ((1 : Int) + (n3 : Int)).toNat = 1 + n3 by omega, rng_map]
      · intro k hk h4 k4
        have b4 := k4.bg
        have l4 := b4.len
        simp [wipeL]
        refine ⟨Kb.refl b4, size_ok (by decide), ?_⟩
        rw [← dWay_t, ← dWay_f]
        have e0 : (h4 ++ [.lst [dWay true, dWay false]])[h4.length]? = some (.lst [dWay true, dWay false]) := app_new
        have bb : Bg (h4 ++ [.lst [dWay true, dWay false]]) := b4.keep (S := No) Kp.app (fun z => z) (fun z => z)
        refine (some_wp bb e0 (by omega) (by decide) (by decide)).imp ?_
        rintro d h5 ⟨hd, k5⟩
        refine ⟨?_, ((Kb.refl b4).q Kp.app).trans k5⟩
        rcases List.mem_cons.mp hd with rfl | hd
        · exact .inr rfl
        · rcases List.mem_cons.mp hd with rfl | hd
          · exact .inl rfl
          · cases hd
      · intro h4 W5 ys k4 hW e4 w
        rw [filter_true] at w
        obtain ⟨W, rfl, wW⟩ := w.dec (S := fun _ _ => True) dWay (fun a d r => let ⟨w, e⟩ := r; ⟨w, e, trivial⟩)
        have lW : W.length = 1 + n3 := by have := wW.length; simp at this; omega
        have s4 := s2.keep b k4
        have b4 := s4.kb.bg
        have el4 := s4.kb.get el hr
        have hW2 : h.length ≤ W5 := Nat.le_trans s2.kb.kp.len hW
        refine hK _ _ ?_
        simp only [List.set_cons_succ, List.set_cons_zero]
        simp [-getElem?_pos, List.getElem?_cons_zero, List.getElem?_cons_succ, el4]
        refine ⟨by omega, ?_⟩
        refine for_rng (fun i δ h5 => ∃ x6 x8 x9 sd, δ = [some (.ref 2), some (.ref rl), some (.int (rows : Nat)), some (.ref F), some (.int (j : Nat)), some (.ref W5), x6, none, x8, x9, none] ∧ StH h lives F rs sd h5 ∧ h5[W5]? = some (.lst (W.map dWay)) ∧ (∀ r ∈ rs, r ≠ W5) ∧
            ∀ (k l : Nat), lives[k]? = some l → StOk (if k < i then Ws ++ [W] else Ws) l (sd k)) ⟨x6, x8, x9, sd, rfl, s4, e4, ?_, fun k l e => by simpa using so k l e⟩ ?_ ?_
        · intro r hr z
          obtain ⟨i, hi⟩ := List.mem_iff_getElem?.mp hr
          have := lt_of_some (s2.at_ i r hi)
          omega
        · rintro i δ h5 hi ⟨x6, x8, x9, sd, rfl, s5, e5, ne5, so5⟩
          have b5 := s5.kb.bg
          have el5 := s5.kb.get el hr
          simp only [List.set_cons_succ, List.set_cons_zero]
          refine ws_cut fun K hK => ?_
          simp [-getElem?_pos, List.getElem?_cons_zero, List.getElem?_cons_succ, e5, lW]
          refine (take_wp b5 (u := 1 + n3) (by omega) (by omega)).imp ?_
          rintro d h6 ⟨v, hv1, rfl, k6⟩
          have s6 := s5.keep b k6
          have b6 := s6.kb.bg
          have e6 := k6.get e5 (by omega)
          have el6 := k6.get el5 hr
          have hi' : i < rs.length := by rw [s6.len]; exact hi
          have ers := List.getElem?_eq_getElem hi'
          have er6 := s6.at_ i _ ers
          have hrF := s6.new.2 _ (List.getElem_mem hi')
          have hneW := ne5 _ (List.getElem_mem hi')
          generalize rs[i] = r at ers er6 hrF hneW
          have eli := List.getElem?_eq_getElem hi
          have hvi := hv _ (List.getElem_mem hi)
          generalize lives[i] = l at eli hvi
          refine hK _ _ (ws_cut fun K hK => ?_)
          simp [-getElem?_pos, List.getElem?_cons_zero, List.getElem?_cons_succ, s6.top, ers]
          refine hK _ _ ?_
          have hv' : v < W.length := by omega
          simp [-getElem?_pos, List.getElem?_cons_zero, List.getElem?_cons_succ, er6, e6, List.getElem?_eq_getElem hv', el6, eli, dNat]
          refine (take_wp b6 (u := l) (by omega) (by omega)).imp ?_
          rintro d h7 ⟨at_, ha, rfl, k7⟩
          have s7 := s6.keep b k7
          have e7 := k7.get e6 (by omega)
          have er7 := s7.at_ i _ ers
          simp [er7]
          have so := so5 i l eli
          rw [if_neg (Nat.lt_irrefl i)] at so
          have hlen : (sd i).length = j := by rw [so.1, lw]
          refine ⟨size_ok (by decide), size_lt (by omega), fun k => if k = i then sd i ++ [(v, W[v], at_)] else sd k, ⟨s7.kb.setn hrF.1 b, ?_, s7.len, s7.nd, s7.new, ?_⟩, ?_, ne5, ?_⟩
          · rw [List.getElem?_set_ne hrF.2]
            exact s7.top
          · intro k r' ek
            by_cases hk : k = i
            · subst hk
              rw [ers] at ek
              cases ek
              rw [List.getElem?_set_self (lt_of_some er7), if_pos rfl]
              simp [dSd]
            · have hne : r ≠ r' := fun z => hk (((List.getElem?_inj hi' s7.nd).mp (by rw [ers, z, ek])).symm)
              rw [List.getElem?_set_ne hne, if_neg hk]
              exact s7.at_ k r' ek
          · rw [List.getElem?_set_ne hneW]
            exact e7
          · intro k l' ek
            by_cases hk : k = i
            · subst hk
              rw [eli] at ek
              cases ek
              dsimp only
              rw [if_pos rfl, if_pos (Nat.lt_succ_self _)]
              refine ⟨by simp [hlen, lw], fun r0 s0 e0 => ?_⟩
              by_cases hr0 : r0 < (sd k).length
              · rw [List.getElem?_append_left hr0] at e0
                obtain ⟨z1, z2, W', z3, z4⟩ := so.2 r0 s0 e0
                exact ⟨z1, z2, W', by rw [List.getElem?_append_left (by rw [← so.1]; exact hr0)]; exact z3, z4⟩
              · have hr1 : r0 = (sd k).length := by
                  have := lt_of_some e0
                  simp at this
                  omega
                subst hr1
                rw [List.getElem?_concat_length] at e0
                cases e0
                exact ⟨by omega, ha, W, by rw [so.1, List.getElem?_concat_length], List.getElem?_eq_getElem hv'⟩
            · have := so5 k l' ek
              dsimp only
              rw [if_neg hk]
              by_cases hk2 : k < i
              · rw [if_pos hk2] at this
                rw [if_pos (by omega)]
                exact this
              · rw [if_neg hk2] at this
                rw [if_neg (by omega)]
                exact this
        · rintro δ h5 ⟨x6, x8, x9, sd, rfl, s5, e5, ne5, so5⟩
          simp
          refine ⟨sd, s5, Ws ++ [W], by simp [lw], fun k l e => ?_⟩
          have := so5 k l e
          rw [if_pos (lt_of_some e)] at this
          exact this
    · rintro δ h2 ⟨x4, x5, x6, x8, x9, sd, Ws, rfl, s2, lw, so⟩
      refine hK _ _ ?_
      simp
      exact ⟨rs, sd, s2, Ws, lw, so⟩
  · simp [DL.iSeq, mVar, getL_lst el]
end PA
set_option Elab.async false
set_option linter.all false
set_option maxRecDepth 100000
/-! PA.MachD: the drawn machine. -/
namespace PA
open PySem PySem.Spec PyProof.Rows L2 DL
theorem replicate_flat {α : Type} (n : Nat) (a : α) : (List.replicate n [a]).flatten = List.replicate n a := by
  induction n with
  | zero => rfl
  | succ n ih => simp [List.replicate_succ]
/-- a drawn machine: by form, at most so large -/
structure MDr (m : Mach) (K R E N : Nat) : Prop where
  ok : MOk m K R E
  pos : 0 < m.pts.length
  small : m.pts.length ≤ N
  lab : ∀ p ∈ m.pts, p.lab = none
  rank : ∀ p ∈ m.pts, ∀ s ∈ p.st, s.1 < 3
  asc : ∀ (i : Nat) (r : List Mv), m.mvs[i]? = some r → ∀ q, some q ∈ r → ∃ (olds : List Nat) (j : Nat), q.2 = olds.map some ++ List.replicate j none ∧ olds.Pairwise (· < ·) ∧ j ≤ 1
theorem MDr.tk {m : Mach} {K R E N : Nat} (d : MDr m K R E N) : ∀ r ∈ m.mvs, ∀ q, some q ∈ r → q.2.length ≤ 3 := by
  intro r hr q hq
  obtain ⟨i, hi⟩ := List.mem_iff_getElem?.mp hr
  have hp : i < m.pts.length := by rw [← d.ok.mvl]; exact lt_of_some hi
  obtain ⟨p', h1, h2, _⟩ := d.ok.mv i r _ hi (List.getElem?_eq_getElem hp) q hq
  rw [h2]
  exact (d.ok.live _ (List.mem_of_getElem? h1)).2
theorem machine_wp {h : Hm} (b : Bg h) {kinds points live rows deeds : Nat} (hk : 1 ≤ kinds ∧ kinds ≤ 100) (hp : 1 ≤ points ∧ points ≤ 1000) (hv : 1 ≤ live ∧ live ≤ 3) (hr : rows ≤ 100) (hd : 1 ≤ deeds ∧ deeds ≤ 1000) :
    Wp (F_l_machine [.ref 2, .int (kinds : Nat), .int (points : Nat), .int (live : Nat), .int (rows : Nat), .int (deeds : Nat)] h) fun d h' => Kb h h' ∧ ∃ m E, d = dMach m ∧ 1 ≤ E ∧ E ≤ deeds ∧ MDr m kinds rows E points := by
  have hb := b.len
  unfold F_l_machine
  rw [w_runF, m_l_machine]
  refine ws_cut fun K hK => ?_
  simp
  refine (take_wp b (by omega) (by omega)).imp ?_
  rintro d h1 ⟨v1, hv1, rfl, k1⟩
  simp
  refine (take_wp k1.bg (by omega) (by omega)).imp ?_
  rintro d h2 ⟨v2, hv2, rfl, k2⟩
  simp
  have k02 := k1.trans k2
  refine ⟨size_ok (by decide), hK _ _ ?_⟩
  clear hK
  have e1 : ((1 : Int) + (v1 : Int)) = ((1 + v1 : Nat) : Int) := by omega
  have e2 : ((1 : Int) + (v2 : Int)) = ((1 + v2 : Nat) : Int) := by omega
  rw [e1, e2]
  generalize hN : 1 + v1 = N
  generalize hE : 1 + v2 = E
  have hN1 : 1 ≤ N ∧ N ≤ points := by omega
  have hE1 : 1 ≤ E ∧ E ≤ deeds := by omega
  clear hN hE e1 e2 hv1 hv2
  refine ws_cut fun K hK => ?_
  simp
  have b2 := k2.bg
  have b3 : Bg (h2 ++ [.lst [.int 1]]) := b2.keep (S := No) Kp.app (fun z => z) (fun z => z)
  refine ⟨size_ok (by decide), ?_⟩
  refine comp_b dNat (List.range (N - 1)) (fun _ => true) (fun _ y => ∃ l : Nat, y = dNat l ∧ 1 ≤ l ∧ l ≤ live) b3 (size_ok (by rw [List.length_range]; omega)) ?_ ?_ ?_
  · simp
    refine ⟨⟨by omega, by omega⟩, ?_, Kb.refl b3⟩
    rw [rng_map]
  · intro k hk4 h4 k4
    simp [wipeL]
    refine ⟨Kb.refl k4.bg, (take_wp k4.bg (by omega) (by omega)).imp ?_⟩
    rintro d h5 ⟨v, hv1, rfl, k5⟩
    simp
    exact ⟨⟨1 + v, by simp [dNat], by omega, by omega⟩, k5⟩
  intro h4 rl ys k4 hrl e4 w
  rw [filter_true] at w
  obtain ⟨ls, rfl, wl⟩ := w.dec (S := fun _ l => 1 ≤ l ∧ l ≤ live) dNat (fun a d r => let ⟨l, e, q⟩ := r; ⟨l, e, q⟩)
  have e41 := k4.get (i := h2.length) (o := .lst [.int 1]) (by simp) (by have := b2.len; omega)
  have lls : ls.length = N - 1 := by have := wl.length; simp at this; omega
  rw [w_dAdd_ref, e41, e4]
  simp only [lsK_lst]
  have l04 : h.length ≤ h4.length := by have := k02.kp.len; have := k4.kp.len; simp at this; omega
  refine ⟨size_ok (by simp; omega), hK _ _ ?_⟩
  clear hK
  have el : (h4 ++ [.lst ([.int 1] ++ ls.map dNat)])[h4.length]? = some (.lst ((1 :: ls).map dNat)) := by simp [dNat]
  have k5 : Kb h (h4 ++ [.lst ([.int 1] ++ ls.map dNat)]) := ((k02.q Kp.app).trans k4).q Kp.app
  have hlv : ∀ l ∈ 1 :: ls, 1 ≤ l ∧ l ≤ live := by
    intro l hl
    rcases List.mem_cons.mp hl with rfl | hl
    · omega
    · obtain ⟨i, hi⟩ := List.mem_iff_getElem?.mp hl
      have hi2 : i < (List.range (N - 1)).length := by rw [wl.length]; exact lt_of_some hi
      obtain ⟨l', q1, q2⟩ := wl.get (List.getElem?_eq_getElem hi2)
      rw [hi] at q1
      cases q1
      exact q2
  have hln : (1 :: ls).length = N := by simp; omega
  have hl1 : (1 :: ls)[0]? = some 1 := rfl
  generalize 1 :: ls = lives at el hlv hln hl1
  generalize h4 ++ [.lst ([.int 1] ++ ls.map dNat)] = h5 at el k5 ⊢
  have hL2 : h.length ≤ h4.length := l04
  generalize h4.length = L at el hL2 ⊢
  have hLne : L ≠ 2 := by omega
  clear e41 e4 lls wl k4 b3 b2 k02 k2 k1
  refine ws_cut fun K hK => ?_
  simp
  refine ⟨size_ok (by decide), ?_⟩
  refine comp_b dNat (List.range (kinds - 1)) (fun _ => true) (fun _ y => ∃ p : Nat, y = dNat p ∧ lives[p]? = some 1) k5.bg (size_ok (by rw [List.length_range]; omega)) ?_ ?_ ?_
  · simp
    refine ⟨⟨by omega, by omega⟩, ?_, Kb.refl k5.bg⟩
    rw [rng_map]
  · intro k hk6 h6 k6
    have el6 := k6.get el hLne
    simp [wipeL]
    refine ⟨Kb.refl k6.bg, ?_⟩
    refine comp_q dNat (List.range N) (fun k => decide (lives.getD k 0 = 1)) (fun k y => y = dNat k) (size_ok (by rw [List.length_range]; omega)) ?_ ?_ ?_
    · simp [rng_map, Kp.refl]
      omega
    · intro k hk h7 k7
      have hk' : k < lives.length := by rw [hln]; exact List.mem_range.mp hk
      have el7 := Kq.get k7 el6
      simp [wipeL, el7, dNat, List.getElem?_eq_getElem hk', List.getD]
      exact ⟨by omega, Kp.refl, fun _ => Kp.refl⟩
    · intro h7 r ys k7 hr7 er w7
      have ey := w7.fn
      subst ey
      have hmem : 0 ∈ (List.range N).filter (fun k => decide (lives.getD k 0 = 1)) := by
        rw [List.mem_filter]
        exact ⟨List.mem_range.mpr (by omega), by simp [List.getD, hl1]⟩
      have hflen : ((List.range N).filter (fun k => decide (lives.getD k 0 = 1))).length ≤ N := Nat.le_trans (List.length_filter_le ..) (by simp)
      refine (some_wp (k6.bg.keep k7 (fun z => z) (fun z => z)) er (by have := k6.bg.len; omega) (by rw [List.length_map]; exact List.length_pos_of_mem hmem) (by rw [List.length_map]; omega)).imp ?_
      rintro d h8 ⟨hd8, k8⟩
      obtain ⟨q, hq, rfl⟩ := List.mem_map.mp hd8
      rw [List.mem_filter] at hq
      have hqN : q < lives.length := by rw [hln]; exact List.mem_range.mp hq.1
      refine ⟨⟨q, rfl, ?_⟩, (Kq.kb k7 k6.bg).trans k8⟩
      have := of_decide_eq_true hq.2
      rw [List.getElem?_eq_getElem hqN]
      simpa [List.getD, List.getElem?_eq_getElem hqN] using this
  intro h6 rb ys k6 hrb eb w
  rw [filter_true] at w
  obtain ⟨bs, rfl, wb⟩ := w.dec (S := fun _ p => lives[p]? = some 1) dNat (fun a d r => let ⟨l, e, q⟩ := r; ⟨l, e, q⟩)
  have lbs : bs.length = kinds - 1 := by have := wb.length; simp at this; omega
  simp [eb]
  refine ⟨size_ok (by omega), hK _ _ ?_⟩
  clear hK
  have hbeg : ∀ b ∈ 0 :: bs, lives[b]? = some 1 := by
    intro l hl
    rcases List.mem_cons.mp hl with rfl | hl
    · exact hl1
    · obtain ⟨i, hi⟩ := List.mem_iff_getElem?.mp hl
      have hi2 : i < (List.range (kinds - 1)).length := by rw [wb.length]; exact lt_of_some hi
      obtain ⟨l', q1, q2⟩ := wb.get (List.getElem?_eq_getElem hi2)
      rw [hi] at q1
      cases q1
      exact q2
  have hbl : (0 :: bs).length = kinds := by simp; omega
  have hbe : (D.int 0 :: bs.map dNat) = (0 :: bs).map dNat := by simp [dNat]
  rw [hbe]
  generalize 0 :: bs = begins at hbeg hbl ⊢
  have k06 := k5.trans k6
  have el6 := k6.get el hLne
  clear eb w wb lbs hbe k6 k5 el hrb
  refine ws_cut fun K hK => ?_
  simp
  refine (stances_wp k06.bg el6 hLne (by omega) (fun l hl => by have := hlv l hl; omega) (by omega)).imp ?_
  rintro d h7 ⟨F, rs, sd, Ws', rfl, s7, lW, so⟩
  refine hK _ _ ?_
  clear hK
  have k07 := k06.trans s7.kb
  have el7 := s7.kb.get el6 hLne
  refine ws_cut fun K hK => ?_
  simp
  let pt : Nat → Pt := fun p => ⟨sd p, lives.getD p 0, none⟩
  refine comp_f dNat (fun p => dPt (pt p)) (List.range N) (size_ok (by rw [List.length_range]; omega)) ?_ ?_ ?_
  · simp [rng_map, Kp.refl]
    omega
  · intro p hp8 h8 k8
    have hpN : p < N := List.mem_range.mp hp8
    have hpl : p < lives.length := by omega
    have hpr : p < rs.length := by rw [s7.len]; exact hpl
    have ers := List.getElem?_eq_getElem hpr
    have e1 := Kq.get k8 s7.top
    have e2 := Kq.get k8 (s7.at_ p _ ers)
    have e3 := Kq.get k8 el7
    simp [wipeL, dNat, e1, ers, e2, e3, List.getElem?_eq_getElem hpl, Kp.refl]
    exact ⟨size_ok (by decide), by simp [dPt, pt, dLab, List.getElem?_eq_getElem hpl]⟩
  intro h8 r8 k8 hr8 e8
  simp [e8]
  refine hK _ _ ?_
  clear hK
  have el8 := Kq.get k8 el7
  have k08 := k07.q k8
  have ept : ((List.range N).map fun p => dPt (pt p)) = ((List.range N).map pt).map dPt := by rw [List.map_map]; rfl
  rw [ept]
  clear e8
  refine ws_cut fun K hK => ?_
  simp
  refine comp_b dNat (List.range N) (fun _ => true) (fun p y => ∃ row : List Mv, y = dMvs row ∧ row.length = E ∧ ∀ o ∈ row, MvOk lives p o) k08.bg (size_ok (by rw [List.length_range]; omega)) ?_ ?_ ?_
  · simp [rng_map, Kb.refl k08.bg]
    omega
  · intro p hp9 h9 k9
    have hpN : p < N := List.mem_range.mp hp9
    simp [wipeL]
    refine ⟨Kb.refl k9.bg, ?_⟩
    refine comp_b dNat (List.range E) (fun _ => true) (fun _ y => ∃ o : Mv, y = dMv o ∧ MvOk lives p o) k9.bg (size_ok (by rw [List.length_range]; omega)) ?_ ?_ ?_
    · simp [rng_map, Kb.refl k9.bg]
      omega
    · intro k hk10 h10 k10
      simp [wipeL, dNat]
      refine ⟨Kb.refl k10.bg, (move_wp k10.bg (k10.get (k9.get el8 hLne) hLne) hLne (by omega) (by omega) (fun l hl => by have := hlv l hl; omega)).imp ?_⟩
      rintro d h11 ⟨k11, o, rfl, ok⟩
      exact ⟨⟨o, rfl, ok⟩, k11⟩
    · intro h10 r10 ys k10 hr10 e10 w10
      rw [filter_true] at w10
      obtain ⟨row, rfl, wx⟩ := w10.dec (S := fun _ o => MvOk lives p o) dMv (fun a d r => let ⟨l, e, q⟩ := r; ⟨l, e, q⟩)
      simp [e10]
      refine ⟨⟨row, rfl, by have := wx.length; simp at this; omega, fun o ho => ?_⟩, k10⟩
      obtain ⟨i, hi⟩ := List.mem_iff_getElem?.mp ho
      have hi2 : i < (List.range E).length := by rw [wx.length]; exact lt_of_some hi
      obtain ⟨l', q1, q2⟩ := wx.get (List.getElem?_eq_getElem hi2)
      rw [hi] at q1
      cases q1
      exact q2
  intro h9 r9 ys k9 hr9 e9 w9
  rw [filter_true] at w9
  obtain ⟨rows', rfl, wy⟩ := w9.dec (S := fun p row => row.length = E ∧ ∀ o ∈ row, MvOk lives p o) dMvs (fun a d r => let ⟨l, e, q⟩ := r; ⟨l, e, q⟩)
  simp [e9]
  refine hK _ _ ?_
  simp
  have lr : rows'.length = N := by have := wy.length; simp at this; omega
  refine ⟨size_ok (by decide), k08.trans k9, ⟨begins, (List.range N).map pt, rows'⟩, by rw [← List.map_map]; rfl, E, hE1.1, hE1.2, ?_⟩
  have gp : ∀ (i : Nat) (p : Pt), ((List.range N).map pt)[i]? = some p → i < N ∧ p = pt i := by
    intro i p e
    have hi : i < N := by simpa using lt_of_some e
    rw [List.getElem?_map, List.getElem?_range hi] at e
    exact ⟨hi, by simpa using e.symm⟩
  have gm : ∀ p ∈ (List.range N).map pt, ∃ i, i < N ∧ p = pt i := by
    intro p hp
    obtain ⟨i, hi⟩ := List.mem_iff_getElem?.mp hp
    exact ⟨i, gp i p hi⟩
  have gi : ∀ i, i < N → ((List.range N).map pt)[i]? = some (pt i) := fun i hi => by rw [List.getElem?_map, List.getElem?_range hi]; rfl
  have gl : ∀ i, i < N → ∃ l, lives[i]? = some l ∧ (pt i).live = l ∧ 1 ≤ l ∧ l ≤ live := by
    intro i hi
    have e := List.getElem?_eq_getElem (l := lives) (i := i) (by omega)
    exact ⟨_, e, by simp [pt, List.getD, e], hlv _ (List.getElem_mem _)⟩
  have gw : ∀ i r, rows'[i]? = some r → i < N ∧ r.length = E ∧ ∀ o ∈ r, MvOk lives i o := by
    intro i r e
    have hi : i < N := by rw [← lr]; exact lt_of_some e
    obtain ⟨r', q1, q2⟩ := wy.get (i := i) (a := i) (List.getElem?_range hi)
    rw [e] at q1
    cases q1
    exact ⟨hi, q2⟩
  refine ⟨⟨hbl, by simp [lr], ?_, ?_, ?_, ?_, ?_, ?_, ?_⟩, by simp; omega, by simp; omega, ?_, ?_, ?_⟩
  · intro b hb
    have e := hbeg b hb
    have hi : b < N := by rw [← hln]; exact lt_of_some e
    refine ⟨_, gi b hi, ?_⟩
    simp [pt, List.getD, e]
  · intro p hp
    obtain ⟨i, hi, rfl⟩ := gm p hp
    obtain ⟨l, e, _⟩ := gl i hi
    rw [← lW]
    exact (so i l e).1
  · intro p hp s hs
    obtain ⟨i, hi, rfl⟩ := gm p hp
    obtain ⟨l, e, el, _⟩ := gl i hi
    obtain ⟨r, hr⟩ := List.mem_iff_getElem?.mp hs
    have := ((so i l e).2 r s hr).2.1
    omega
  · intro p hp
    obtain ⟨i, hi, rfl⟩ := gm p hp
    obtain ⟨l, e, el, _⟩ := gl i hi
    omega
  · intro p hp q hq r s t es et est
    obtain ⟨i, hi, rfl⟩ := gm p hp
    obtain ⟨j, hj, rfl⟩ := gm q hq
    obtain ⟨l, e, _⟩ := gl i hi
    obtain ⟨l', e', _⟩ := gl j hj
    obtain ⟨_, _, W, w1, w2⟩ := (so i l e).2 r s es
    obtain ⟨_, _, W', w3, w4⟩ := (so j l' e').2 r t et
    rw [w1] at w3
    cases w3
    rw [est] at w2
    rw [w2] at w4
    exact Option.some.inj w4
  · intro r hr
    obtain ⟨i, hi⟩ := List.mem_iff_getElem?.mp hr
    exact (gw i r hi).2.1
  · intro i r p er ep q hq
    obtain ⟨hi, _, ok⟩ := gw i r er
    obtain ⟨_, rfl⟩ := gp i p ep
    obtain ⟨l, olds, j, h1, h2, h3, h4, h5, h6⟩ := ok _ hq
    have hq1 : q.1 < N := by rw [← hln]; exact lt_of_some h1
    refine ⟨_, gi q.1 hq1, ?_, fun k hk => ?_⟩
    · rw [h2]
      simp [pt, List.getD, h1]
      exact h6
    · rw [h2, List.mem_append] at hk
      rcases hk with z | z
      · obtain ⟨k', hk', e⟩ := List.mem_map.mp z
        cases e
        exact h4 _ hk'
      · rw [List.mem_replicate] at z
        cases z.2
  · intro p hp
    obtain ⟨i, hi, rfl⟩ := gm p hp
    rfl
  · intro p hp s hs
    obtain ⟨i, hi, rfl⟩ := gm p hp
    obtain ⟨l, e, _⟩ := gl i hi
    obtain ⟨r, hr⟩ := List.mem_iff_getElem?.mp hs
    exact ((so i l e).2 r s hr).1
  · intro i r er q hq
    obtain ⟨hi, _, ok⟩ := gw i r er
    obtain ⟨l, olds, j, h1, h2, h3, h4, h5, h6⟩ := ok _ hq
    exact ⟨olds, j, h2, h3, h5⟩
end PA
set_option Elab.async false
set_option linter.all false
set_option maxRecDepth 100000
/-! PA.LedP: led as a plain function: pieces, order of the dict, bounds. -/
namespace PA
open PySem PySem.Spec PyProof.Rows L2 DL
section
variable {α : Type} {kvs kvs' : Dt α} {x : Th} {f : α}
theorem look_perm (p : kvs.Perm kvs') (nd : (kvs.map (·.1)).Nodup) : look kvs x = look kvs' x := by
  have nd' : (kvs'.map (·.1)).Nodup := (p.map _).nodup_iff.mp nd
  cases h : look kvs x with
  | none =>
    symm
    rw [look_none] at h ⊢
    exact fun q hq => h q (p.mem_iff.mpr hq)
  | some f => exact (look_of_mem nd' (p.mem_iff.mp (look_mem h))).symm
theorem put_perm (p : kvs.Perm kvs') (nd : (kvs.map (·.1)).Nodup) : (put kvs x f).Perm (put kvs' x f) := by
  unfold put
  rw [← look_perm p nd]
  split
  · exact p.map _
  · exact p.append_right _
theorem drp_perm (p : kvs.Perm kvs') : (drp kvs x).Perm (drp kvs' x) := p.filter _
end
/-- both barred at the same place, or both led, to the same figures in some order -/
def SumP : Sum Nat (Dt Fg) → Sum Nat (Dt Fg) → Prop
  | .inl i, .inl j => i = j
  | .inr a, .inr b => a.Perm b
  | _, _ => False
theorem SumP.refl : ∀ s : Sum Nat (Dt Fg), SumP s s
  | .inl _ => rfl
  | .inr _ => List.Perm.refl _
section
variable {m : Mach} {K R E : Nat} {kvs kvs' : Dt Fg}
theorem step_perm (p : kvs.Perm kvs') (nd : (kvs.map (·.1)).Nodup) (d : Int) (x : Th) (now : Nat) : (step m kvs d x now = none ∧ step m kvs' d x now = none) ∨ ∃ a b, step m kvs d x now = some a ∧ step m kvs' d x now = some b ∧ a.Perm b := by
  unfold step
  rw [← look_perm p nd]
  by_cases hd : d = 0
  · simp only [hd, if_true]
    split
    · exact .inl ⟨rfl, rfl⟩
    · exact .inr ⟨_, _, rfl, rfl, put_perm p nd⟩
  · simp only [hd, if_false]
    cases look kvs x with
    | none => exact .inl ⟨rfl, rfl⟩
    | some f =>
      dsimp only
      split
      · exact .inr ⟨_, _, rfl, rfl, drp_perm p⟩
      · split
        · exact .inr ⟨_, _, rfl, rfl, put_perm p nd⟩
        · exact .inl ⟨rfl, rfl⟩
theorem led_perm (M : MOk m K R E) : ∀ (run : List Rt) (kvs kvs' : Dt Fg) (now k : Nat), kvs.Perm kvs' → KvOk m kvs → (∀ r ∈ run, RtOk m E r) → SumP (led m kvs run now k) (led m kvs' run now k)
  | [], _, _, _, _, p, _, _ => p
  | r :: run, kvs, kvs', now, k, p, kv, ro => by
    simp only [led]
    rcases step_perm (m := m) p kv.2 r.1 r.2 (now + k) with ⟨h1, h2⟩ | ⟨a, b, h1, h2, pp⟩
    · rw [h1, h2]
      exact rfl
    · rw [h1, h2]
      exact led_perm M run a b now (k + 1) pp (step_ok M kv (ro r (List.mem_cons_self ..)) h1) (fun q hq => ro q (List.mem_cons_of_mem _ hq))
theorem led_ok (M : MOk m K R E) : ∀ (run : List Rt) (kvs kvs' : Dt Fg) (now k : Nat), KvOk m kvs → (∀ r ∈ run, RtOk m E r) → led m kvs run now k = .inr kvs' → KvOk m kvs'
  | [], kvs, kvs', _, _, kv, _, e => by cases e; exact kv
  | r :: run, kvs, kvs', now, k, kv, ro, e => by
    simp only [led] at e
    split at e
    · cases e
    · rename_i a h1
      exact led_ok M run a kvs' now (k + 1) (step_ok M kv (ro r (List.mem_cons_self ..)) h1) (fun q hq => ro q (List.mem_cons_of_mem _ hq)) e
theorem led_append : ∀ (r1 r2 : List Rt) (kvs : Dt Fg) (now k : Nat), led m kvs (r1 ++ r2) now k = match led m kvs r1 now k with
    | .inl i => .inl i
    | .inr kvs' => led m kvs' r2 now (k + r1.length)
  | [], _, _, _, _ => rfl
  | r :: r1, r2, kvs, now, k => by
    simp only [List.cons_append, led]
    cases step m kvs r.1 r.2 (now + k) with
    | none => rfl
    | some a =>
      dsimp only
      rw [led_append r1 r2 a now (k + 1), List.length_cons, Nat.add_right_comm k 1 r1.length, Nat.add_assoc k]
/-- the index of the first barred one counts from k on -/
theorem led_shift : ∀ (run : List Rt) (kvs : Dt Fg) (now j k : Nat), led m kvs run now (j + k) = match led m kvs run (now + j) k with
    | .inl i => .inl (j + i)
    | .inr kvs' => .inr kvs'
  | [], _, _, _, _ => rfl
  | r :: run, kvs, now, j, k => by
    simp only [led]
    rw [show now + (j + k) = now + j + k by omega]
    cases step m kvs r.1 r.2 (now + j + k) with
    | none => rfl
    | some a =>
      dsimp only
      rw [show j + k + 1 = j + (k + 1) by omega, led_shift run a now j (k + 1)]
theorem led_shift0 (run : List Rt) (kvs : Dt Fg) (now j : Nat) : led m kvs run now j = match led m kvs run (now + j) 0 with
    | .inl i => .inl (j + i)
    | .inr kvs' => .inr kvs' := led_shift run kvs now j 0
theorem step_len {d : Int} {x : Th} {now : Nat} (e : step m kvs d x now = some kvs') : kvs'.length ≤ kvs.length + 1 := by
  unfold step at e
  split at e
  · split at e
    · cases e
    · cases e; exact put_len
  · split at e
    · cases e
    · split at e
      · cases e; exact Nat.le_succ_of_le drp_len
      · split at e
        · cases e; exact put_len
        · cases e
theorem led_len : ∀ (run : List Rt) (kvs kvs' : Dt Fg) (now k : Nat), led m kvs run now k = .inr kvs' → kvs'.length ≤ kvs.length + run.length
  | [], kvs, kvs', _, _, e => by cases e; simp
  | r :: run, kvs, kvs', now, k, e => by
    simp only [led] at e
    split at e
    · cases e
    · rename_i a h1
      have := led_len run a kvs' now (k + 1) e
      have := step_len h1
      rw [List.length_cons]
      omega
theorem led_idx : ∀ (run : List Rt) (kvs : Dt Fg) (now k i : Nat), led m kvs run now k = .inl i → k ≤ i ∧ i < k + run.length
  | [], _, _, _, _, e => by cases e
  | r :: run, kvs, now, k, i, e => by
    simp only [led] at e
    split at e
    · cases e; simp
    · rename_i a h1
      have := led_idx run a now (k + 1) i e
      rw [List.length_cons]
      omega
/-- the moments of figures, all of them less than now -/
def TmOk (kvs : Dt Fg) (now : Nat) : Prop := ∀ p ∈ kvs, ∀ t ∈ p.2.2, t < now
theorem took_mem {now t : Nat} {ts : List Nat} {tk : List (Option Nat)} (h : t ∈ took now ts tk) : t = now ∨ t ∈ ts ∨ t = 0 := by
  unfold took at h
  obtain ⟨o, _, rfl⟩ := List.mem_map.mp h
  cases o with
  | none => exact .inl rfl
  | some k =>
    dsimp only
    by_cases hk : k < ts.length
    · refine .inr (.inl ?_)
      simp [List.getD, List.getElem?_eq_getElem hk]
    · refine .inr (.inr ?_)
      simp [List.getD, List.getElem?_eq_none (Nat.le_of_not_lt hk)]
theorem step_tm {d : Int} {x : Th} {now : Nat} (T : TmOk kvs now) (e : step m kvs d x now = some kvs') : TmOk kvs' (now + 1) := by
  have up : TmOk kvs (now + 1) := fun p hp t ht => Nat.lt_succ_of_lt (T p hp t ht)
  unfold step at e
  split at e
  · split at e
    · cases e
    · cases e
      intro p hp t ht
      rcases put_mem hp with z | z
      · subst z
        simp at ht
        omega
      · exact up p z.1 t ht
  · split at e
    · cases e
    · rename_i f hf
      split at e
      · cases e
        exact fun p hp t ht => up p (drp_mem hp).1 t ht
      · split at e
        · cases e
          intro p hp t ht
          rcases put_mem hp with z | z
          · subst z
            rcases took_mem ht with z | z | z
            · omega
            · exact up _ (look_mem hf) t z
            · omega
          · exact up p z.1 t ht
        · cases e
theorem led_tm : ∀ (run : List Rt) (kvs kvs' : Dt Fg) (now k : Nat), TmOk kvs (now + k) → led m kvs run now k = .inr kvs' → TmOk kvs' (now + k + run.length)
  | [], kvs, kvs', _, _, T, e => by cases e; exact T
  | r :: run, kvs, kvs', now, k, T, e => by
    simp only [led] at e
    split at e
    · cases e
    · rename_i a h1
      have := led_tm run a kvs' now (k + 1) (by have := step_tm T h1; exact this) e
      rw [List.length_cons, show now + k + (run.length + 1) = now + (k + 1) + run.length by omega]
      exact this
theorem srt_perm {a b : Dt Fg} (p : a.Perm b) (nd : (a.map (·.1)).Nodup) : srt a = srt b := by
  refine sort_perm _ p fun x hx y hy e => ?_
  have e1 := thInj e
  obtain ⟨x1, x2⟩ := x
  obtain ⟨y1, y2⟩ := y
  dsimp only at e1
  subst e1
  have h1 := look_of_mem nd hx
  have h2 := look_of_mem nd hy
  rw [h1] at h2
  cases h2
  rfl
theorem srt_self (a : Dt Fg) : (srt a).Perm a := List.mergeSort_perm _ _
end
end PA
set_option Elab.async false
set_option linter.all false
set_option maxRecDepth 100000
/-! PA.Runs: drawn things, drawn runs. -/
namespace PA
open PySem PySem.Spec PyProof.Rows L2 DL
def pTh (x : Th) : PyData := .tuple [.int (x.1 : Nat), .int (x.2 : Nat)]
theorem pyp_th (x : Th) : pyp (dTh x) = pTh x := by simp [dTh, pyp, pyps, pTh]
theorem pok_th (x : Th) : pok 1 (dTh x) = true := rfl
def ThS (x : Th) : Prop := x.1 ≤ 999999999 ∧ x.2 ≤ 999999999
theorem sm_th {x : Th} (s : ThS x) : Sm 1 82 (pTh x) := by
  obtain ⟨s1, s2⟩ := s
  refine Sm.tuple (n := 0) (w := 40) (ps := [.int (x.1 : Nat), .int (x.2 : Nat)]) fun p hp => ?_
  rcases List.mem_cons.mp hp with rfl | hp
  · exact Sm.int (by omega) (by omega)
  · rw [List.mem_singleton] at hp
    subst hp
    exact Sm.int (by omega) (by omega)
theorem eqv_th (x y : Th) : PyData.eqv (pTh x) (pTh y) = decide (x = y) := by
  simp only [pTh, PyData.eqv, PyData.eqvAll, Bool.and_true]
  by_cases h : x = y
  · subst h; simp
  · rw [decide_eq_false h]
    by_cases h1 : x.1 = y.1
    · have : x.2 ≠ y.2 := fun z => h (Prod.ext h1 z)
      simp [h1]
      omega
    · simp
      intro z
      omega
theorem py_ths {h : Hm} {r : Nat} {xs : List Th} (e : h[r]? = some (.lst (xs.map dTh))) : py h deepest (.ref r) = some (.list (xs.map pTh)) := by
  rw [py_lst e (n := 1) (fun d hd => by obtain ⟨x, _, rfl⟩ := List.mem_map.mp hd; rfl) (by decide), pyps_map]
  simp only [pyp_th]
theorem sm_ths {xs : List Th} (s : ∀ x ∈ xs, ThS x) : Sm 2 (xs.length * 83) (.list (xs.map pTh)) := by
  have := Sm.list (n := 1) (w := 82) (ps := xs.map pTh) (fun p hp => by obtain ⟨x, hx, rfl⟩ := List.mem_map.mp hp; exact sm_th (s x hx))
  rwa [List.length_map] at this
theorem any_ths (xs : List Th) (x : Th) : ((xs.map pTh).any fun z => PyData.eqv z (pTh x)) = decide (x ∈ xs) := by
  rw [List.any_map]
  induction xs with
  | nil => rfl
  | cons y r ih =>
    rw [List.any_cons, ih, Function.comp_apply, eqv_th]
    by_cases h : y = x
    · subst h; simp
    · have : ¬ x = y := fun z => h z.symm
      simp [h, this]
/-- a thing in a list of things -/
theorem w_in_ths {h : Hm} {Q : D → Hm → Prop} {neg : Bool} {r : Nat} {xs : List Th} {x : Th} (e : h[r]? = some (.lst (xs.map dTh))) (s : ∀ y ∈ xs, ThS y) (sx : ThS x) : Wp (dInG neg (dTh x) (.ref r) h) Q ↔ Q (.bl (neg != decide (x ∈ xs))) h := by
  rw [w_in_lst e (by rw [py_pok h (dTh x) 1 deepest (pok_th x) (by decide), pyp_th]) (py_ths e) ((sm_th sx).shaped (by decide)) ((sm_ths s).shaped (by decide)), any_ths]
theorem some_things_wp {h : Hm} (b : Bg h) {kinds many : Nat} (hk : 1 ≤ kinds ∧ kinds ≤ 1000) (hm : many ≤ 1000) :
    Wp (F_l_some_things [.ref 2, .int (kinds : Nat), .int (many : Nat)] h) fun d h' => Kb h h' ∧ ∃ (r : Nat) (xs : List Th), d = .ref r ∧ h.length ≤ r ∧ h'[r]? = some (.lst (xs.map dTh)) ∧ xs.Nodup ∧ (xs.Pairwise fun a b => leBy kTh a b = true) ∧ (∀ x ∈ xs, x.1 < kinds ∧ x.2 ≤ 9999) ∧ xs.length ≤ many ∧ (0 < many → 0 < xs.length) := by
  have hb := b.len
  unfold F_l_some_things
  rw [w_runF, m_l_some_things]
  refine ws_cut fun K hK => ?_
  simp
  refine hK _ _ ?_
  clear hK
  have k1 : Kb h (h ++ [.lst []]) := (Kb.refl b).app
  have e1 : (h ++ [.lst []])[h.length]? = some (.lst (([] : List Th).map dTh)) := by simp
  generalize h ++ [.lst []] = h1 at k1 e1 ⊢
  refine ws_cut fun K hK => ?_
  simp
  refine ⟨by omega, ?_⟩
  refine for_rng (fun i δ h2 => ∃ (x4 x5 : Option D) (xs : List Th), δ = [some (.ref 2), some (.int (kinds : Nat)), some (.int (many : Nat)), some (.ref h.length), x4, x5] ∧ Kb h h2 ∧ h2[h.length]? = some (.lst (xs.map dTh)) ∧ xs.Nodup ∧ (∀ x ∈ xs, x.1 < kinds ∧ x.2 ≤ 9999) ∧ xs.length ≤ i ∧ (0 < i → 0 < xs.length))
    ⟨none, none, [], rfl, k1, e1, by simp, by simp, by simp, by simp⟩ ?_ ?_
  · rintro i δ h2 hi ⟨x4, x5, xs, rfl, k2, e2, nd, hx, hl, hl2⟩
    simp only [List.set_cons_succ, List.set_cons_zero]
    refine ws_cut fun K hK => ?_
    simp
    refine (take_wp k2.bg (by omega) (by omega)).imp ?_
    rintro d h3 ⟨v, hv, rfl, k3⟩
    have a1 : (10 * (i : Int) + 3) = ((10 * i + 3 : Nat) : Int) := by omega
    have a2 : (9999 - (i : Int)) = ((9999 - i : Nat) : Int) := by omega
    refine ⟨by unfold CMul; omega, size_ok (by decide), ?_⟩
    have b3 := k3.bg
    have k4 := (Kb.refl b3).app (l := [.lst [.int (i : Nat), .int (10 * (i : Int) + 3), .int (9999 - (i : Int))]])
    refine (some_wp k4.bg (k := h3.length) (xs := [.int (i : Nat), .int (10 * (i : Int) + 3), .int (9999 - (i : Int))]) (by simp) (by have := b3.len; omega) (by simp) (by simp)).imp ?_
    rintro d h5 ⟨hd, k5⟩
    obtain ⟨n, rfl, hn⟩ : ∃ n : Nat, d = dNat n ∧ n ≤ 9999 := by
      simp only [List.mem_cons, List.not_mem_nil, or_false] at hd
      rcases hd with rfl | rfl | rfl
      · exact ⟨i, rfl, by omega⟩
      · exact ⟨10 * i + 3, by rw [a1]; rfl, by omega⟩
      · exact ⟨9999 - i, by rw [a2]; rfl, by omega⟩
    refine ⟨size_ok (by decide), hK _ _ ?_⟩
    clear hK
    have k25 := (k3.trans k4).trans k5
    have e5 := k25.get e2 (by omega)
    have ed : D.tup [D.int (v : Nat), dNat n] = dTh (v, n) := rfl
    rw [ed]
    have hxs : ∀ y ∈ xs, ThS y := fun y hy => ⟨by have := (hx y hy).1; omega, by have := (hx y hy).2; omega⟩
    simp [w_in_ths e5 hxs (x := (v, n)) ⟨by dsimp only; omega, by dsimp only; omega⟩]
    by_cases hin : (v, n) ∈ xs
    · simp [hin]
      exact ⟨k2.trans k25, xs, e5, nd, fun a b hab => hx (a, b) hab, by omega, by have := List.length_pos_of_mem hin; omega⟩
    · simp [hin, e5]
      refine ⟨size_lt (by omega), (k2.trans k25).setn (Nat.le_refl _) b, xs ++ [(v, n)], ?_, ?_, ?_, ?_, ?_⟩
      · rw [List.getElem?_set_self (lt_of_some e5)]
        simp
      · rw [List.nodup_append]
        refine ⟨nd, by simp, fun a ha c hc z => ?_⟩
        rw [List.mem_singleton] at hc
        subst hc; subst z
        exact hin ha
      · intro a c hac
        rcases List.mem_append.mp hac with z | z
        · exact hx _ z
        · rw [List.mem_singleton] at z
          cases z
          exact ⟨hv, hn⟩
      · simp; omega
      · simp
  · rintro δ h2 ⟨x4, x5, xs, rfl, k2, e2, nd, hx, hl, hl2⟩
    refine hK _ _ ?_
    simp
    rw [thSK.sorted e2]
    have pm := List.mergeSort_perm xs (leBy kTh)
    exact ⟨k2.app, _, rfl, k2.kp.len, xs.mergeSort (leBy kTh), by simp, pm.nodup_iff.mpr nd, leBy_sorted kTh xs, fun a c hac => hx (a, c) (pm.mem_iff.mp hac), by rw [pm.length_eq]; exact hl, fun q => by rw [pm.length_eq]; exact hl2 q⟩
end PA
set_option Elab.async false
set_option linter.all false
set_option maxRecDepth 100000
/-! PA.RunOf: the drawn run. -/
namespace PA
open PySem PySem.Spec PyProof.Rows L2 DL
theorem py_ints {h : Hm} {r : Nat} {xs : List Int} (e : h[r]? = some (.lst (xs.map D.int))) : py h deepest (.ref r) = some (.list (xs.map PyData.int)) := by
  rw [py_lst e (n := 0) (fun d hd => by obtain ⟨x, _, rfl⟩ := List.mem_map.mp hd; rfl) (by decide), pyps_map]
  simp only [pyp]
theorem sm_ints {xs : List Int} (s : ∀ x ∈ xs, -999999999999 ≤ x ∧ x ≤ 999999999999) : Sm 1 (xs.length * 41) (.list (xs.map PyData.int)) := by
  have := Sm.list (n := 0) (w := 40) (ps := xs.map PyData.int) (fun p hp => by obtain ⟨x, hx, rfl⟩ := List.mem_map.mp hp; exact Sm.int (s x hx).1 (s x hx).2)
  rwa [List.length_map] at this
/-- deeds == [] -/
theorem w_eq_nil {h : Hm} {Q : D → Hm → Prop} {r q : Nat} {xs : List Int} (e : h[r]? = some (.lst (xs.map D.int))) (e2 : h[q]? = some (.lst [])) (s : ∀ x ∈ xs, -999999999999 ≤ x ∧ x ≤ 999999999999) : Wp (dEq (.ref r) (.ref q) h) Q ↔ Q (.bl (decide (xs = []))) h := by
  rw [w_dEq_g rfl (py_ints e) (py_ints (xs := []) e2) ((sm_ints s).shaped (by decide)) ((sm_ints (xs := []) (by simp)).shaped (by decide))]
  have : PyData.eqv (.list (xs.map PyData.int)) (.list (([] : List Int).map PyData.int)) = decide (xs = []) := by cases xs <;> simp [PyData.eqv, PyData.eqvAll]
  rw [this]
theorem run_of_wp {h : Hm} (b : Bg h) {m : Mach} {K R E N : Nat} (M : MDr m K R E N) (hN : N ≤ 1000) (hE : E ≤ 1000) {rt many : Nat} {xs : List Th} (et : h[rt]? = some (.lst (xs.map dTh))) (hrt : rt ≠ 2) (hx : ∀ x ∈ xs, x.1 < K) (hx0 : 0 < xs.length) (hxl : xs.length ≤ 1000) (hmany : many ≤ 1000) :
    Wp (F_l_run_of [.ref 2, dMach m, .ref rt, .int (many : Nat)] h) fun d h' => Kb h h' ∧ ∃ (r : Nat) (run : List Rt) (kvs : Dt Fg), d = .ref r ∧ h.length ≤ r ∧ h'[r]? = some (.lst (run.map dRt)) ∧ run.length = many ∧ (∀ p ∈ run, RtOk m E p ∧ p.2 ∈ xs) ∧ led m [] run 0 0 = .inr kvs := by
  have hb := b.len
  unfold F_l_run_of
  rw [w_runF, m_l_run_of]
  refine ws_cut fun Kc hK => ?_
  simp
  refine hK _ _ ?_
  clear hK
  have k1 : Kb h (h ++ [.lst [], .lst []]) := (Kb.refl b).app
  have ef : (h ++ [.lst [], .lst []])[h.length]? = some (.lst ((srt []).map dPr)) := by simp [srt]
  have er : (h ++ [.lst [], .lst []])[h.length + 1]? = some (.lst (([] : List Rt).map dRt)) := by simp
  generalize h ++ [.lst [], .lst []] = h1 at k1 ef er ⊢
  have hRR : h.length < h.length + 1 := by omega
  generalize h.length + 1 = RR at er hRR ⊢
  refine ws_cut fun Kc hK => ?_
  simp
  refine ⟨by omega, ?_⟩
  refine for_rng (fun i δ h2 => ∃ (RF : Nat) (x4 x7 x8 x9 x10 x11 : Option D) (run : List Rt) (kvs : Dt Fg), δ = [some (.ref 2), some (dMach m), some (.ref rt), some (.int (many : Nat)), x4, some (.ref RF), some (.ref RR), x7, x8, x9, x10, x11, none] ∧ Kb h h2 ∧ h.length ≤ RF ∧ RF ≠ RR ∧
      h2[RF]? = some (.lst ((srt kvs).map dPr)) ∧ h2[RR]? = some (.lst (run.map dRt)) ∧ run.length = i ∧ (∀ p ∈ run, RtOk m E p ∧ p.2 ∈ xs) ∧ led m [] run 0 0 = .inr kvs)
    ⟨h.length, none, none, none, none, none, none, [], [], rfl, k1, Nat.le_refl _, by omega, ef, er, rfl, by simp, rfl⟩ ?_ ?_
  · rintro i δ h2 hi ⟨RF, x4, x7, x8, x9, x10, x11, run, kvs, rfl, k2, hF, hFR, e2, e2r, lrun, hrun, el⟩
    clear ef er k1
    simp only [List.set_cons_succ, List.set_cons_zero]
    refine ws_cut fun Kc hK => ?_
    simp
    refine (some_wp k2.bg (k2.get et hrt) hrt (by simpa using hx0) (by simp; omega)).imp ?_
    rintro d h3 ⟨hd, k3⟩
    obtain ⟨x, hxs, rfl⟩ := List.mem_map.mp hd
    have kvok : KvOk m kvs := led_ok M.ok run [] kvs 0 0 ⟨by simp, by simp⟩ (fun p hp => (hrun p hp).1) el
    have kvok' := srt_ok kvok
    have klen : kvs.length ≤ 1000 := by have := led_len run [] kvs 0 0 el; simp at this; omega
    have ed : dFrom ((srt kvs).map fun p => .tup [dTh p.1, dFg p.2]) [] = some ((srt kvs).map (dKv dFg)) := dFrom_th dFg (srt kvs) [] (by simpa using kvok'.2)
    have e3 := k3.get e2 (by omega)
    refine hK _ _ (ws_cut fun Kc hK => ?_)
    simp [-getElem?_pos, List.getElem?_cons_zero, List.getElem?_cons_succ, e3, map_dKv (srt kvs), ed]
    refine hK _ _ (ws_cut fun Kc hK => ?_)
    simp
    refine ⟨size_ok (by decide), hK _ _ ?_⟩
    clear hK
    have k24 := (k3.q (Kp.app (l := [.dct ((srt kvs).map (dKv dFg)), .lst [.int 0]])))
    have ed4 : (h3 ++ [.dct ((srt kvs).map (dKv dFg)), .lst [.int 0]])[h3.length]? = some (.dct ((srt kvs).map (dKv dFg))) := by simp
    have e04 : (h3 ++ [.dct ((srt kvs).map (dKv dFg)), .lst [.int 0]])[h3.length + 1]? = some (.lst (([0] : List Int).map D.int)) := by simp
    have hT : h2.length ≤ h3.length := k3.kp.len
    have hT2 : h2.length ≤ h3.length + 1 := by omega
    generalize h3 ++ [.dct ((srt kvs).map (dKv dFg)), .lst [.int 0]] = h4 at k24 ed4 e04 ⊢
    generalize h3.length + 1 = RD at e04 hT2 ⊢
    generalize h3.length = T at ed4 hT ⊢
    have hb2 := k2.bg.len
    have hsp := fun d => step_perm (m := m) (srt_self kvs) kvok'.2 d x i
    refine (w_sSeq.mpr (Ws.imp (Q := fun f δ h5 => f = .nx ∧ ∃ (RD : Nat) (ds : List Int) (x11 : Option D), δ = [some (.ref 2), some (dMach m), some (.ref rt), some (.int (many : Nat)), some (.int (i : Nat)), some (.ref RF), some (.ref RR), some (dTh x), some (.ref T), some (.ref RD), x10, x11, none] ∧ Kb h4 h5 ∧
        h5[RD]? = some (.lst (ds.map D.int)) ∧ RD ≠ 2 ∧ 0 < ds.length ∧ ds.length ≤ 1001 ∧ ∀ d ∈ ds, (-1 ≤ d ∧ d ≤ E) ∧ ∃ a, step m (srt kvs) d x i = some a) ?_ ?_))
    · simp [-getElem?_pos, List.getElem?_cons_zero, List.getElem?_cons_succ, w_in_dct ed4, tkey_th, dLook_th]
      cases hlk : look (srt kvs) x with
      | none =>
        simp
        refine ⟨Kb.refl k24.bg, [0], e04, by omega, by simp, by simp, fun d hd => ?_⟩
        rw [List.mem_singleton] at hd
        subst hd
        exact ⟨⟨by omega, by omega⟩, by simp [step, hlk]⟩
      | some f =>
        obtain ⟨pt, hp1, hp2⟩ := kvok'.1 _ (look_mem hlk)
        have hp : f.1 < m.mvs.length := by rw [M.ok.mvl]; exact lt_of_some hp1
        have ew := List.getElem?_eq_getElem hp
        have hwl := M.ok.deeds _ (List.getElem_mem hp)
        generalize m.mvs[f.1] = r at ew hwl
        simp only [Option.isSome_some, Bool.false_bne, if_true]
        simp [-getElem?_pos, List.getElem?_cons_zero, List.getElem?_cons_succ, ed4, tkey_th, dLook_th, hlk, ew, dMvs]
        refine comp_q dNat (List.range E) (fun k => (r.getD k none).isSome) (fun k y => y = .int ((k : Int) + 1)) (size_ok (by rw [List.length_range]; omega)) ?_ ?_ ?_
        · simp [hwl, rng_map, Kp.refl]
          omega
        · intro k hk h5 k5
          have hkE : k < E := List.mem_range.mp hk
          have eo := List.getElem?_eq_getElem (l := r) (i := k) (by omega)
          cases ho : r[k] with
          | none =>
            rw [ho] at eo
            simp [wipeL, dNat, eo, dMv, List.getD, Kp.refl]
          | some q =>
            rw [ho] at eo
            simp [wipeL, dNat, eo, dMv, List.getD, Kp.refl]
        intro h5 r5 ys k5 hr5 e5 w5
        have ey := w5.fn
        have k45 := Kq.kb k5 k24.bg
        have hb5 := k45.bg.len
        have lb4 := k24.bg.len
        have ey2 : ys = (((List.range E).filter fun k => (r.getD k none).isSome).map fun k : Nat => (k : Int) + 1).map D.int := by rw [ey, List.map_map]; rfl
        clear ey
        have hds : ∀ d ∈ (((List.range E).filter fun k => (r.getD k none).isSome).map fun k : Nat => (k : Int) + 1), (-1 ≤ d ∧ d ≤ E) ∧ ∃ a, step m (srt kvs) d x i = some a := by
          intro d hd
          obtain ⟨k, hk, rfl⟩ := List.mem_map.mp hd
          rw [List.mem_filter] at hk
          have hkE : k < E := List.mem_range.mp hk.1
          refine ⟨⟨by omega, by omega⟩, ?_⟩
          have eo := List.getElem?_eq_getElem (l := r) (i := k) (by omega)
          have h2 := hk.2
          simp only [List.getD, eo, Option.getD_some] at h2
          obtain ⟨q, hq⟩ := Option.isSome_iff_exists.mp h2
          rw [hq] at eo
          have n1 : ¬ ((k : Int) + 1 = 0) := by omega
          have n2 : ¬ ((k : Int) + 1 < 0) := by omega
          have em : mvAt m f.1 k = some (some q) := by unfold mvAt; rw [ew]; exact eo
          have ek : ((k : Int) + 1 - 1).toNat = k := by omega
          exact ⟨put (srt kvs) x (q.1, took i f.2 q.2), by simp only [step, n1, n2, if_false, hlk, ek, em]⟩
        have hdl : (((List.range E).filter fun k => (r.getD k none).isSome).map fun k : Nat => (k : Int) + 1).length ≤ 1000 := by
          rw [List.length_map]
          exact Nat.le_trans (List.length_filter_le ..) (by rw [List.length_range]; exact hE)
        generalize (((List.range E).filter fun k => (r.getD k none).isSome).map fun k : Nat => (k : Int) + 1) = ds at ey2 hds hdl
        subst ey2
        have hgo : ∀ d ∈ [(-1 : Int)], (-1 ≤ d ∧ d ≤ E) ∧ ∃ a, step m (srt kvs) d x i = some a := by
          intro d hd
          rw [List.mem_singleton] at hd
          subst hd
          exact ⟨⟨by omega, by omega⟩, by simp [step, hlk]⟩
        rw [w_eq_nil (xs := ds) (by rw [List.getElem?_append_left (lt_of_some e5)]; exact e5) (by simp) (fun d hd => by have := (hds d hd).1; omega)]
        simp only [blK_bl, decide_eq_true_eq]
        split
        · exact ⟨size_ok (by decide), k45.app.app, [-1], rfl, by simp; omega, by simp, by simp, hgo⟩
        · rename_i hne
          refine (take_wp k45.app.bg (u := 10) (by decide) (by decide)).imp ?_
          rintro d h6 ⟨v, hv, rfl, k6⟩
          have k46 := k45.app.trans k6
          have hb6 := k46.bg.len
          simp only [w_dEq_int, blK_bl, decide_eq_true_eq]
          split
          · exact ⟨size_ok (by decide), k46.app, [-1], rfl, by omega, by simp, by simp, hgo⟩
          · refine ⟨r5, rfl, k46, ds, ?_, by omega, List.length_pos_iff.mpr hne, by omega, hds⟩
            exact k6.get (by rw [List.getElem?_append_left (lt_of_some e5)]; exact e5) (by omega)
    rintro f δ h5 ⟨rfl, RD', ds, x11', rfl, k5, e5, hRD, hds0, hdsl, hds⟩
    have k25 := k24.trans k5
    refine ws_cut fun Kc hK => ?_
    simp
    refine (some_wp k5.bg e5 hRD (by simpa using hds0) (by simp; omega)).imp ?_
    rintro d h6 ⟨hd, k6⟩
    obtain ⟨d, hdm, rfl⟩ := List.mem_map.mp hd
    obtain ⟨⟨hd1, hd2⟩, a, ha⟩ := hds d hdm
    refine ⟨size_ok (by decide), hK _ _ ?_⟩
    have edR : D.tup [D.int d, dTh x] = dRt (d, x) := rfl
    rw [edR]
    refine ws_cut fun Kc hK => ?_
    simp
    refine ⟨size_ok (by decide), ?_⟩
    have k26 := k25.trans k6
    have e6 := k26.get e2 (by omega)
    have rok : RtOk m E (d, x) := ⟨hd1, hd2, by rw [M.ok.kinds]; exact hx x hxs⟩
    refine (led_wp (h := h6 ++ [.lst [dRt (d, x)]]) (rf := RF) (rr := h6.length) (figs := srt kvs) (run := [(d, x)]) (now := i) M.ok hE (by rw [List.getElem?_append_left (lt_of_some e6)]; exact e6) (by simp) kvok' (by simpa using rok) (by rw [srt_len]; simp; omega) (fun r hr q hq => Nat.le_trans (M.tk r hr q hq) (by omega))).imp ?_
    rintro d' h7 ⟨k7, lr⟩
    have k27 := (k26.q Kp.app).q k7
    have els : led m (srt kvs) [(d, x)] i 0 = .inr a := by simp [led, ha]
    rw [els] at lr
    obtain ⟨RF', rfl, hRF', e7⟩ := lr
    refine hK _ _ ?_
    have e7r := k27.get e2r (by omega)
    simp [e7r]
    have l27 := k27.kp.len
    have lRR := lt_of_some e2r
    simp at hRF'
    have l6 := k26.kp.len
    obtain ⟨_, _⟩ | ⟨a', b', ha', hb', pab⟩ := hsp d
    · rename_i z _
      rw [z] at ha
      cases ha
    rw [ha] at ha'
    cases ha'
    refine ⟨size_lt (by omega), (k2.trans k27).setn (by omega) b, by omega, by omega, run ++ [(d, x)], b', ?_, ?_, ?_, ?_, ?_⟩
    · rw [List.getElem?_set_ne (by omega), e7]
      rw [srt_perm pab (step_ok M.ok kvok' rok ha).2]
    · rw [List.getElem?_set_self (lt_of_some e7r)]
      simp
    · simp [lrun]
    · intro d' a c hac
      rcases List.mem_append.mp hac with z | z
      · exact hrun _ z
      · rw [List.mem_singleton] at z
        cases z
        exact ⟨rok, hxs⟩
    · rw [led_append, el]
      dsimp only
      rw [Nat.zero_add, lrun]
      simp [led, hb']
  · rintro δ h2 ⟨RF, x4, x7, x8, x9, x10, x11, run, kvs, rfl, k2, hF, hFR, e2, e2r, lrun, hrun, el⟩
    refine hK _ _ ?_
    simp
    exact ⟨k2, by omega, run, e2r, lrun, fun a b c hab => hrun (a, b, c) hab, kvs, el⟩
end PA
set_option Elab.async false
set_option linter.all false
set_option maxRecDepth 100000
/-! PA.Prog: rules for dict comprehensions and errors; the defs of ownmoment/machines.py that lead and sort. -/
namespace PA
open PySem PySem.Spec PyProof.Rows L2 DL
section
variable {gd : Hm → Prop} {g : MG} {b : MS} {t : MT} {ek ev : ME} {mi : MI} {δ : Lo} {h : Hm} {S : Fl → Lo → Hm → Prop} {Q : D → Hm → Prop}
open Classical in
theorem dcGo_inv (ix : Nat) (δw : Lo) (I : Nat → List (D × D) → Hm → Prop) (items : List D) (step : ∀ (i : Nat) (d : D) (acc : List (D × D)) (h : Hm), items[i]? = some d → h[ix]? = some (.dct acc) → I i acc h →
      gd h ∧ Wp (g d δw h) fun δ h => Wp (t δ h) fun c h => c = true ∧ Wp (ek δ h) fun y h => Wp (ev δ h) fun z h => h[ix]? = some (.dct acc) ∧ acc.length < sizeLine ∧ oK (tkey y) (fun key h => I (i + 1) (dPut acc y key z) (h.set ix (.dct (dPut acc y key z)))) h)
    (fin : ∀ acc h, h[ix]? = some (.dct acc) → I items.length acc h → gd h) {acc : List (D × D)} (hx : h[ix]? = some (.dct acc)) (h0 : I 0 acc h) : ∃ acc' h', dcGo gd g t ek ev ix δw items h = some h' ∧ h'[ix]? = some (.dct acc') ∧ I items.length acc' h' := by
  have key : ∀ (n i : Nat) (acc : List (D × D)) (h : Hm), items.length - i = n → i ≤ items.length → h[ix]? = some (.dct acc) → I i acc h → ∃ acc' h', dcGo gd g t ek ev ix δw (items.drop i) h = some h' ∧ h'[ix]? = some (.dct acc') ∧ I items.length acc' h' := by
    intro n
    induction n with
    | zero =>
      intro i acc h hn hi hx hI
      have : i = items.length := by omega
      subst this
      exact ⟨acc, h, by rw [List.drop_length, dcGo, if_pos (fin _ _ hx hI)], hx, hI⟩
    | succ n ih =>
      intro i acc h hn hi hx hI
      have hl : i < items.length := by omega
      rw [List.drop_eq_getElem_cons hl]
      obtain ⟨s1, δ1, h1, e1, c, h2, e2, rfl, y, h3, e3, z, h4, e4, hx4, hz, s2⟩ := step i _ acc h (List.getElem?_eq_getElem hl) hx hI
      rw [dcGo, if_pos s1, e1]
      simp only [Option.bind_some, e2, if_true, e3, e4, getK_dct hx4]
      cases hk : tkey y with
      | none => rw [hk] at s2; exact s2.elim
      | some key =>
        rw [hk] at s2
        simp only [Option.bind_some, if_pos hz]
        exact ih (i + 1) _ _ (by omega) hl (by rw [List.getElem?_set_self (lt_of_some hx4)]) s2
  have := key items.length 0 acc h (by omega) (Nat.zero_le _) hx h0
  simpa using this
/-- {x: f for x, f in figures} -/
theorem dcomp_ps {α : Type} {e : α → D} {vs : List Nat} (ps : Dt α) (nd : (ps.map (·.1)).Nodup) (hs : ps.length < sizeLine) (hm : Wp (mi δ h) fun S hb => hb = h ∧ S.items = ps.map (fun p => .tup [dTh p.1, e p.2]) ∧ (∀ h2, Kq h h2 → S.guard h2))
    (hstep : ∀ p ∈ ps, ∀ h2, Kq h h2 → Wp (g (.tup [dTh p.1, e p.2]) (wipeL δ vs) h2) fun δ2 h3 => h3 = h2 ∧ Wp (t δ2 h3) fun c h4 => h4 = h3 ∧ c = true ∧ Wp (ek δ2 h4) fun y h5 => h5 = h4 ∧ y = dTh p.1 ∧ Wp (ev δ2 h5) fun z h6 => h6 = h5 ∧ z = e p.2)
    (fin : ∀ h2, Kq h h2 → h2[h.length]? = some (.dct (ps.map (dKv e))) → Q (.ref h.length) h2) : Wp (mDcomp mi g t ek ev vs δ h) Q := by
  obtain ⟨S, hb, hm, rfl, hi, hg⟩ := hm
  obtain ⟨acc', h', e1, e2, k', q⟩ := dcGo_inv (gd := S.guard) (g := g) (t := t) (ek := ek) (ev := ev) hb.length (wipeL δ vs) (fun i acc h' => Kq hb h' ∧ ∃ qs, acc = qs.map (dKv e) ∧ qs = ps.take i) S.items
    (by
      rintro i d acc h1 hd hx ⟨k1, qs, rfl, rfl⟩
      rw [hi, List.getElem?_map, Option.map_eq_some_iff] at hd
      obtain ⟨p, ep, rfl⟩ := hd
      have hil := lt_of_some ep
      refine ⟨hg _ k1, ?_⟩
      refine (hstep p (List.mem_of_getElem? ep) h1 k1).imp ?_
      rintro δ2 h3 ⟨rfl, s⟩
      refine s.imp ?_
      rintro c h4 ⟨rfl, hc, s⟩
      refine ⟨hc, s.imp ?_⟩
      rintro y h5 ⟨rfl, rfl, s⟩
      refine s.imp ?_
      rintro z h6 ⟨rfl, rfl⟩
      have hlen : (ps.take i).length = i := by rw [List.length_take]; omega
      refine ⟨hx, by rw [List.length_map]; omega, ?_⟩
      rw [tkey_th]
      simp only [oK_some, dPut_th]
      refine ⟨Kq.setn k1 (Nat.le_refl _), _, rfl, ?_⟩
      have hn : look (ps.take i) p.1 = none := by
        rw [look_none]
        intro q hq z
        obtain ⟨j, hj⟩ := List.mem_iff_getElem?.mp hq
        have hji : j < i := by have := lt_of_some hj; omega
        rw [List.getElem?_take_of_lt hji] at hj
        have h1 : (ps.map (·.1))[j]? = some p.1 := by rw [List.getElem?_map, hj]; simp [z]
        have h2 : (ps.map (·.1))[i]? = some p.1 := by rw [List.getElem?_map, ep]; rfl
        have := (List.getElem?_inj (lt_of_some h1) nd).mp (h1.trans h2.symm)
        omega
      rw [List.take_add_one, ep]
      simp [put, hn])
    (fun acc h2 hx q => hg _ q.1) (h := hb ++ [.dct []]) (acc := []) (by simp) ⟨Kq.app (Kp.refl (S := No)), [], rfl, by simp⟩
  obtain ⟨qs, rfl, eq⟩ := q
  have el : S.items.length = ps.length := by rw [hi, List.length_map]
  rw [el, List.take_length] at eq
  subst eq
  refine ⟨.ref hb.length, h', ?_, fin h' k' e2⟩
  unfold mDcomp
  rw [hm]
  simp only [Option.bind_some, e1, Option.map_some]
/-! errors -/
/-- what a def that may raise ends with -/
def retX (Q : RX → Hm → Prop) : Fl → Lo → Hm → Prop
  | .nx, _, h => Q (.ok .non) h
  | .rt d, _, h => Q (.ok d) h
  | .ex c fs, _, h => Q (.ex c fs) h
  | _, _, _ => False
@[simp] theorem retX_nx {Q : RX → Hm → Prop} : retX Q .nx δ h = Q (.ok .non) h := rfl
@[simp] theorem retX_rt {Q : RX → Hm → Prop} {d : D} : retX Q (.rt d) δ h = Q (.ok d) h := rfl
@[simp] theorem retX_ex {Q : RX → Hm → Prop} {c : Str} {fs : List (Str × D)} : retX Q (.ex c fs) δ h = Q (.ex c fs) h := rfl
theorem w_runX {Q : RX → Hm → Prop} {N : Nat} {ds : List D} {x : MS} : Wp (runX N x ds h) Q ↔ Ws (x (ds.map some ++ List.replicate (N - ds.length) none) h) (retX Q) := by
  simp only [runX, wp_bind3]
  refine iff_of_eq (congrArg _ (funext fun d => funext fun δ => funext fun h => ?_))
  cases d <;> simp [retX]
@[simp] theorem w_xCall {Q : RX → Hm → Prop} {F : FDX} {r : MA} : Wp (xCall F r δ h) Q ↔ Wp (r δ h) fun ds h => Wp (F ds h) Q := by simp only [xCall, wp_bind]
def okX (k : D → Hm → Prop) (x : Str → List (Str × D) → Hm → Prop) : RX → Hm → Prop
  | .ok d, h => k d h
  | .ex c fs, h => x c fs h
@[simp] theorem okX_ok {k : D → Hm → Prop} {x : Str → List (Str × D) → Hm → Prop} {d : D} : okX k x (.ok d) h = k d h := rfl
@[simp] theorem okX_ex {k : D → Hm → Prop} {x : Str → List (Str × D) → Hm → Prop} {c : Str} {fs : List (Str × D)} : okX k x (.ex c fs) h = x c fs h := rfl
@[simp] theorem w_sRetX {m : MX} : Ws (sRetX m δ h) S ↔ Wp (m δ h) (okX (fun d h => S (.rt d) δ h) fun c fs h => S (.ex c fs) δ h) := by
  simp only [sRetX, ws_bind]
  refine iff_of_eq (congrArg _ (funext fun d => funext fun h => ?_))
  cases d <;> simp
@[simp] theorem w_sSetX {m : MX} {i : Nat} : Ws (sSetX i m δ h) S ↔ Wp (m δ h) (okX (fun d h => S .nx (δ.set i (some d)) h) fun c fs h => S (.ex c fs) δ h) := by
  simp only [sSetX, ws_bind]
  refine iff_of_eq (congrArg _ (funext fun d => funext fun h => ?_))
  cases d <;> simp
@[simp] theorem w_sDropX {m : MX} : Ws (sDropX m δ h) S ↔ Wp (m δ h) (okX (fun d h => S .nx δ h) fun c fs h => S (.ex c fs) δ h) := by
  simp only [sDropX, ws_bind]
  refine iff_of_eq (congrArg _ (funext fun d => funext fun h => ?_))
  cases d <;> simp
@[simp] theorem w_sRaise {c : Str} {n : Nat} {w : List (Str × Nat)} {r : MA} : Ws (sRaise c n w r δ h) S ↔ Wp (r δ h) fun ds h => (ds.length = n ∧ n ≤ 1000) ∧ oK (putDs (.non :: ds) w []) (fun fs h => S (.ex c fs) δ h) h := by
  simp only [sRaise, ws_bind]
  refine iff_of_eq (congrArg _ (funext fun d => funext fun h => propext ?_))
  by_cases z : d.length = n ∧ n ≤ 1000
  · rw [if_pos z]
    simp only [z, true_and, and_self]
    cases putDs (.non :: d) w [] <;> simp
  · rw [if_neg z]
    simp only [ws_none, false_iff]
    exact fun q => z q.1
/-- try .. except one class as e -/
def tryK (i : Nat) (cat : Str → Option Bool) (mh : Str → List (Str × D) → MS) (S : Fl → Lo → Hm → Prop) : Fl → Lo → Hm → Prop
  | .ex c fs, δ, h => (cat c = some true ∧ i < δ.length ∧ Ws (mh c fs (δ.set i none) h) fun f δ2 h2 => (∀ c fs, f ≠ .ex c fs) ∧ S f (δ2.set i none) h2) ∨ (cat c = some false ∧ S (.ex c fs) δ h)
  | f, δ, h => S f δ h
@[simp] theorem tryK_nx {i : Nat} {cat : Str → Option Bool} {mh : Str → List (Str × D) → MS} : tryK i cat mh S .nx δ h = S .nx δ h := rfl
@[simp] theorem tryK_rt {i : Nat} {cat : Str → Option Bool} {mh : Str → List (Str × D) → MS} {d : D} : tryK i cat mh S (.rt d) δ h = S (.rt d) δ h := rfl
@[simp] theorem tryK_ex {i : Nat} {cat : Str → Option Bool} {mh : Str → List (Str × D) → MS} {c : Str} {fs : List (Str × D)} : tryK i cat mh S (.ex c fs) δ h ↔ (cat c = some true ∧ i < δ.length ∧ Ws (mh c fs (δ.set i none) h) fun f δ2 h2 => (∀ c fs, f ≠ .ex c fs) ∧ S f (δ2.set i none) h2) ∨ (cat c = some false ∧ S (.ex c fs) δ h) := Iff.rfl
@[simp] theorem w_sTry {i : Nat} {cat : Str → Option Bool} {mb : MS} {mh : Str → List (Str × D) → MS} : Ws (sTry i cat mb mh δ h) S ↔ Ws (mb δ h) (tryK i cat mh S) := by
  simp only [sTry, ws_bind3]
  refine iff_of_eq (congrArg _ (funext fun f => funext fun δ => funext fun h => propext ?_))
  cases f <;> simp [tryK]
  rename_i c fs
  cases hc : cat c with
  | none => simp
  | some v =>
    cases v with
    | true =>
      simp only [reduceCtorEq, and_true, true_and, Option.some.injEq, Bool.true_eq_false, false_and, or_false]
      by_cases hi : i < δ.length
      · rw [if_pos hi]
        simp only [hi, true_and, ws_bind3]
        refine iff_of_eq (congrArg _ (funext fun f => funext fun δ => funext fun h => propext ?_))
        cases f <;> simp
      · rw [if_neg hi]
        simp [hi]
    | false => simp
end
end PA
set_option Elab.async false
set_option linter.all false
set_option maxRecDepth 100000
/-! PA.ProgM: what the defs of ownmoment/machines.py do. -/
namespace PA
open PySem PySem.Spec PyProof.Rows L2 DL
section
variable {m : Mach} {K R E : Nat} {h : Hm} {Q : D → Hm → Prop}
theorem can_lead_wp (M : MOk m K R E) {T : Nat} {kvs : Dt Fg} {d : Int} {x : Th} (now : Nat) (e : h[T]? = some (.dct (kvs.map (dKv dFg)))) (kv : KvOk m kvs) (ro : RtOk m E (d, x)) :
    Wp (F_can_lead [dMach m, .ref T, .int d, dTh x] h) fun r h' => h' = h ∧ r = .bl (step m kvs d x now).isSome := by
  unfold F_can_lead
  rw [w_runF, m_can_lead]
  by_cases hd : d = 0
  · subst hd
    simp [-getElem?_pos, List.getElem?_cons_zero, List.getElem?_cons_succ, w_in_dct e, tkey_th, dLook_th]
    simp only [step, if_true]
    cases hl : look kvs x <;> simp
  · simp [-getElem?_pos, List.getElem?_cons_zero, List.getElem?_cons_succ, w_in_dct e, tkey_th, dLook_th, hd]
    cases hl : look kvs x with
    | none => simp [step, hd, hl]
    | some f =>
      by_cases hn : d = -1
      · subst hn
        simp [step, hl]
      · have h0 : 0 < d := by have := ro.1; simp at this; omega
        obtain ⟨k, rfl⟩ : ∃ k : Nat, d = (k : Int) + 1 := ⟨(d - 1).toNat, by omega⟩
        obtain ⟨pt, hp1, hp2⟩ := kv.1 _ (look_mem hl)
        obtain ⟨o, ho, r', hr1, hr2⟩ := mvAt_some M hp1 (k := k) (by have := ro.2.1; simp at this; omega)
        dsimp only at hr1 ho
        have n2 : ¬ ((k : Int) + 1 < 0) := by omega
        simp [-getElem?_pos, List.getElem?_cons_zero, List.getElem?_cons_succ, hn, e, tkey_th, dLook_th, hl, hr1, dMvs, hr2]
        cases o with
        | none => simp [dMv, step, hd, hl, n2, ho]
        | some q => simp [dMv, step, hd, hl, n2, ho]
theorem lead_wp (M : MOk m K R E) (tk : ∀ r ∈ m.mvs, ∀ q, some q ∈ r → q.2.length ≤ 1000) {T now : Nat} {kvs kvs' : Dt Fg} {d : Int} {x : Th} (e : h[T]? = some (.dct (kvs.map (dKv dFg)))) (kv : KvOk m kvs) (kl : kvs.length ≤ 100000) (ro : RtOk m E (d, x)) (es : step m kvs d x now = some kvs') :
    Wp (F_lead [dMach m, .ref T, .int d, dTh x, .int (now : Nat)] h) fun r h' => r = .non ∧ Kp (fun i => i = T) h h' ∧ h'[T]? = some (.dct (kvs'.map (dKv dFg))) := by
  have hT := lt_of_some e
  have sz : kvs.length < sizeLine := Nat.lt_of_le_of_lt kl (by decide)
  have fin : ∀ h2 : Hm, Kq h h2 → Kp (fun i => i = T) h (h2.set T (.dct (kvs'.map (dKv dFg)))) ∧ (h2.set T (.dct (kvs'.map (dKv dFg))))[T]? = some (.dct (kvs'.map (dKv dFg))) :=
    fun h2 k => ⟨k.any.trans (Kp.set rfl), by rw [List.getElem?_set_self (Nat.lt_of_lt_of_le hT k.len)]⟩
  unfold F_lead
  rw [w_runF, m_lead]
  by_cases hd : d = 0
  · subst hd
    have hb := ro.2.2
    have eb : m.begins.getD x.1 0 = m.begins[x.1] := by simp [List.getD, List.getElem?_eq_getElem hb]
    simp [-getElem?_pos, List.getElem?_cons_zero, List.getElem?_cons_succ, List.getElem?_eq_getElem hb, e, tkey_th]
    simp only [step, if_true] at es
    split at es
    · cases es
    · cases es
      refine ⟨size_ok (by decide), size_ok (by decide), sz, ?_⟩
      rw [show D.tup [dNat m.begins[x.1], D.tup [D.int (now : Nat)]] = dFg (m.begins.getD x.1 0, [now]) by rw [eb]; rfl, dPut_th]
      exact fin h Kp.refl
  · simp [-getElem?_pos, List.getElem?_cons_zero, List.getElem?_cons_succ, hd]
    cases hl : look kvs x with
    | none => simp [step, hd, hl] at es
    | some f =>
      by_cases hn : d = -1
      · subst hn
        simp [step, hl] at es
        subst es
        simp [-getElem?_pos, List.getElem?_cons_zero, List.getElem?_cons_succ, e, tkey_th, dLook_th, hl]
        rw [dDrop_th]
        exact fin h Kp.refl
      · have h0 : 0 < d := by have := ro.1; simp at this; omega
        obtain ⟨k, rfl⟩ : ∃ k : Nat, d = (k : Int) + 1 := ⟨(d - 1).toNat, by omega⟩
        obtain ⟨pt, hp1, hp2⟩ := kv.1 _ (look_mem hl)
        obtain ⟨o, ho, r', hr1, hr2⟩ := mvAt_some M hp1 (k := k) (by have := ro.2.1; simp at this; omega)
        dsimp only at hr1 ho hp1 hp2
        have n2 : ¬ ((k : Int) + 1 < 0) := by omega
        cases o with
        | none => simp [step, hd, hl, n2, ho] at es
        | some q =>
          simp [step, hd, hl, n2, ho] at es
          subst es
          obtain ⟨p', g1, g2, g3⟩ := M.mv _ _ _ hr1 hp1 q (List.mem_of_getElem? hr2)
          have hq := tk _ (List.mem_of_getElem? hr1) q (List.mem_of_getElem? hr2)
          simp [-getElem?_pos, List.getElem?_cons_zero, List.getElem?_cons_succ, hn, e, tkey_th, dLook_th, hl, hr1, dMvs, hr2, dMv]
          refine comp_f (f := fun o => match o with | none => dNat now | some i => dNat (f.2.getD i 0)) dK q.2 (size_ok (by omega)) (by simp; exact Kp.refl) (fun y hy h2 k2 => ?_) (fun h2 r k2 hr er => ?_)
          · simp [wipeL]
            refine ⟨Kp.refl, ?_⟩
            cases y with
            | none => simp [dK, dNat, Kp.refl]
            | some i =>
              have hi : i < f.2.length := by rw [hp2]; exact g3 i hy
              have : ¬ ((i : Int) = -1) := by omega
              simp [dK, this, List.getElem?_eq_getElem hi, dNat, Kp.refl]
          · have e2 := Kq.get k2 e
            simp [er, e2, tkey_th]
            refine ⟨size_ok (by decide), sz, ?_⟩
            have et : q.2.map (fun o => match o with | none => dNat now | some i => dNat (f.2.getD i 0)) = (took now f.2 q.2).map dNat := by
              unfold took
              rw [List.map_map]
              refine List.map_congr_left fun a _ => ?_
              cases a <;> rfl
            simp only [List.getD] at et
            rw [et, show D.tup [D.int (q.1 : Nat), D.tup ((took now f.2 q.2).map dNat)] = dFg (q.1, took now f.2 q.2) from rfl, dPut_th]
            exact fin h2 k2
theorem p_led_wp (M : MOk m K R E) (tk : ∀ r ∈ m.mvs, ∀ q, some q ∈ r → q.2.length ≤ 1000) {T rr now : Nat} {figs : Dt Fg} {run : List Rt} (e : h[T]? = some (.dct (figs.map (dKv dFg)))) (e2 : h[rr]? = some (.lst (run.map dRt))) (hne : rr ≠ T) (kv : KvOk m figs) (ro : ∀ r ∈ run, RtOk m E r) (hl : figs.length + run.length ≤ 100000) :
    Wp (F_p_led [dMach m, .ref T, .ref rr, .int (now : Nat)] h) fun d h' => Kp (fun i => i = T) h h' ∧ match led m figs run now 0 with
      | .inl k => d = .int (k : Nat)
      | .inr kvs => d = .non ∧ h'[T]? = some (.dct (kvs.map (dKv dFg))) := by
  unfold F_p_led
  rw [w_runF, m_p_led]
  refine ws_cut fun Kc hK => ?_
  simp [-getElem?_pos, List.getElem?_cons_zero, List.getElem?_cons_succ, e2]
  refine for_inv (fun i δ h' => ∃ x4 x5 x6 kvs, δ = [some (dMach m), some (.ref T), some (.ref rr), some (.int (now : Nat)), x4, x5, x6] ∧ Kp (fun i => i = T) h h' ∧ h'[T]? = some (.dct (kvs.map (dKv dFg))) ∧ KvOk m kvs ∧ kvs.length ≤ figs.length + i ∧ led m kvs (run.drop i) now i = led m figs run now 0) _
    ⟨none, none, none, figs, rfl, Kp.refl, e, kv, by omega, by simp⟩ ?_ ?_
  · rintro i d δ h1 hd ⟨x4, x5, x6, kvs, rfl, kq, er, kv1, len1, el⟩
    have e2' := kq.get e2 hne
    refine ⟨getL_lst e2', ?_⟩
    unfold enD at hd
    rw [List.getElem?_mapIdx, List.getElem?_map] at hd
    have hil : i < run.length := by
      cases hr : run[i]? with
      | none => rw [hr] at hd; cases hd
      | some _ => exact lt_of_some hr
    have es := List.getElem?_eq_getElem hil
    have ro1 := ro _ (List.getElem_mem hil)
    rw [List.drop_eq_getElem_cons hil] at el
    rw [es] at hd
    generalize run[i] = r at es ro1 el hd
    obtain ⟨d', x⟩ := r
    cases hd
    simp only [led] at el
    simp [-getElem?_pos, List.getElem?_cons_zero, List.getElem?_cons_succ, dRt]
    refine (can_lead_wp M (now + i) er kv1 ro1).imp ?_
    rintro r h2 ⟨rfl, rfl⟩
    have now1 : ((now : Int) + (i : Int)) = ((now + i : Nat) : Int) := by omega
    cases hs : step m kvs d' x (now + i) with
    | none =>
      rw [hs] at el
      simp [dTru]
      refine ⟨kq, ?_⟩
      rw [← el]
    | some kvs' =>
      rw [hs] at el
      simp [dTru]
      rw [now1]
      refine (lead_wp M tk er kv1 (by omega) ro1 hs).imp ?_
      rintro r h3 ⟨rfl, k3, e3⟩
      exact ⟨kq.trans k3, kvs', e3, step_ok M kv1 ro1 hs, by have := step_len hs; omega, el⟩
  · rintro δ h1 ⟨x4, x5, x6, kvs, rfl, kq, er, kv1, len1, el⟩
    refine ⟨getL_lst (kq.get e2 hne), hK _ _ ?_⟩
    have eln : (enD (run.map dRt)).length = run.length := by simp [enD]
    rw [eln, List.drop_length, led] at el
    simp
    rw [← el]
    exact ⟨kq, er⟩
/-- how led_on ends -/
def LedX (h : Hm) (d : RX) (h' : Hm) : Sum Nat (Dt Fg) → Prop
  | .inl k => d = .ex "NoIndex" [("index", .int (k : Nat))]
  | .inr kvs => ∃ r, d = .ok (.ref r) ∧ h.length ≤ r ∧ h'[r]? = some (.lst ((srt kvs).map dPr))
theorem led_on_wp (M : MOk m K R E) (tk : ∀ r ∈ m.mvs, ∀ q, some q ∈ r → q.2.length ≤ 1000) {rf rr now : Nat} {figs : Dt Fg} {run : List Rt} (e1 : h[rf]? = some (.lst (figs.map dPr))) (e2 : h[rr]? = some (.lst (run.map dRt))) (kv : KvOk m figs) (ro : ∀ r ∈ run, RtOk m E r) (hl : figs.length + run.length ≤ 100000) :
    Wp (F_led_on [dMach m, .ref rf, .ref rr, .int (now : Nat)] h) fun d h' => Kq h h' ∧ LedX h d h' (led m figs run now 0) := by
  unfold F_led_on
  rw [w_runX, m_led_on]
  refine ws_cut fun Kc hK => ?_
  simp
  refine dcomp_ps (e := dFg) figs kv.2 (Nat.lt_of_le_of_lt (show figs.length ≤ 100000 by omega) (by decide)) ?_ ?_ ?_
  · simp [-getElem?_pos, List.getElem?_cons_zero, List.getElem?_cons_succ, e1]
    exact ⟨fun _ _ _ _ _ => rfl, fun h2 k2 => getL_lst (Kq.get k2 e1)⟩
  · intro p hp h2 k2
    simp [wipeL]
  intro h2 k2 ed
  refine hK _ _ (ws_cut fun Kc hK => ?_)
  have hlt := lt_of_some ed
  have e2' := Kq.get k2 e2
  have hrr := lt_of_some e2
  simp
  refine (p_led_wp M tk ed e2' (by omega) kv ro hl).imp ?_
  rintro d h3 ⟨k3, lr⟩
  have k13 : Kq h h3 := Kq.cutq k2 k3 (fun n e => by omega)
  cases el : led m figs run now 0 with
  | inl k =>
    rw [el] at lr
    subst lr
    refine hK _ _ (ws_cut fun Kc hK => ?_)
    simp
    rw [el]
    exact ⟨k13, rfl⟩
  | inr kvs =>
    rw [el] at lr
    obtain ⟨rfl, er⟩ := lr
    refine hK _ _ (ws_cut fun Kc hK => ?_)
    simp
    refine hK _ _ ?_
    have kv1 := led_ok M run figs kvs now 0 kv ro el
    have sz := led_len run figs kvs now 0 el
    simp only [w_sRet]
    refine comp_f (α := Pr) (fun p => dTh p.1) dPr (srt kvs) (size_ok (by rw [srt_len]; omega)) ?_ (fun p hp h2 k2 => ?_) (fun h2 r k2 hr e2 => ?_)
    · simp
      rw [thSK.sortedK (r := h.length) (xs := kvs.map (·.1)) er (keys_th dFg kvs)]
      simp [srt_keys, -List.map_map]
      exact ⟨by rw [List.map_map]; rfl, fun h2 _ k3 => getL_lst (Kq.get k3 (by simp)), Kp.app⟩
    · have er2 := Kq.get k2 er
      simp [wipeL, er2, tkey_th, dLook_th, look_of_mem kv1.2 (srt_mem.mp hp)]
      exact ⟨Kp.refl, size_ok (by decide), rfl, Kp.refl⟩
    · rw [retX_rt, el]
      exact ⟨k13.trans k2, r, rfl, Nat.le_trans k13.len hr, e2⟩
theorem figures_of_wp (M : MOk m K R E) (tk : ∀ r ∈ m.mvs, ∀ q, some q ∈ r → q.2.length ≤ 1000) {rr : Nat} {run : List Rt} (e2 : h[rr]? = some (.lst (run.map dRt))) (ro : ∀ r ∈ run, RtOk m E r) (hl : run.length ≤ 100000) :
    Wp (F_figures_of [dMach m, .ref rr] h) fun d h' => Kq h h' ∧ LedX h d h' (led m [] run 0 0) := by
  unfold F_figures_of
  rw [w_runX, m_figures_of]
  simp
  refine (led_on_wp (h := h ++ [.lst []]) (rf := h.length) (figs := []) (now := 0) M tk (by simp) (by rw [List.getElem?_append_left (lt_of_some e2)]; exact e2) ⟨by simp, by simp⟩ ro (by simpa using hl)).imp ?_
  rintro d h' ⟨k, r⟩
  have kk : Kq h h' := Kp.trans (Kq.app (Kp.refl (S := No))) k
  revert r
  cases led m [] run 0 0 with
  | inl k => intro r; subst r; exact ⟨kk, rfl⟩
  | inr kvs =>
    rintro ⟨r, rfl, hr, z⟩
    simp at hr
    exact ⟨kk, r, rfl, by omega, z⟩
end
end PA
set_option Elab.async false
set_option linter.all false
set_option maxRecDepth 100000
/-! PA.Rows: moments, later moments, rows. -/
namespace PA
open PySem PySem.Spec PyProof.Rows L2 DL
/-- things of different names have no moment in common -/
def TmD (kvs : Dt Fg) : Prop := ∀ p ∈ kvs, ∀ q ∈ kvs, ∀ t, t ∈ p.2.2 → t ∈ q.2.2 → p.1 = q.1
section
variable {m : Mach} {K R E : Nat} {kvs kvs' : Dt Fg} {x : Th}
theorem took_in {now t : Nat} {ts : List Nat} {tk : List (Option Nat)} (hk : ∀ k, some k ∈ tk → k < ts.length) (h : t ∈ took now ts tk) : t = now ∨ t ∈ ts := by
  unfold took at h
  obtain ⟨o, ho, rfl⟩ := List.mem_map.mp h
  cases o with
  | none => exact .inl rfl
  | some k =>
    refine .inr ?_
    simp [List.getD, List.getElem?_eq_getElem (hk k ho)]
/-- what a step does with the figures: each one is an old one, or that of x with old moments and now -/
theorem step_fig (M : MOk m K R E) (kv : KvOk m kvs) {d : Int} {now : Nat} (e : step m kvs d x now = some kvs') {p : Pr} (hp : p ∈ kvs') : p ∈ kvs ∨ (p.1 = x ∧ ∀ t ∈ p.2.2, t = now ∨ ∃ f, (x, f) ∈ kvs ∧ t ∈ f.2) := by
  unfold step at e
  split at e
  · split at e
    · cases e
    · cases e
      rcases put_mem hp with z | z
      · subst z
        exact .inr ⟨rfl, fun t ht => .inl (by simpa using ht)⟩
      · exact .inl z.1
  · split at e
    · cases e
    · rename_i f hf
      split at e
      · cases e
        exact .inl (drp_mem hp).1
      · split at e
        · rename_i q eq
          cases e
          rcases put_mem hp with z | z
          · subst z
            refine .inr ⟨rfl, fun t ht => ?_⟩
            obtain ⟨pt, h1, h2⟩ := kv.1 _ (look_mem hf)
            unfold mvAt at eq
            obtain ⟨r', e1, e2⟩ := Option.bind_eq_some_iff.mp eq
            obtain ⟨p', g1, g2, g3⟩ := M.mv _ _ _ e1 h1 q (List.mem_of_getElem? e2)
            rcases took_in (fun k hk => by rw [h2]; exact g3 k hk) ht with z | z
            · exact .inl z
            · exact .inr ⟨f, look_mem hf, z⟩
          · exact .inl z.1
        · cases e
theorem step_tmd (M : MOk m K R E) (kv : KvOk m kvs) {d : Int} {now : Nat} (T : TmOk kvs now) (D : TmD kvs) (e : step m kvs d x now = some kvs') : TmD kvs' := by
  intro p hp q hq t ht1 ht2
  rcases step_fig M kv e hp with hp | ⟨p1, p2⟩
  · rcases step_fig M kv e hq with hq | ⟨q1, q2⟩
    · exact D p hp q hq t ht1 ht2
    · rcases q2 t ht2 with z | ⟨f, hf, z⟩
      · have := T p hp t ht1; omega
      · rw [q1]; exact D p hp _ hf t ht1 z
  · rcases step_fig M kv e hq with hq | ⟨q1, q2⟩
    · rcases p2 t ht1 with z | ⟨f, hf, z⟩
      · have := T q hq t ht2; omega
      · rw [p1]; exact D _ hf q hq t z ht2
    · rw [p1, q1]
theorem led_tmd (M : MOk m K R E) : ∀ (run : List Rt) (kvs kvs' : Dt Fg) (now k : Nat), KvOk m kvs → (∀ r ∈ run, RtOk m E r) → TmOk kvs (now + k) → TmD kvs → led m kvs run now k = .inr kvs' → TmD kvs'
  | [], kvs, kvs', _, _, _, _, _, D, e => by cases e; exact D
  | r :: run, kvs, kvs', now, k, kv, ro, T, D, e => by
    simp only [led] at e
    split at e
    · cases e
    · rename_i a h1
      exact led_tmd M run a kvs' now (k + 1) (step_ok M kv (ro r (List.mem_cons_self ..)) h1) (fun q hq => ro q (List.mem_cons_of_mem _ hq)) (by have := step_tm T h1; exact this) (step_tmd M kv T D h1) e
/-! later moments -/
def mapF (φ : Nat → Nat) (p : Pr) : Pr := (p.1, (p.2.1, p.2.2.map φ))
theorem look_map (φ : Nat → Nat) (kvs : Dt Fg) : look (kvs.map (mapF φ)) x = (look kvs x).map fun f => (f.1, f.2.map φ) := by
  unfold look
  induction kvs with
  | nil => rfl
  | cons p r ih =>
    simp only [List.map_cons, List.find?_cons]
    by_cases z : p.1 = x
    · simp [mapF, z]
    · have h1 : decide ((mapF φ p).1 = x) = false := by simp [mapF, z]
      have h2 : decide (p.1 = x) = false := by simp [z]
      rw [h1, h2]
      exact ih
theorem put_map (φ : Nat → Nat) (kvs : Dt Fg) (f : Fg) : put (kvs.map (mapF φ)) x (f.1, f.2.map φ) = (put kvs x f).map (mapF φ) := by
  unfold put
  rw [look_map, Option.isSome_map]
  split
  · rw [List.map_map, List.map_map]
    refine List.map_congr_left fun p _ => ?_
    by_cases z : p.1 = x
    · simp [mapF, z]
    · simp [mapF, z]
  · simp [mapF]
theorem drp_map (φ : Nat → Nat) (kvs : Dt Fg) : drp (kvs.map (mapF φ)) x = (drp kvs x).map (mapF φ) := by
  unfold drp
  rw [List.filter_map]
  rfl
theorem took_map (φ : Nat → Nat) {now : Nat} {ts : List Nat} {tk : List (Option Nat)} (hk : ∀ k, some k ∈ tk → k < ts.length) : took (φ now) (ts.map φ) tk = (took now ts tk).map φ := by
  unfold took
  rw [List.map_map]
  refine List.map_congr_left fun o ho => ?_
  cases o with
  | none => rfl
  | some k =>
    have := hk k ho
    simp [List.getD, List.getElem?_eq_getElem this]
theorem step_map (M : MOk m K R E) (kv : KvOk m kvs) (φ : Nat → Nat) (d : Int) (now : Nat) : step m (kvs.map (mapF φ)) d x (φ now) = (step m kvs d x now).map fun k => k.map (mapF φ) := by
  unfold step
  rw [look_map]
  by_cases hd : d = 0
  · simp only [hd, if_true, Option.isSome_map]
    split
    · rfl
    · simp only [Option.map_some]
      rw [← put_map]
      rfl
  · simp only [hd, if_false]
    cases hl : look kvs x with
    | none => rfl
    | some f =>
      simp only [Option.map_some]
      split
      · simp [drp_map]
      · split
        · rename_i q eq
          simp only [eq, Option.map_some]
          rw [← put_map]
          obtain ⟨pt, h1, h2⟩ := kv.1 _ (look_mem hl)
          unfold mvAt at eq
          obtain ⟨r', e1, e2⟩ := Option.bind_eq_some_iff.mp eq
          obtain ⟨p', g1, g2, g3⟩ := M.mv _ _ _ e1 h1 q (List.mem_of_getElem? e2)
          rw [took_map φ (fun k hk => by rw [h2]; exact g3 k hk)]
        · rfl
theorem led_map (M : MOk m K R E) (near δ : Nat) : ∀ (run : List Rt) (kvs : Dt Fg) (k : Nat), KvOk m kvs → (∀ r ∈ run, RtOk m E r) →
    led m (kvs.map (mapF fun t => if t < near then t else t + δ)) run (near + δ) k = match led m kvs run near k with
      | .inl i => .inl i
      | .inr a => .inr (a.map (mapF fun t => if t < near then t else t + δ))
  | [], kvs, k, _, _ => rfl
  | r :: run, kvs, k, kv, ro => by
    simp only [led]
    have hs := step_map (x := r.2) M kv (fun t => if t < near then t else t + δ) r.1 (near + k)
    rw [if_neg (show ¬ near + k < near by omega), show near + k + δ = near + δ + k by omega] at hs
    rw [hs]
    cases h1 : step m kvs r.1 r.2 (near + k) with
    | none => rfl
    | some a =>
      simp only [Option.map_some]
      exact led_map M near δ run a (k + 1) (step_ok M kv (ro r (List.mem_cons_self ..)) h1) (fun q hq => ro q (List.mem_cons_of_mem _ hq))
theorem map_early {near δ : Nat} (T : TmOk kvs near) : kvs.map (mapF fun t => if t < near then t else t + δ) = kvs := by
  refine (List.map_congr_left fun p hp => ?_).trans (List.map_id _)
  show mapF _ p = p
  unfold mapF
  have : p.2.2.map (fun t => if t < near then t else t + δ) = p.2.2 := (List.map_congr_left fun t ht => by rw [if_pos (T p hp t ht)]; rfl).trans (List.map_id _)
  rw [this]
theorem srt_map (φ : Nat → Nat) (kvs : Dt Fg) : srt (kvs.map (mapF φ)) = (srt kvs).map (mapF φ) := (List.map_mergeSort (r := leBy fun p : Pr => kTh p.1) (s := leBy fun p : Pr => kTh p.1) (f := mapF φ) fun _ _ _ _ => rfl).symm
/-! rows -/
def place (m : Mach) (row : Nat) (f : Fg) : List Int :=
  match (m.pts[f.1]?).bind fun p => p.st[row]? with
  | some s => [(s.1 : Nat), if s.2.1 = true then -((f.2.getD s.2.2 0 : Nat) : Int) else ((f.2.getD s.2.2 0 : Nat) : Int)]
  | none => []
structure Pl (m : Mach) (row : Nat) (f : Fg) (pt : Pt) (s : Sd) (t : Nat) : Prop where
  pt_ : m.pts[f.1]? = some pt
  st : pt.st[row]? = some s
  tm : f.2[s.2.2]? = some t
theorem pl_mk (M : MOk m K R E) {row : Nat} (hr : row < R) {f : Fg} (ok : FgOk m f) : ∃ pt s t, Pl m row f pt s t := by
  obtain ⟨pt, h1, h2⟩ := ok
  have hp := List.mem_of_getElem? h1
  have e := List.getElem?_eq_getElem (l := pt.st) (i := row) (by rw [M.rows pt hp]; exact hr)
  have ha := M.at_ pt hp _ (List.getElem_mem (by rw [M.rows pt hp]; exact hr))
  exact ⟨pt, _, _, h1, e, List.getElem?_eq_getElem (by rw [h2]; exact ha)⟩
theorem Pl.place {row : Nat} {f : Fg} {pt : Pt} {s : Sd} {t : Nat} (p : Pl m row f pt s t) : place m row f = ([((s.1 : Nat) : Int), if s.2.1 = true then -((t : Nat) : Int) else ((t : Nat) : Int)] : List Int) := by
  unfold PA.place
  rw [p.pt_, Option.bind_some, p.st]
  simp [List.getD, p.tm]
theorem Pl.mem {row : Nat} {f : Fg} {pt : Pt} {s : Sd} {t : Nat} (p : Pl m row f pt s t) : t ∈ f.2 := List.mem_of_getElem? p.tm
/-- different things stand at different places -/
theorem place_inj (M : MOk m K R E) {row : Nat} (hr : row < R) (kv : KvOk m kvs) (D : TmD kvs) {p q : Pr} (hp : p ∈ kvs) (hq : q ∈ kvs) (e : place m row p.2 = place m row q.2) : p = q := by
  obtain ⟨pt, s, t, h1⟩ := pl_mk M hr (kv.1 p hp)
  obtain ⟨pt', s', t', h2⟩ := pl_mk M hr (kv.1 q hq)
  rw [h1.place, h2.place] at e
  simp only [List.cons.injEq, and_true] at e
  have es : s.1 = s'.1 := by have := e.1; omega
  have ew := M.way pt (List.mem_of_getElem? h1.pt_) pt' (List.mem_of_getElem? h2.pt_) row s s' h1.st h2.st es
  have et : t = t' := by
    have e2 := e.2
    rw [ew] at e2
    split at e2 <;> omega
  subst et
  have e1 := D p hp q hq t h1.mem h2.mem
  obtain ⟨p1, p2⟩ := p
  obtain ⟨q1, q2⟩ := q
  dsimp only at e1
  subst e1
  have l1 := look_of_mem kv.2 hp
  rw [look_of_mem kv.2 hq] at l1
  cases l1
  rfl
/-- the row by place, and by place and name: the same -/
def rowP (m : Mach) (row : Nat) (kvs : Dt Fg) : Dt Fg := kvs.mergeSort (leBy fun p => place m row p.2)
theorem lexI_pre (a b c d : List Int) (h : a.length = b.length) (e : lexI (a ++ c) (b ++ d) = true) : lexI a b = true := by
  induction a generalizing b with
  | nil => rfl
  | cons x r ih =>
    cases b with
    | nil => simp at h
    | cons y t =>
      rw [List.cons_append, List.cons_append, lexI_cons] at e
      rw [lexI_cons]
      rcases e with z | ⟨z, w⟩
      · exact .inl z
      · exact .inr ⟨z, ih t (by simpa using h) w⟩
theorem row_named (M : MOk m K R E) {row : Nat} (hr : row < R) (kv : KvOk m kvs) (D : TmD kvs) : (kvs.mergeSort (leBy fun p => place m row p.2 ++ kTh p.1)) = rowP m row kvs := by
  unfold rowP
  refine List.Perm.eq_of_pairwise (le := fun a b => leBy (fun p : Pr => place m row p.2) a b = true) (fun a b ha hb h1 h2 => ?_) ?_ (leBy_sorted _ _) ((List.mergeSort_perm _ _).trans (List.mergeSort_perm _ _).symm)
  · exact place_inj M hr kv D ((List.mergeSort_perm _ _).mem_iff.mp ha) ((List.mergeSort_perm _ _).mem_iff.mp hb) (lexI_anti _ _ h1 h2)
  · refine (leBy_sorted (fun p : Pr => place m row p.2 ++ kTh p.1) kvs).imp_of_mem fun {a b} ha hb h => ?_
    obtain ⟨pt, s, t, h1⟩ := pl_mk M hr (kv.1 a ((List.mergeSort_perm _ _).mem_iff.mp ha))
    obtain ⟨pt', s', t', h2⟩ := pl_mk M hr (kv.1 b ((List.mergeSort_perm _ _).mem_iff.mp hb))
    refine lexI_pre _ _ (kTh a.1) (kTh b.1) (by dsimp only; rw [h1.place, h2.place]; rfl) h
/-- the row of figures with later moments -/
theorem row_later (M : MOk m K R E) {row : Nat} (hr : row < R) (kv : KvOk m kvs) {φ : Nat → Nat} (hφ : ∀ a b, a < b → φ a < φ b) : rowP m row (kvs.map (mapF φ)) = (rowP m row kvs).map (mapF φ) := by
  unfold rowP
  refine (List.map_mergeSort fun a ha b hb => ?_).symm
  obtain ⟨pt, s, t, h1⟩ := pl_mk M hr (kv.1 a ha)
  obtain ⟨pt', s', t', h2⟩ := pl_mk M hr (kv.1 b hb)
  have h1' : Pl m row (mapF φ a).2 pt s (φ t) := ⟨h1.pt_, h1.st, by simp [mapF, h1.tm]⟩
  have h2' : Pl m row (mapF φ b).2 pt' s' (φ t') := ⟨h2.pt_, h2.st, by simp [mapF, h2.tm]⟩
  unfold leBy
  dsimp only
  rw [h1.place, h2.place, h1'.place, h2'.place]
  have hle : ∀ u v : Nat, φ u ≤ φ v ↔ u ≤ v := by
    intro u v
    rcases Nat.lt_trichotomy u v with z | z | z
    · have := hφ u v z; omega
    · subst z; simp
    · have := hφ v u z; omega
  by_cases es : s.1 = s'.1
  · have ew := M.way pt (List.mem_of_getElem? h1.pt_) pt' (List.mem_of_getElem? h2.pt_) row s s' h1.st h2.st es
    rw [es, ew]
    have g1 := hle t t'
    have g2 := hle t' t
    have eqv : ∀ a b c d : Int, (a ≤ b ↔ c ≤ d) → lexI [(s'.1 : Nat), a] [(s'.1 : Nat), b] = lexI [(s'.1 : Nat), c] [(s'.1 : Nat), d] := by
      intro a b c d h
      have key : ∀ u v : Int, lexI [(s'.1 : Nat), u] [(s'.1 : Nat), v] = true ↔ u ≤ v := by
        intro u v
        rw [lexI_cons, lexI_cons]
        simp [lexI]
        omega
      rw [Bool.eq_iff_iff, key, key]
      exact h
    split
    · exact eqv _ _ _ _ (by omega)
    · exact eqv _ _ _ _ (by omega)
  · have key : ∀ u v : Int, lexI [(s.1 : Nat), u] [(s'.1 : Nat), v] = decide ((s.1 : Int) < s'.1) := by
      intro u v
      have : ¬ ((s.1 : Int) = (s'.1 : Int)) := by omega
      simp [lexI, this]
    rw [key, key]
end
/-! the defs -/
section
variable {m : Mach} {K R E : Nat} {h : Hm} {Q : D → Hm → Prop} {kvs : Dt Fg} {row : Nat}
def dPl (m : Mach) (row : Nat) (f : Fg) : D := .tup ((place m row f).map .int)
theorem str_ne : (Str.ofString "earlier" = Str.ofString "later") = False := by decide +kernel
theorem way_later {b : Bool} : Wp (dEq (dWay b) (.str (Str.ofString "later")) h) Q ↔ Q (.bl b) h := by
  cases b
  · rw [dWay_f, w_dEq_str]
    simp [str_ne]
  · rw [dWay_t, w_dEq_str]
    simp
theorem key_wp {f : Fg} {pt : Pt} {s : Sd} {t : Nat} (p : Pl m row f pt s t) : Wp (F_l_key [dMach m, .int (row : Nat), dFg f] h) fun d h' => h' = h ∧ d = dPl m row f := by
  unfold F_l_key
  rw [w_runF, m_l_key]
  simp [-getElem?_pos, List.getElem?_cons_zero, List.getElem?_cons_succ, p.pt_, p.st, way_later, p.tm, dNat]
  unfold dPl
  rw [p.place]
  cases s.2.1
  · simp [size_ok]
  · simp [size_ok]
theorem place_by_wp {f : Fg} {pt : Pt} {s : Sd} {t : Nat} (p : Pl m row f pt s t) : Wp (F_place_by [dMach m, .int (row : Nat), dFg f] h) fun d h' => h' = h ∧ d = dPl m row f := by
  unfold F_place_by
  rw [w_runF, m_place_by]
  simp [-getElem?_pos, List.getElem?_cons_zero, List.getElem?_cons_succ, p.pt_, p.st, way_later, p.tm, dNat]
  unfold dPl
  rw [p.place]
  cases s.2.1
  · simp [size_ok]
  · simp [size_ok]
theorem sk2 : SK (fun q : Int × Int => D.tup [.int q.1, .int q.2]) (fun q => [q.1, q.2]) := ⟨fun x => rfl, fun x => ⟨_, _, rfl⟩, fun x y => rfl, fun x y => by simp only [pyp, pyps]; exact dle2, fun x => by simp [pyp, pyps, PyData.depth, PyData.depthAll]⟩
theorem sk4 : SK (fun q : (Int × Int) × Th => D.tup [.tup [.int q.1.1, .int q.1.2], dTh q.2]) (fun q => [q.1.1, q.1.2] ++ kTh q.2) := ⟨fun x => rfl, fun x => ⟨_, _, rfl⟩, fun x y => rfl, fun x y => by simp only [dTh, pyp, pyps, kTh]; exact dle4, fun x => by simp [dTh, pyp, pyps, PyData.depth, PyData.depthAll]⟩
def plP (m : Mach) (row : Nat) (f : Fg) : Int × Int := ((place m row f).getD 0 0, (place m row f).getD 1 0)
theorem plP_eq (M : MOk m K R E) (hr : row < R) {f : Fg} (ok : FgOk m f) : place m row f = [(plP m row f).1, (plP m row f).2] := by
  obtain ⟨pt, s, t, p⟩ := pl_mk M hr ok
  unfold plP
  rw [p.place]
  rfl
theorem dPl_eq (M : MOk m K R E) (hr : row < R) {f : Fg} (ok : FgOk m f) : dPl m row f = .tup [.int (plP m row f).1, .int (plP m row f).2] := by
  unfold dPl
  rw [plP_eq M hr ok]
  rfl
theorem row_wp (M : MOk m K R E) (hr : row < R) {rf : Nat} (e : h[rf]? = some (.lst (kvs.map dPr))) (kv : KvOk m kvs) (TD : TmD kvs) (hl : kvs.length ≤ 100000) :
    Wp (F_l_row [dMach m, .int (row : Nat), .ref rf] h) fun d h' => Kq h h' ∧ ∃ r, d = .ref r ∧ h.length ≤ r ∧ h'[r]? = some (.lst ((rowP m row kvs).map fun p => dTh p.1)) := by
  unfold F_l_row
  rw [w_runF, m_l_row]
  simp only [w_sRet]
  have sz : kvs.length ≤ sizeLine := Nat.le_trans hl (by decide)
  have hmem : ∀ p ∈ rowP m row kvs, p ∈ kvs := fun p hp => (List.mergeSort_perm _ _).mem_iff.mp hp
  have hlen : (rowP m row kvs).length = kvs.length := (List.mergeSort_perm _ _).length_eq
  refine comp_f (α := Pr) (fun p => .tup [dPl m row p.2, dTh p.1]) (fun p => dTh p.1) (rowP m row kvs) (by rw [hlen]; exact sz) ?_ (fun p hp h2 k2 => ?_) (fun h2 r k2 hr2 e2 => ?_)
  · simp
    refine comp_f (α := Pr) dPr (fun p => .tup [dPl m row p.2, dTh p.1]) kvs sz ?_ (fun p hp h2 k2 => ?_) (fun h2 r k2 hr2 e2 => ?_)
    · simp [-getElem?_pos, List.getElem?_cons_zero, List.getElem?_cons_succ, e]
      exact ⟨fun h2 k2 => getL_lst (Kq.get k2 e), Kp.refl⟩
    · obtain ⟨pt, s, t, pl⟩ := pl_mk M hr (kv.1 p hp)
      simp [wipeL]
      refine ⟨Kp.refl, (key_wp pl).imp ?_⟩
      rintro d h3 ⟨rfl, rfl⟩
      exact ⟨size_ok (by decide), rfl, Kp.refl⟩
    · have es : (kvs.map fun p : Pr => D.tup [dPl m row p.2, dTh p.1]) = (kvs.map fun p : Pr => (plP m row p.2, p.1)).map fun q : (Int × Int) × Th => D.tup [.tup [.int q.1.1, .int q.1.2], dTh q.2] := by
        rw [List.map_map]
        refine List.map_congr_left fun p hp => ?_
        simp only [Function.comp_apply, dPl_eq M hr (kv.1 p hp)]
      have e3 := e2
      rw [es] at e3
      rw [sk4.sorted e3]
      have em : ((kvs.map fun p : Pr => (plP m row p.2, p.1)).mergeSort (leBy fun q : (Int × Int) × Th => [q.1.1, q.1.2] ++ kTh q.2)) = (rowP m row kvs).map fun p : Pr => (plP m row p.2, p.1) := by
        rw [← row_named M hr kv TD]
        refine (List.map_mergeSort fun a ha b hb => ?_).symm
        show lexI (place m row a.2 ++ kTh a.1) (place m row b.2 ++ kTh b.1) = lexI ([(plP m row a.2).1, (plP m row a.2).2] ++ kTh a.1) ([(plP m row b.2).1, (plP m row b.2).2] ++ kTh b.1)
        rw [plP_eq M hr (kv.1 a ha), plP_eq M hr (kv.1 b hb)]
      rw [em]
      have ef : (((rowP m row kvs).map fun p : Pr => (plP m row p.2, p.1)).map fun q : (Int × Int) × Th => D.tup [.tup [.int q.1.1, .int q.1.2], dTh q.2]) = (rowP m row kvs).map fun p : Pr => D.tup [dPl m row p.2, dTh p.1] := by
        rw [List.map_map]
        refine List.map_congr_left fun p hp => ?_
        simp only [Function.comp_apply, dPl_eq M hr (kv.1 p (hmem p hp))]
      rw [ef]
      simp
      exact ⟨fun h3 _ k3 => getL_lst (Kq.get k3 (by simp)), Kq.app k2⟩
  · simp [wipeL, Kp.refl]
  · exact ⟨k2, r, rfl, hr2, e2⟩
theorem keyGo_f {α : Type} {mb : ME} {j : Nat} {δ : Lo} (ι κ : α → D) : ∀ (xs : List α), (∀ x ∈ xs, mb (δ.set j (some (ι x))) h = some (κ x, h)) → keyGo mb j δ (xs.map ι) h = some (xs.map κ, h)
  | [], _ => rfl
  | x :: xs, hx => by
    simp only [List.map_cons, keyGo, hx x (List.mem_cons_self ..), Option.bind_some]
    rw [keyGo_f ι κ xs fun y hy => hx y (List.mem_cons_of_mem _ hy)]
    rfl
theorem row_by_wp (M : MOk m K R E) (hr : row < R) {rf : Nat} (e : h[rf]? = some (.lst (kvs.map dPr))) (kv : KvOk m kvs) (hl : kvs.length ≤ 100000) :
    Wp (F_row_by [dMach m, .int (row : Nat), .ref rf] h) fun d h' => Kq h h' ∧ ∃ r, d = .ref r ∧ h.length ≤ r ∧ h'[r]? = some (.lst ((rowP m row kvs).map fun p => dTh p.1)) := by
  unfold F_row_by
  rw [w_runF, m_row_by]
  simp only [w_sRet]
  have sz : kvs.length ≤ sizeLine := Nat.le_trans hl (by decide)
  have hmem : ∀ p ∈ rowP m row kvs, p ∈ kvs := fun p hp => (List.mergeSort_perm _ _).mem_iff.mp hp
  have hlen : (rowP m row kvs).length = kvs.length := (List.mergeSort_perm _ _).length_eq
  refine comp_f (α := Pr) dPr (fun p => dTh p.1) (rowP m row kvs) (by rw [hlen]; exact sz) ?_ (fun p hp h2 k2 => ?_) (fun h2 r k2 hr2 e2 => ?_)
  · rw [w_iSeq]
    have hk := keyGo_f (h := h) (mb := mCall F_place_by (aCons (mVar 0) (aCons (mVar 1) (aCons (m2 dIxA (mVar 5) (mC (.int 1))) aNil)))) (j := 5) (δ := [some (dMach m), some (.int (row : Nat)), some (.ref rf), none, none, none]) dPr (fun p => dPl m row p.2) kvs (by
      intro p hp
      obtain ⟨pt, s, t, pl⟩ := pl_mk M hr (kv.1 p hp)
      have w : Wp (mCall F_place_by (aCons (mVar 0) (aCons (mVar 1) (aCons (m2 dIxA (mVar 5) (mC (.int 1))) aNil))) (([some (dMach m), some (.int (row : Nat)), some (.ref rf), none, none, none] : Lo).set 5 (some (dPr p))) h) fun d h' => h' = h ∧ d = dPl m row p.2 := by
        simp
        exact place_by_wp pl
      obtain ⟨d, h', e1, rfl, rfl⟩ := w
      exact e1)
    have es : (kvs.map fun p : Pr => dPl m row p.2) = (kvs.map fun p : Pr => plP m row p.2).map fun q : Int × Int => D.tup [.int q.1, .int q.2] := by
      rw [List.map_map]
      refine List.map_congr_left fun p hp => ?_
      simp only [Function.comp_apply, dPl_eq M hr (kv.1 p hp)]
    have so : SortOk h (kvs.map fun p : Pr => dPl m row p.2) := by rw [es]; exact sk2.sortOk
    have eb : sortBy h (kvs.map fun p : Pr => dPl m row p.2) (kvs.map dPr) = (rowP m row kvs).map dPr := by
      unfold sortBy
      rw [List.zip_map']
      have : ((kvs.map fun a : Pr => (dPl m row a.2, dPr a)).mergeSort (PySem.W.dataLe false fun q : D × D => DL.encD h q.1)) = (rowP m row kvs).map fun a : Pr => (dPl m row a.2, dPr a) := by
        refine (List.map_mergeSort fun a ha b hb => ?_).symm
        show lexI (place m row a.2) (place m row b.2) = PySem.W.dataLe false (fun p : PyData => p) (DL.encD h (dPl m row a.2)) (DL.encD h (dPl m row b.2))
        rw [dPl_eq M hr (kv.1 a ha), dPl_eq M hr (kv.1 b hb), plP_eq M hr (kv.1 a ha), plP_eq M hr (kv.1 b hb)]
        have l := sk2.le (plP m row a.2) (plP m row b.2)
        have x := sk2.enc (h := h) (plP m row a.2)
        have y := sk2.enc (h := h) (plP m row b.2)
        try dsimp only at l
        try dsimp only at x
        try dsimp only at y
        rw [x, y, l]
      rw [this, List.map_map]
      rfl
    refine ⟨.ref h.length, h ++ [.lst ((rowP m row kvs).map dPr)], ?_, ?_⟩
    · simp only [mSortKey, mVar, List.map_cons, List.map_nil, List.length_cons, List.length_nil, List.cons_append, List.nil_append, List.getElem?_cons_succ, List.getElem?_cons_zero, Option.bind_some, getL_lst e]
      have hk' := hk
      simp only [List.replicate] at hk' ⊢
      rw [hk']
      simp only [Option.bind_some, if_pos so, eb, newL]
    · simp
      exact ⟨fun h3 _ k3 => getL_lst (Kq.get k3 (by simp)), Kp.app⟩
  · simp [wipeL, Kp.refl]
  · exact ⟨k2, r, rfl, hr2, e2⟩
end
end PA
set_option Elab.async false
set_option linter.all false
set_option maxRecDepth 100000
/-! PA.Fig: figures and runs as data that is compared and shown. -/
namespace PA
open PySem PySem.Spec PyProof.Rows L2 DL
def pPr (p : Pr) : PyData := pyp (dPr p)
theorem pok_pr (p : Pr) : pok 3 (dPr p) = true := by
  have : poks 0 (p.2.2.map dNat) = true := poks_of fun d hd => by obtain ⟨x, _, rfl⟩ := List.mem_map.mp hd; rfl
  simp [dPr, dFg, dTh, pok, poks, this]
/-- a figure of small numbers -/
def FgS (p : Pr) : Prop := ThS p.1 ∧ p.2.1 ≤ 999999999 ∧ p.2.2.length ≤ 3 ∧ ∀ t ∈ p.2.2, t ≤ 999999999
theorem sm_pr {p : Pr} (s : FgS p) : Sm 3 700 (pPr p) := by
  obtain ⟨s1, s2, s3, s4⟩ := s
  have h1 : Sm 2 300 (pyp (dTh p.1)) := by rw [pyp_th]; exact (sm_th s1).mono (by decide) (by decide)
  have ht : Sm 1 123 (.tuple (pyps (p.2.2.map dNat))) := by
    rw [pyps_map]
    refine (Sm.tuple (n := 0) (w := 40) (fun q hq => ?_)).mono (by decide) (by rw [List.length_map]; omega)
    obtain ⟨t, ht, rfl⟩ := List.mem_map.mp hq
    have := s4 t ht
    exact Sm.int (by omega) (by omega)
  have h2 : Sm 2 300 (pyp (dFg p.2)) := by
    simp only [dFg, pyp, pyps]
    refine (Sm.tuple (n := 1) (w := 123) (ps := [.int (p.2.1 : Nat), .tuple (pyps (p.2.2.map dNat))]) fun q hq => ?_).mono (by decide) (by simp)
    rcases List.mem_cons.mp hq with rfl | hq
    · exact (Sm.int (by omega) (by omega)).mono (Nat.zero_le _) (by decide)
    · rw [List.mem_singleton] at hq
      subst hq
      exact ht
  unfold pPr
  simp only [dPr, pyp, pyps]
  refine (Sm.tuple (n := 2) (w := 300) (ps := [pyp (dTh p.1), pyp (dFg p.2)]) fun q hq => ?_).mono (by decide) (by simp)
  rcases List.mem_cons.mp hq with rfl | hq
  · exact h1
  · rw [List.mem_singleton] at hq
    subst hq
    exact h2
section
variable {h : Hm} {r : Nat} {ps : Dt Fg}
theorem py_figs {k : Nat} (hk : 4 < k) (e : h[r]? = some (.lst (ps.map dPr))) : py h k (.ref r) = some (.list (ps.map pPr)) := by
  rw [py_lst e (n := 3) (fun d hd => by obtain ⟨x, _, rfl⟩ := List.mem_map.mp hd; exact pok_pr x) hk, pyps_map]
  rfl
theorem sm_figs (s : ∀ p ∈ ps, FgS p) (hl : ps.length ≤ 1000) : Sm 4 701000 (.list (ps.map pPr)) := by
  refine (Sm.list (n := 3) (w := 700) fun q hq => ?_).mono (by decide) (by rw [List.length_map]; omega)
  obtain ⟨p, hp, rfl⟩ := List.mem_map.mp hq
  exact sm_pr (s p hp)
def pTold (ps : Dt Fg) : PyData := .tuple [.str (Str.ofString "told"), .list (ps.map pPr)]
theorem py_told (e : h[r]? = some (.lst (ps.map dPr))) : py h deepest (.tup [.str (Str.ofString "told"), .ref r]) = some (pTold ps) := by
  have e1 := py_figs (k := 65) (by decide) e
  have a : allM (py h 65) [.str (Str.ofString "told"), .ref r] = some [.str (Str.ofString "told"), .list (ps.map pPr)] := by
    simp only [allM]
    rw [e1]
    rfl
  show (allM (py h 65) [.str (Str.ofString "told"), .ref r]).map PyData.tuple = _
  rw [a]
  rfl
theorem sm_told (s : ∀ p ∈ ps, FgS p) (hl : ps.length ≤ 500) : Sm 5 702000 (pTold ps) := by
  have h1 := Sm.list (n := 3) (w := 700) (ps := ps.map pPr) fun q hq => by
    obtain ⟨p, hp, rfl⟩ := List.mem_map.mp hq
    exact sm_pr (s p hp)
  refine (Sm.tuple (n := 4) (w := 350500) (ps := [.str (Str.ofString "told"), .list (ps.map pPr)]) fun q hq => ?_).mono (by decide) (by simp)
  rcases List.mem_cons.mp hq with rfl | hq
  · exact (Sm.str (n := 4) (x := Str.ofString "told") (by decide +kernel)).mono (by decide) (by decide +kernel)
  · rw [List.mem_singleton] at hq
    subst hq
    exact h1.mono (by decide) (by rw [List.length_map]; omega)
def pRt (q : Rt) : PyData := pyp (dRt q)
theorem pok_rt (q : Rt) : pok 2 (dRt q) = true := rfl
def RtS (q : Rt) : Prop := (-999999999 ≤ q.1 ∧ q.1 ≤ 999999999) ∧ ThS q.2
theorem sm_rt {q : Rt} (s : RtS q) : Sm 2 300 (pRt q) := by
  unfold pRt
  simp only [dRt, pyp, pyps, pyp_th]
  refine (Sm.tuple (n := 1) (w := 82) (ps := [.int q.1, pTh q.2]) fun z hz => ?_).mono (by decide) (by simp)
  rcases List.mem_cons.mp hz with rfl | hz
  · exact (Sm.int (by have := s.1.1; omega) (by have := s.1.2; omega)).mono (Nat.zero_le _) (by decide)
  · rw [List.mem_singleton] at hz
    subst hz
    exact sm_th s.2
theorem py_run {run : List Rt} (e : h[r]? = some (.lst (run.map dRt))) : py h deepest (.ref r) = some (.list (run.map pRt)) := by
  rw [py_lst e (n := 2) (fun d hd => by obtain ⟨x, _, rfl⟩ := List.mem_map.mp hd; exact pok_rt x) (by decide), pyps_map]
  rfl
theorem sm_run {run : List Rt} (s : ∀ q ∈ run, RtS q) (hl : run.length ≤ 1000) : Sm 3 301000 (.list (run.map pRt)) := by
  refine (Sm.list (n := 2) (w := 300) fun q hq => ?_).mono (by decide) (by rw [List.length_map]; omega)
  obtain ⟨p, hp, rfl⟩ := List.mem_map.mp hq
  exact sm_rt (s p hp)
end
/-! who is there -/
section
variable {m : Mach} {K R E : Nat} {kvs kvs' : Dt Fg}
theorem step_th {d : Int} {x : Th} {now : Nat} (e : step m kvs d x now = some kvs') {p : Pr} (hp : p ∈ kvs') : p.1 = x ∨ p ∈ kvs := by
  unfold step at e
  split at e
  · split at e
    · cases e
    · cases e
      rcases put_mem hp with z | z
      · subst z; exact .inl rfl
      · exact .inr z.1
  · split at e
    · cases e
    · split at e
      · cases e; exact .inr (drp_mem hp).1
      · split at e
        · cases e
          rcases put_mem hp with z | z
          · subst z; exact .inl rfl
          · exact .inr z.1
        · cases e
theorem led_th (P : Th → Prop) : ∀ (run : List Rt) (kvs kvs' : Dt Fg) (now k : Nat), (∀ p ∈ kvs, P p.1) → (∀ r ∈ run, P r.2) → led m kvs run now k = .inr kvs' → ∀ p ∈ kvs', P p.1
  | [], kvs, kvs', _, _, h, _, e => by cases e; exact h
  | r :: run, kvs, kvs', now, k, h, hr, e => by
    simp only [led] at e
    split at e
    · cases e
    · rename_i a h1
      refine led_th P run a kvs' now (k + 1) (fun p hp => ?_) (fun q hq => hr q (List.mem_cons_of_mem _ hq)) e
      rcases step_th h1 hp with z | z
      · rw [z]; exact hr r (List.mem_cons_self ..)
      · exact h p z
/-- all that is asked of figures to compare and show them -/
structure Fine (m : Mach) (N B : Nat) (kvs : Dt Fg) : Prop where
  ok : KvOk m kvs
  th : ∀ p ∈ kvs, ThS p.1
  tm : TmOk kvs B
  td : TmD kvs
  len : kvs.length ≤ N
theorem Fine.figs {N B : Nat} {M : MOk m K R E} (f : Fine m N B kvs) (hB : B ≤ 1000000000) (hp : m.pts.length ≤ 1000) : ∀ p ∈ kvs, FgS p := by
  intro p hpk
  obtain ⟨pt, h1, h2⟩ := f.ok.1 p hpk
  have := (M.live pt (List.mem_of_getElem? h1)).2
  have := lt_of_some h1
  exact ⟨f.th p hpk, by omega, by omega, fun t ht => by have := f.tm p hpk t ht; omega⟩
theorem Fine.srt {N B : Nat} (f : Fine m N B kvs) : Fine m N B (srt kvs) := ⟨srt_ok f.ok, fun p hp => f.th p (srt_mem.mp hp), fun p hp => f.tm p (srt_mem.mp hp), fun p hp q hq => f.td p (srt_mem.mp hp) q (srt_mem.mp hq), by rw [srt_len]; exact f.len⟩
theorem Fine.led (M : MOk m K R E) {N : Nat} {run : List Rt} {now k : Nat} (f : Fine m N (now + k) kvs) (ro : ∀ r ∈ run, RtOk m E r ∧ ThS r.2) (e : led m kvs run now k = .inr kvs') : Fine m (N + run.length) (now + k + run.length) kvs' :=
  ⟨led_ok M run kvs kvs' now k f.ok (fun r hr => (ro r hr).1) e, led_th ThS run kvs kvs' now k f.th (fun r hr => (ro r hr).2) e, led_tm run kvs kvs' now k f.tm e, led_tmd M run kvs kvs' now k f.ok (fun r hr => (ro r hr).1) f.tm f.td e, by have := led_len run kvs kvs' now k e; have := f.len; omega⟩
theorem Fine.nil : Fine m 0 0 [] := ⟨⟨by simp, by simp⟩, by simp, (fun p hp => by cases hp), (fun p hp => by cases hp), Nat.le_refl _⟩
end
end PA
set_option Elab.async false
set_option linter.all false
set_option maxRecDepth 100000
/-! PA.MoreM: further defs of ownmoment/machines.py, and of laws over drawn machines. -/
namespace PA
open PySem PySem.Spec PyProof.Rows L2 DL
section
variable {δ : Lo} {h : Hm} {Q : D → Hm → Prop} {xs ys : List D}
@[simp] theorem w_dct0 : Wp (mDct0 δ h) Q ↔ Q (.ref h.length) (h ++ [.dct []]) := by simp [mDct0, newK]
theorem intsD_map (ns : List Int) : intsD (ns.map D.int) = some ns := by
  induction ns with
  | nil => rfl
  | cons n r ih => simp [intsD, ih]
theorem w_ltA_tup {ns ms : List Int} : Wp (dLtA (.tup (ns.map D.int)) (.tup (ms.map D.int)) h) Q ↔ Q (.bl (HT.lexLt ns ms)) h := by
  simp [dLtA, intsD_map]
end
theorem fok_wp {F : FDX} {ds : List D} {h : Hm} {Q : D → Hm → Prop} (w : Wp (F ds h) (okX Q fun _ _ _ => False)) : Wp (okF F ds h) Q := by
  obtain ⟨r, h', e, q⟩ := w
  cases r with
  | ok d => exact ⟨d, h', by simp [okF, e], q⟩
  | ex c fs => exact q.elim
section
variable {m : Mach} {K R E : Nat} {h : Hm} {Q : D → Hm → Prop} {row : Nat}
theorem kinds_wp : Wp (F_machine_kinds [dMach m] h) Q ↔ Q (.int (m.begins.length : Nat)) h := by
  unfold F_machine_kinds
  rw [w_runF, m_machine_kinds]
  simp
theorem deeds_wp {r : List Mv} (e : m.mvs[0]? = some r) : Wp (F_machine_deeds [dMach m] h) Q ↔ Q (.int ((r.length : Nat) + 1)) h := by
  unfold F_machine_deeds
  rw [w_runF, m_machine_deeds]
  simp [e, dMvs]
theorem rows_wp {p : Pt} (e : m.pts[0]? = some p) : Wp (F_machine_rows [dMach m] h) Q ↔ Q (.int (p.st.length : Nat)) h := by
  unfold F_machine_rows
  rw [w_runF, m_machine_rows]
  simp [e]
theorem first_barred_wp (M : MOk m K R E) (tk : ∀ r ∈ m.mvs, ∀ q, some q ∈ r → q.2.length ≤ 1000) {rr : Nat} {run : List Rt} (e2 : h[rr]? = some (.lst (run.map dRt))) (ro : ∀ r ∈ run, RtOk m E r) (hl : run.length ≤ 100000) :
    Wp (F_first_barred [dMach m, .ref rr] h) fun d h' => Kq h h' ∧ d = match led m [] run 0 0 with | .inl k => .int (k : Nat) | .inr _ => .non := by
  unfold F_first_barred
  rw [w_runF, m_first_barred]
  simp
  have hrr := lt_of_some e2
  have w := p_led_wp (h := h ++ [.dct []]) (T := h.length) (rr := rr) (now := 0) (figs := []) (run := run) M tk (by simp) (by rw [List.getElem?_append_left hrr]; exact e2) (by omega) ⟨by simp, by simp⟩ ro (by simpa using hl)
  refine w.imp ?_
  rintro d h' ⟨k, l⟩
  refine ⟨Kq.cutq (Kq.app (Kp.refl (S := No))) k (fun n e => by omega), ?_⟩
  revert l
  cases led m [] run 0 0 with
  | inl i => exact fun l => l
  | inr kvs => exact fun l => l.1
theorem barred_at_wp (M : MOk m K R E) (hE : E ≤ 1000) (tk : ∀ r ∈ m.mvs, ∀ q, some q ∈ r → q.2.length ≤ 1000) {rr : Nat} {run : List Rt} (e2 : h[rr]? = some (.lst (run.map dRt))) (ro : ∀ r ∈ run, RtOk m E r) (hl : run.length ≤ 100000) :
    Wp (F_l_barred_at [dMach m, .ref rr] h) fun d h' => Kq h h' ∧ d = match led m [] run 0 0 with | .inl k => .int (k : Nat) | .inr _ => .non := by
  unfold F_l_barred_at
  rw [w_runF, m_l_barred_at]
  refine ws_cut fun Kc hK => ?_
  simp
  have hrr := lt_of_some e2
  have w := led_wp (h := h ++ [.lst []]) (rf := h.length) (rr := rr) (now := 0) (figs := []) (run := run) M hE (by simp) (by rw [List.getElem?_append_left hrr]; exact e2) ⟨by simp, by simp⟩ ro (by simpa using hl) tk
  refine w.imp ?_
  rintro d h' ⟨k, l⟩
  have kk : Kq h h' := Kp.trans (Kq.app (Kp.refl (S := No))) k
  refine hK _ _ ?_
  cases el : led m [] run 0 0 with
  | inl i =>
    rw [el] at l
    cases l
    have : fIsi [.int (i : Nat), .ty "int"] h' = some (.bl true, h') := rfl
    simp [this, dTru]
    exact kk
  | inr kvs =>
    rw [el] at l
    obtain ⟨r, rfl, hr, e⟩ := l
    have : fIsi [.ref r, .ty "int"] h' = some (.bl false, h') := by
      simp only [fIsi, tyD, getL_lst e, Option.map_some, Option.bind_some]
      rfl
    simp [this, dTru]
    exact kk
theorem ahead_by_wp {f g : Fg} {pt pt' : Pt} {s s' : Sd} {t t' : Nat} (p : Pl m row f pt s t) (q : Pl m row g pt' s' t') : Wp (F_is_ahead_by [dMach m, .int (row : Nat), dFg f, dFg g] h) fun d h' => h' = h ∧ d = .bl (HT.lexLt (place m row f) (place m row g)) := by
  unfold F_is_ahead_by
  rw [w_runF, m_is_ahead_by]
  simp
  refine (place_by_wp p).imp ?_
  rintro d h1 ⟨rfl, rfl⟩
  refine (place_by_wp q).imp ?_
  rintro d h2 ⟨rfl, rfl⟩
  rw [dPl, dPl, w_ltA_tup]
  exact ⟨rfl, rfl⟩
theorem l_ahead_wp {f g : Fg} {pt pt' : Pt} {s s' : Sd} {t t' : Nat} (p : Pl m row f pt s t) (q : Pl m row g pt' s' t') : Wp (F_l_ahead [dMach m, .int (row : Nat), dFg f, dFg g] h) fun d h' => h' = h ∧ d = .bl (HT.lexLt (place m row f) (place m row g)) := by
  unfold F_l_ahead
  rw [w_runF, m_l_ahead]
  simp
  refine (key_wp p).imp ?_
  rintro d h1 ⟨rfl, rfl⟩
  refine (key_wp q).imp ?_
  rintro d h2 ⟨rfl, rfl⟩
  rw [dPl, dPl, w_ltA_tup]
  exact ⟨rfl, rfl⟩
/-- a machine's one row -/
def rowPt (row : Nat) (p : Pt) : Pt := ⟨[p.st.getD row (0, true, 0)], p.live, none⟩
def rowM (m : Mach) (row : Nat) : Mach := ⟨m.begins, m.pts.map (rowPt row), m.mvs⟩
theorem rowM_d (m : Mach) (row : Nat) : dMach (rowM m row) = .tup [.tup (m.begins.map dNat), .tup (m.pts.map fun p => dPt (rowPt row p)), .tup (m.mvs.map dMvs)] := by
  unfold dMach rowM
  rw [List.map_map]
  rfl
theorem row_machine_wp (hr : ∀ p ∈ m.pts, row < p.st.length) (hl : m.pts.length ≤ 100000) : Wp (F_row_machine [dMach m, .int (row : Nat)] h) fun d h' => Kq h h' ∧ d = dMach (rowM m row) := by
  unfold F_row_machine
  rw [w_runF, m_row_machine]
  refine ws_cut fun Kc hK => ?_
  simp [dMach]
  refine hK _ _ ?_
  simp
  refine comp_f dPt (fun p => dPt (rowPt row p)) m.pts (Nat.le_trans hl (by decide)) ?_ (fun p hp h2 k2 => ?_) (fun h2 r k2 hr2 e2 => ?_)
  · simp [Kp.refl]
  · have e := List.getElem?_eq_getElem (hr p hp)
    simp [wipeL, dPt, e, Kp.refl, rowPt, List.getD, dLab]
    exact ⟨size_ok (by decide), size_ok (by decide)⟩
  · simp [e2]
    have := rowM_d m row
    unfold dMach at this ⊢
    rw [this]
    exact ⟨size_ok (by decide), k2, rfl⟩
theorem of_row_wp (hr : ∀ p ∈ m.pts, row < p.st.length) (hl : m.pts.length ≤ 100000) : Wp (F_l_of_row [dMach m, .int (row : Nat)] h) fun d h' => Kq h h' ∧ d = dMach (rowM m row) := by
  unfold F_l_of_row
  rw [w_runF, m_l_of_row]
  refine ws_cut fun Kc hK => ?_
  simp
  refine comp_f dPt (fun p => dPt (rowPt row p)) m.pts (Nat.le_trans hl (by decide)) ?_ (fun p hp h2 k2 => ?_) (fun h2 r k2 hr2 e2 => ?_)
  · simp [Kp.refl]
  · have e := List.getElem?_eq_getElem (hr p hp)
    simp [wipeL, e, Kp.refl, rowPt, List.getD, dLab]
    exact ⟨size_ok (by decide), size_ok (by decide), rfl⟩
  · simp [e2]
    refine hK _ _ ?_
    simp
    rw [rowM_d]
    exact ⟨size_ok (by decide), k2, rfl⟩
/-- the point behind a past -/
def pbGo (m : Mach) : Nat → List Nat → Option Nat
  | p, [] => some p
  | p, d :: r => match mvAt m p (d - 1) with
    | some (some q) => pbGo m q.1 r
    | _ => none
theorem pbGo_snoc (m : Mach) : ∀ (ps : List Nat) (p d : Nat), pbGo m p (ps ++ [d]) = (pbGo m p ps).bind fun q => pbGo m q [d]
  | [], p, d => by simp [pbGo]
  | e :: r, p, d => by
    simp only [List.cons_append, pbGo]
    cases mvAt m p (e - 1) with
    | none => rfl
    | some o =>
      cases o with
      | none => rfl
      | some q => exact pbGo_snoc m r q.1 d
def dO : Option Nat → D
  | none => .non
  | some n => .int (n : Nat)
theorem point_behind_wp (M : MOk m K R E) {kind : Nat} {b : Nat} (ek : m.begins[kind]? = some b) {ps : List Nat} (hp : ∀ d ∈ ps, 1 ≤ d ∧ d ≤ E) :
    Wp (F_point_behind [dMach m, .int (kind : Nat), .tup (ps.map dNat)] h) fun d h' => h' = h ∧ d = dO (pbGo m b ps) := by
  unfold F_point_behind
  rw [w_runF, m_point_behind]
  refine ws_cut fun Kc hK => ?_
  simp [ek, dNat]
  refine hK _ _ (ws_cut fun Kc hK => ?_)
  simp
  have key : ∀ (i : Nat), ps.length ≤ 1000000 → True := fun _ _ => trivial
  refine for_inv (fun i δ h1 => ∃ p x4 x5, δ = [some (dMach m), some (.int (kind : Nat)), some (.tup (ps.map dNat)), some (.int (p : Nat)), x4, x5] ∧ h1 = h ∧ (∃ pt, m.pts[p]? = some pt) ∧ pbGo m p (ps.drop i) = pbGo m b ps) _ ⟨b, none, none, rfl, rfl, ?_, by simp⟩ ?_ ?_
  · obtain ⟨pt, e, _⟩ := M.beg b (List.mem_of_getElem? ek)
    exact ⟨pt, e⟩
  · rintro i d δ h1 hd ⟨p, x4, x5, rfl, rfl, ⟨pt, ept⟩, ep⟩
    refine ⟨trivial, ?_⟩
    have hd' : (ps.map dNat)[i]? = some d := by simpa [dNat] using hd
    rw [List.getElem?_map, Option.map_eq_some_iff] at hd'
    obtain ⟨n, en, rfl⟩ := hd'
    have hil := lt_of_some en
    obtain ⟨hn1, hn2⟩ := hp n (List.mem_of_getElem? en)
    obtain ⟨o, ho, r', hr1, hr2⟩ := mvAt_some M ept (k := n - 1) (by omega)
    have edr : ps.drop i = n :: ps.drop (i + 1) := by
      rw [List.drop_eq_getElem_cons hil]
      congr 1
      rw [List.getElem?_eq_getElem hil] at en
      exact Option.some.inj en
    rw [edr, pbGo, ho] at ep
    have e1 : ((n : Int) - 1) = ((n - 1 : Nat) : Int) := by omega
    rw [w_gN]
    simp only [List.set_cons_succ, List.set_cons_zero]
    refine ws_cut fun Kc' hK' => ?_
    simp [dNat, hr1, dMvs]
    rw [e1]
    simp [hr2]
    refine hK' _ _ ?_
    cases o with
    | none =>
      refine ws_cut fun Kc2 hK2 => ?_
      simp [dMv]
      rw [← ep]
      rfl
    | some q =>
      refine ws_cut fun Kc2 hK2 => ?_
      simp [dMv]
      refine hK2 _ _ ?_
      simp
      obtain ⟨p', g1, _⟩ := M.mv _ _ _ hr1 ept q (List.mem_of_getElem? hr2)
      exact ⟨q.1, rfl, ⟨p', g1⟩, ep⟩
  · rintro δ h1 ⟨p, x4, x5, rfl, rfl, _, ep⟩
    refine ⟨trivial, hK _ _ ?_⟩
    simp
    rw [List.length_map, List.drop_length, pbGo] at ep
    rw [← ep]
    rfl
/-! comparing small answers -/
theorem alike_int {i : Int} (h1 : -999999999999 ≤ i) (h2 : i ≤ 999999999999) : Wp (F_l_alike [.int i, .int i] h) fun d h' => d = .bl true ∧ h' = h := by
  unfold F_l_alike
  rw [w_runF, m_l_alike]
  have e : py h deepest (.int i) = some (.int i) := rfl
  simp [w_repr_sm e (Sm.int (n := 0) h1 h2) (by decide) (by decide)]
theorem alike_bl {b : Bool} : Wp (F_l_alike [.bl b, .bl b] h) fun d h' => d = .bl true ∧ h' = h := by
  unfold F_l_alike
  rw [w_runF, m_l_alike]
  have e : py h deepest (.bl b) = some (.bool b) := rfl
  simp [w_repr_sm e (Sm.bool (n := 0) (w := 0)) (by decide) (by decide)]
theorem alike_non : Wp (F_l_alike [.non, .non] h) fun d h' => d = .bl true ∧ h' = h := by
  unfold F_l_alike
  rw [w_runF, m_l_alike]
  have e : py h deepest .non = some .none := rfl
  simp [w_repr_sm e (Sm.none (n := 0) (w := 0)) (by decide) (by decide)]
theorem alike_o {o : Option Nat} (ho : ∀ n, o = some n → n ≤ 999999999) : Wp (F_l_alike [dO o, dO o] h) fun d h' => d = .bl true ∧ h' = h := by
  cases o with
  | none => exact alike_non
  | some n => exact alike_int (by have := ho n rfl; omega) (by have := ho n rfl; omega)
end
end PA
set_option Elab.async false
set_option linter.all false
set_option maxRecDepth 100000
/-! K35A: drawn pasts, bent runs, rows. -/
namespace K35
open PySem PySem.Spec PyProof.Rows L2 DL PA
section
variable {m : Mach} {K R E : Nat} {h : Hm} {Q : D → Hm → Prop}
theorem w_ne_nil {r q : Nat} {xs : List Int} (e : h[r]? = some (.lst (xs.map D.int))) (e2 : h[q]? = some (.lst [])) (s : ∀ x ∈ xs, -999999999999 ≤ x ∧ x ≤ 999999999999) : Wp (dNe (.ref r) (.ref q) h) Q ↔ Q (.bl (!decide (xs = []))) h := by
  rw [w_dNe_g rfl (py_ints e) (py_ints (xs := []) e2) ((sm_ints s).shaped (by decide)) ((sm_ints (xs := []) (by simp)).shaped (by decide))]
  have : PyData.eqv (.list (xs.map PyData.int)) (.list (([] : List Int).map PyData.int)) = decide (xs = []) := by cases xs <;> simp [PyData.eqv, PyData.eqvAll]
  rw [this]
theorem past_wp (b : Bg h) (M : MOk m K R E) (tk : ∀ r ∈ m.mvs, ∀ q, some q ∈ r → q.2.length ≤ 1000) (hE : E ≤ 1000) {kind bg most : Nat} (ek : m.begins[kind]? = some bg) (hmost : most ≤ 1000) :
    Wp (F_l_past [.ref 2, dMach m, .int (kind : Nat), .int (most : Nat)] h) fun d h' => Kb h h' ∧ ∃ (ps : List Nat) (f : Fg), d = .tup [.tup (ps.map dNat), dFg f] ∧ pbGo m bg ps = some f.1 ∧ FgOk m f ∧ (∀ d ∈ ps, 1 ≤ d ∧ d ≤ E) ∧ ps.length ≤ most := by
  unfold F_l_past
  rw [w_runF, m_l_past]
  refine ws_cut fun Kc hK => ?_
  simp [ek]
  refine ⟨size_ok (by decide), size_ok (by decide), hK _ _ (ws_cut fun Kc hK => ?_)⟩
  simp
  rw [show ((most : Int) + 1) = ((most + 1 : Nat) : Int) by omega]
  refine (take_wp b (u := most + 1) (by omega) (by omega)).imp ?_
  rintro d h1 ⟨n, hn, rfl, k1⟩
  simp
  refine ⟨by omega, ?_⟩
  refine for_rng (fun i δ h2 => ∃ (x4 x7 x8 x9 : Option D) (ps : List Nat) (f : Fg), δ = [some (.ref 2), some (dMach m), some (.int (kind : Nat)), some (.int (most : Nat)), x4, some (dFg f), some (.tup (ps.map dNat)), x7, x8, x9, none] ∧ Kb h h2 ∧ pbGo m bg ps = some f.1 ∧ FgOk m f ∧ (∀ d ∈ ps, 1 ≤ d ∧ d ≤ E) ∧ ps.length ≤ i)
    ⟨none, none, none, none, [], (bg, [0]), rfl, k1, rfl, ?_, by simp, by simp⟩ ?_ ?_
  · obtain ⟨pt, e, l⟩ := M.beg bg (List.mem_of_getElem? ek)
    exact ⟨pt, e, by rw [l]; rfl⟩
  · rintro i δ h2 hi ⟨x4, x7, x8, x9, ps, f, rfl, k2, epb, fok, hps, hl⟩
    obtain ⟨pt, hp1, hp2⟩ := fok
    have hp : f.1 < m.mvs.length := by rw [M.mvl]; exact lt_of_some hp1
    have ew := List.getElem?_eq_getElem hp
    have hwl := M.deeds _ (List.getElem_mem hp)
    generalize m.mvs[f.1] = r at ew hwl
    simp only [List.set_cons_succ, List.set_cons_zero]
    refine ws_cut fun Kc' hK' => ?_
    simp [ew]
    refine hK' _ _ (ws_cut fun Kc2 hK2 => ?_)
    simp [dMvs]
    refine comp_q dNat (List.range E) (fun k => (r.getD k none).isSome) (fun k y => y = .int ((k : Int) + 1)) (size_ok (by rw [List.length_range]; omega)) ?_ ?_ ?_
    · simp [hwl, rng_map, Kp.refl]
      omega
    · intro k hk h5 k5
      have hkE : k < E := List.mem_range.mp hk
      have eo := List.getElem?_eq_getElem (l := r) (i := k) (by omega)
      cases ho : r[k] with
      | none =>
        rw [ho] at eo
        simp [wipeL, dNat, eo, dMv, List.getD, Kp.refl]
      | some q =>
        rw [ho] at eo
        simp [wipeL, dNat, eo, dMv, List.getD, Kp.refl]
    intro h5 r5 ys k5 hr5 e5 w5
    have ey := w5.fn
    have ey2 : ys = (((List.range E).filter fun k => (r.getD k none).isSome).map fun k : Nat => (k : Int) + 1).map D.int := by rw [ey, List.map_map]; rfl
    clear ey
    have hds : ∀ d ∈ (((List.range E).filter fun k => (r.getD k none).isSome).map fun k : Nat => (k : Int) + 1), ∃ k q, d = ((k : Nat) : Int) + 1 ∧ k < E ∧ r[k]? = some (some q) := by
      intro d hd
      obtain ⟨k, hk, rfl⟩ := List.mem_map.mp hd
      rw [List.mem_filter] at hk
      have hkE : k < E := List.mem_range.mp hk.1
      have eo := List.getElem?_eq_getElem (l := r) (i := k) (by omega)
      have h2 := hk.2
      simp only [List.getD, eo, Option.getD_some] at h2
      obtain ⟨q, hq⟩ := Option.isSome_iff_exists.mp h2
      rw [hq] at eo
      exact ⟨k, q, rfl, hkE, eo⟩
    have hdl : (((List.range E).filter fun k => (r.getD k none).isSome).map fun k : Nat => (k : Int) + 1).length ≤ 1000 := by
      rw [List.length_map]
      exact Nat.le_trans (List.length_filter_le ..) (by rw [List.length_range]; exact hE)
    generalize (((List.range E).filter fun k => (r.getD k none).isSome).map fun k : Nat => (k : Int) + 1) = ds at ey2 hds hdl
    subst ey2
    have k05 := k2.q k5
    have b5 := k05.bg
    have hb5 := b5.len
    have hb2 := k2.bg.len
    refine hK2 _ _ ?_
    simp
    rw [w_ne_nil (xs := ds) (by rw [List.getElem?_append_left (lt_of_some e5)]; exact e5) (by simp) (fun d hd => by obtain ⟨k, q, rfl, hk, _⟩ := hds d hd; omega)]
    by_cases hne : ds = []
    · simp [hne]
      exact ⟨_, _, _, _, ps, f.1, f.2, ⟨rfl, rfl, rfl, rfl, rfl, rfl⟩, k05.app, epb, ⟨pt, hp1, hp2⟩, hps, by omega⟩
    · simp [hne]
      have e6 : (h5 ++ [.lst []])[r5]? = some (.lst (ds.map D.int)) := (List.getElem?_append_left (lt_of_some e5)).trans e5
      refine (some_wp k05.app.bg e6 (by omega) (by rw [List.length_map]; exact List.length_pos_iff.mpr hne) (by rw [List.length_map]; omega)).imp ?_
      rintro d h6 ⟨hd, k6⟩
      obtain ⟨d, hdm, rfl⟩ := List.mem_map.mp hd
      obtain ⟨k, q, rfl, hkE, eq⟩ := hds d hdm
      have em : mvAt m f.1 k = some (some q) := by unfold mvAt; rw [ew]; exact eq
      rw [show ((ps.length : Int) + 1) = ((ps.length + 1 : Nat) : Int) by omega]
      obtain ⟨p', g1, g2, g3⟩ := M.mv _ _ _ ew hp1 q (List.mem_of_getElem? eq)
      have wd := done_wp (h := h6) (f := f) (now := ps.length + 1) em (fun q' hq' => by cases hq'; exact ⟨tk _ (List.mem_of_getElem? ew) q (List.mem_of_getElem? eq), fun j hj => by rw [hp2]; exact g3 j hj⟩)
      refine wd.imp ?_
      rintro d h7 ⟨k7, rfl⟩
      have k07 := (k05.app.trans k6).q k7
      refine ⟨size_ok (by decide), size_ok (by omega), _, _, _, _, ps ++ [k + 1], q.1, took (ps.length + 1) f.2 q.2, ⟨rfl, rfl, by simp [dNat], rfl, rfl, rfl⟩, k07, ?_, ⟨p', g1, by simp [took, g2]⟩, ?_, by simp; omega⟩
      · rw [pbGo_snoc, epb, Option.bind_some, pbGo, Nat.add_sub_cancel, em]
        rfl
      · intro d hd
        rcases List.mem_append.mp hd with z | z
        · exact hps d z
        · rw [List.mem_singleton] at z
          omega
  · rintro δ h2 ⟨x4, x7, x8, x9, ps, f, rfl, k2, epb, fok, hps, hl⟩
    refine hK _ _ ?_
    simp
    exact ⟨size_ok (by decide), k2, ps, f.1, f.2, ⟨rfl, rfl⟩, epb, fok, hps, by omega⟩
/-- the things of a row -/
def rowT (m : Mach) (kvs : Dt Fg) (r : Nat) : List Th := (rowP m r kvs).map (·.1)
theorem rowT_d (m : Mach) (kvs : Dt Fg) (r : Nat) : ((rowP m r kvs).map fun p => dTh p.1) = (rowT m kvs r).map dTh := by
  unfold rowT
  rw [List.map_map]
  rfl
theorem rows_by_wp (M : MOk m K R E) (hpos : 0 < m.pts.length) (hR : R ≤ 1000) {rf : Nat} {kvs : Dt Fg} (e : h[rf]? = some (.lst (kvs.map dPr))) (kv : KvOk m kvs) (TD : TmD kvs) (hl : kvs.length ≤ 100000) :
    Wp (F_l_rows_by [dMach m, .ref rf] h) fun d h' => Kq h h' ∧ d = .tup ((List.range R).map fun r => .tup ((rowT m kvs r).map dTh)) := by
  have ept := List.getElem?_eq_getElem hpos
  have eR := M.rows _ (List.getElem_mem hpos)
  unfold F_l_rows_by
  rw [w_runF, m_l_rows_by]
  simp
  refine comp_f dNat (fun r => .tup ((rowT m kvs r).map dTh)) (List.range R) (size_ok (by rw [List.length_range]; omega)) ?_ (fun r hr h2 k2 => ?_) (fun h2 r k2 hr2 e2 => ?_)
  · simp [ept, eR, rng_map, Kp.refl]
    omega
  · have hrR : r < R := List.mem_range.mp hr
    simp [wipeL, dNat]
    refine ⟨Kp.refl, ?_⟩
    have w := row_wp M hrR (Kq.get k2 e) kv TD hl
    refine w.imp ?_
    rintro d h3 ⟨k3, r3, rfl, hr3, e3⟩
    rw [rowT_d] at e3
    simp [e3]
    exact k3
  · simp [e2]
    exact k2
theorem rowT_mem {m : Mach} {kvs : Dt Fg} {r : Nat} {x : Th} (hx : x ∈ rowT m kvs r) : ∃ p ∈ kvs, p.1 = x := by
  obtain ⟨p, hp, rfl⟩ := List.mem_map.mp hx
  exact ⟨p, (List.mergeSort_perm _ _).mem_iff.mp hp, rfl⟩
theorem rowT_len {m : Mach} {kvs : Dt Fg} {r : Nat} : (rowT m kvs r).length = kvs.length := by
  unfold rowT rowP
  rw [List.length_map, (List.mergeSort_perm _ _).length_eq]
theorem stands_wp (M : MOk m K R E) (hpos : 0 < m.pts.length) (hp : m.pts.length ≤ 1000) (hR : R ≤ 1000) {rf : Nat} {kvs : Dt Fg} (e : h[rf]? = some (.lst (kvs.map dPr))) (f : Fine m 500 1000 kvs) :
    Wp (F_l_stands_right [dMach m, .ref rf] h) fun d h' => Kq h h' ∧ d = .bl true := by
  have fl := f.len
  have fg := f.figs (M := M) (by decide) hp
  unfold F_l_stands_right
  rw [w_runF, m_l_stands_right]
  refine ws_cut fun Kc hK => ?_
  simp
  have w := rows_by_wp M hpos hR e f.ok f.td (by omega)
  refine w.imp ?_
  rintro d h1 ⟨k1, rfl⟩
  refine hK _ _ (ws_cut fun Kc hK => ?_)
  simp
  refine ⟨by omega, ?_⟩
  refine for_rng (fun i δ h2 => ∃ x3 x4 x5 x6, δ = [some (dMach m), some (.ref rf), some (.tup ((List.range R).map fun r => .tup ((rowT m kvs r).map dTh))), x3, x4, x5, x6] ∧ Kq h h2) ⟨none, none, none, none, rfl, k1⟩ ?_ ?_
  · rintro r δ h2 hr ⟨x3, x4, x5, x6, rfl, k2⟩
    simp only [List.set_cons_succ, List.set_cons_zero]
    have e2 := Kq.get k2 e
    have ths : ∀ x ∈ rowT m kvs r, ThS x := fun x hx => by obtain ⟨p, hp, rfl⟩ := rowT_mem hx; exact f.th p hp
    refine ws_cut fun Kc hK => ?_
    simp
    have w1 := row_by_wp M hr e2 f.ok (by omega)
    refine w1.imp ?_
    rintro d h3 ⟨k3, r3, rfl, hr3, e3⟩
    rw [rowT_d] at e3
    refine hK _ _ (ws_cut fun Kc hK => ?_)
    have eR : ((List.range R).map fun r => D.tup ((rowT m kvs r).map dTh))[r]? = some (.tup ((rowT m kvs r).map dTh)) := by rw [List.getElem?_map, List.getElem?_range hr]; rfl
    simp [List.getElem?_range hr]
    have e3' : (h3 ++ [.lst ((rowT m kvs r).map dTh)])[r3]? = some (.lst ((rowT m kvs r).map dTh)) := (List.getElem?_append_left (lt_of_some e3)).trans e3
    have aw := alike_wp (h := h3 ++ [.lst ((rowT m kvs r).map dTh)]) (x := .ref r3) (y := .ref h3.length) rfl (py_ths e3') (py_ths app_new) (sm_ths ths) (by decide) (by rw [rowT_len]; omega)
    refine aw.imp ?_
    rintro d hz ⟨rfl, hz'⟩
    rw [hz']
    clear hz' hz aw
    simp [dTru]
    have k4 : Kq h (h3 ++ [.lst ((rowT m kvs r).map dTh)]) := Kq.app (Kp.trans k2 k3)
    have hr3' : h.length ≤ r3 := Nat.le_trans k2.len hr3
    generalize h3 ++ [.lst ((rowT m kvs r).map dTh)] = h4 at e3' k4 ⊢
    refine hK _ _ (ws_cut fun Kc hK => ?_)
    simp [-getElem?_pos, List.getElem?_cons_zero, List.getElem?_cons_succ, e3']
    have k5 : Kq h (h4.set r3 (.lst ((rowT m kvs r).map dTh ++ [.non]))) := Kq.setn k4 hr3'
    refine ⟨size_lt (by rw [rowT_len]; omega), hK _ _ (ws_cut fun Kc hK => ?_)⟩
    generalize h4.set r3 (.lst ((rowT m kvs r).map dTh ++ [.non])) = h5 at k5 ⊢
    have e5 := Kq.get k5 e
    simp [-getElem?_pos, List.getElem?_cons_zero, List.getElem?_cons_succ, e5]
    refine for_inv (fun i δ h6 => ∃ x5 x6, δ = [some (dMach m), some (.ref rf), some (.tup ((List.range R).map fun r => .tup ((rowT m kvs r).map dTh))), some (.int (r : Nat)), some (.ref r3), x5, x6] ∧ h6 = h5) _ ⟨x5, x6, rfl, rfl⟩ ?_ ?_
    · rintro i d δ h6 hd ⟨y5, y6, rfl, rfl⟩
      refine ⟨getL_lst e5, ?_⟩
      rw [List.getElem?_map, Option.map_eq_some_iff] at hd
      obtain ⟨p, ep, rfl⟩ := hd
      have hpm := List.mem_of_getElem? ep
      simp [-getElem?_pos, List.getElem?_cons_zero, List.getElem?_cons_succ, e5]
      refine for_inv (fun j δ h7 => ∃ x6, δ = [some (dMach m), some (.ref rf), some (.tup ((List.range R).map fun r => .tup ((rowT m kvs r).map dTh))), some (.int (r : Nat)), some (.ref r3), some (dPr p), x6] ∧ h7 = h6) _ ⟨y6, rfl, rfl⟩ ?_ ?_
      · rintro j d δ h7 hd ⟨z6, rfl, rfl⟩
        refine ⟨getL_lst e5, ?_⟩
        rw [List.getElem?_map, Option.map_eq_some_iff] at hd
        obtain ⟨q, eq, rfl⟩ := hd
        have hqm := List.mem_of_getElem? eq
        obtain ⟨pt, s, t, pl⟩ := pl_mk M hr (f.ok.1 p hpm)
        obtain ⟨pt', s', t', pl'⟩ := pl_mk M hr (f.ok.1 q hqm)
        simp
        rw [w_dNe_g rfl (py_pok h7 (dPr p) 3 deepest (pok_pr p) (by decide)) (py_pok h7 (dPr q) 3 deepest (pok_pr q) (by decide)) ((sm_pr (fg p hpm)).shaped (by decide)) ((sm_pr (fg q hqm)).shaped (by decide))]
        simp only [blK_bl]
        split
        · refine (ahead_by_wp pl pl').imp ?_
          rintro d h8 ⟨rfl, rfl⟩
          refine (l_ahead_wp pl pl').imp ?_
          rintro d h9 ⟨rfl, rfl⟩
          refine alike_bl.imp ?_
          rintro d h10 ⟨rfl, rfl⟩
          simp [dTru]
        · trivial
      · rintro δ h7 ⟨z6, rfl, rfl⟩
        refine ⟨getL_lst e5, ?_⟩
        simp
    · rintro δ h6 ⟨y5, y6, rfl, rfl⟩
      refine ⟨getL_lst e5, hK _ _ ?_⟩
      simp
      have w2 := row_by_wp M hr e5 f.ok (by omega)
      refine w2.imp ?_
      rintro d h7 ⟨k7, r7, rfl, hr7, e7⟩
      rw [rowT_d] at e7
      simp [List.getElem?_range hr]
      have e7' : (h7 ++ [.lst ((rowT m kvs r).map dTh)])[r7]? = some (.lst ((rowT m kvs r).map dTh)) := (List.getElem?_append_left (lt_of_some e7)).trans e7
      have aw := alike_wp (h := h7 ++ [.lst ((rowT m kvs r).map dTh)]) (x := .ref r7) (y := .ref h7.length) rfl (py_ths e7') (py_ths app_new) (sm_ths ths) (by decide) (by rw [rowT_len]; omega)
      refine aw.imp ?_
      rintro d hz ⟨rfl, hz'⟩
      rw [hz']
      simp [dTru]
      exact Kq.app (Kp.trans k5 k7)
  · rintro δ h2 ⟨x3, x4, x5, x6, rfl, k2⟩
    refine hK _ _ ?_
    simp
    exact k2
end
end K35
set_option Elab.async false
set_option linter.all false
set_option maxRecDepth 100000
/-! PA.MachS: machines as data that is compared and shown. -/
namespace PA
open PySem PySem.Spec PyProof.Rows L2 DL
structure MachS (m : Mach) : Prop where
  b1 : m.begins.length ≤ 2
  b2 : ∀ b ∈ m.begins, b ≤ 999999
  p1 : m.pts.length ≤ 20
  p2 : ∀ p ∈ m.pts, p.st.length ≤ 2 ∧ p.live ≤ 999999 ∧ (∀ s ∈ p.st, s.1 ≤ 999999 ∧ s.2.2 ≤ 999999) ∧ ∀ q, p.lab = some q → q.1 ≤ 999999 ∧ q.2 ≤ 999999
  m1 : m.mvs.length ≤ 20
  m2 : ∀ r ∈ m.mvs, r.length ≤ 5 ∧ ∀ q, some q ∈ r → q.1 ≤ 999999 ∧ q.2.length ≤ 3 ∧ ∀ k, some k ∈ q.2 → k ≤ 999999
theorem tup_pok {n : Nat} {ds : List D} (h : ∀ d ∈ ds, pok n d = true) : pok (n + 1) (.tup ds) = true := by
  simp only [pok]
  exact poks_of h
theorem nat_pok (n k : Nat) : pok n (dNat k) = true := by cases n <;> rfl
theorem int_pok (n : Nat) (i : Int) : pok n (.int i) = true := by cases n <;> rfl
theorem mem_map_d {α : Type} {f : α → D} {xs : List α} {P : D → Prop} (h : ∀ x ∈ xs, P (f x)) : ∀ d ∈ xs.map f, P d := by
  intro d hd
  obtain ⟨x, hx, rfl⟩ := List.mem_map.mp hd
  exact h x hx
theorem mem2 {P : D → Prop} {a b : D} (h1 : P a) (h2 : P b) : ∀ d ∈ [a, b], P d := by
  intro d hd
  simp only [List.mem_cons, List.not_mem_nil, or_false] at hd
  rcases hd with rfl | rfl <;> assumption
theorem mem3 {P : D → Prop} {a b c : D} (h1 : P a) (h2 : P b) (h3 : P c) : ∀ d ∈ [a, b, c], P d := by
  intro d hd
  simp only [List.mem_cons, List.not_mem_nil, or_false] at hd
  rcases hd with rfl | rfl | rfl <;> assumption
theorem sd_pok (s : Sd) : pok 2 (dSd s) = true := tup_pok (mem3 (int_pok _ _) (by unfold dWay; split <;> rfl) (int_pok _ _))
theorem lab_pok (o : Option (Nat × Nat)) : pok 3 (dLab o) = true := by cases o <;> rfl
theorem pt_pok (p : Pt) : pok 4 (dPt p) = true := tup_pok (mem3 (tup_pok (mem_map_d fun s _ => sd_pok s)) (int_pok _ _) (lab_pok _))
theorem k_pok (n : Nat) (o : Option Nat) : pok n (dK o) = true := by cases o <;> exact int_pok _ _
theorem mv_pok (o : Mv) : pok 3 (dMv o) = true := by
  cases o with
  | none => rfl
  | some q => exact tup_pok (mem2 (int_pok _ _) (tup_pok (mem_map_d fun s _ => k_pok _ s)))
theorem mach_pok (m : Mach) : pok 6 (dMach m) = true :=
  tup_pok (mem3 (tup_pok (mem_map_d fun s _ => nat_pok _ s)) (tup_pok (mem_map_d fun s _ => pt_pok s)) (tup_pok (mem_map_d fun r _ => tup_pok (mem_map_d fun o _ => mv_pok o))))
/-- small data, as data -/
def SmD (n w : Nat) (d : D) : Prop := Sm n w (pyp d)
theorem SmD.mono {n w n' w' : Nat} {d : D} (s : SmD n w d) (hn : n ≤ n') (hw : w ≤ w') : SmD n' w' d := Sm.mono s hn hw
theorem SmD.tup {n w l : Nat} {ds : List D} (h : ∀ d ∈ ds, SmD n w d) (hl : ds.length ≤ l) : SmD (n + 1) (l * (w + 1)) (.tup ds) := by
  unfold SmD
  simp only [pyp, pyps_eq]
  have := Sm.tuple (n := n) (w := w) (ps := ds.map pyp) fun p hp => by
    obtain ⟨d, hd, rfl⟩ := List.mem_map.mp hp
    exact h d hd
  rw [List.length_map] at this
  exact this.mono (Nat.le_refl _) (Nat.mul_le_mul_right _ hl)
theorem SmD.nat {n k : Nat} (h : k ≤ 999999999) : SmD n 40 (.int (k : Nat)) := Sm.int (by omega) (by omega)
theorem sd_sm {s : Sd} (h : s.1 ≤ 999999 ∧ s.2.2 ≤ 999999) : SmD 1 123 (dSd s) := by
  refine SmD.tup (n := 0) (w := 40) (l := 3) (mem3 (SmD.nat (by omega)) ?_ (SmD.nat (by omega))) (by simp)
  unfold dWay
  split
  · exact (Sm.str (n := 0) (x := Str.ofString "later") (by decide +kernel)).mono (Nat.le_refl _) (by decide +kernel)
  · exact (Sm.str (n := 0) (x := Str.ofString "earlier") (by decide +kernel)).mono (Nat.le_refl _) (by decide +kernel)
theorem lab_sm {o : Option (Nat × Nat)} (h : ∀ q, o = some q → q.1 ≤ 999999 ∧ q.2 ≤ 999999) : SmD 1 82 (dLab o) := by
  cases o with
  | none => exact (SmD.tup (n := 0) (w := 0) (l := 0) (ds := []) (by simp) (by simp)).mono (by decide) (by decide)
  | some q =>
    have := h q rfl
    exact SmD.tup (n := 0) (w := 40) (l := 2) (mem2 (SmD.nat (by omega)) (SmD.nat (by omega))) (by simp)
theorem pt_sm {p : Pt} (h : p.st.length ≤ 2 ∧ p.live ≤ 999999 ∧ (∀ s ∈ p.st, s.1 ≤ 999999 ∧ s.2.2 ≤ 999999) ∧ ∀ q, p.lab = some q → q.1 ≤ 999999 ∧ q.2 ≤ 999999) : SmD 3 747 (dPt p) := by
  refine SmD.tup (n := 2) (w := 248) (l := 3) (mem3 ?_ ?_ ?_) (by simp)
  · exact SmD.tup (n := 1) (w := 123) (l := 2) (mem_map_d fun s hs => sd_sm (h.2.2.1 s hs)) (by rw [List.length_map]; exact h.1)
  · exact (SmD.nat (n := 0) (by omega)).mono (by decide) (by decide)
  · exact (lab_sm h.2.2.2).mono (by decide) (by decide)
theorem mv_sm {o : Mv} (h : ∀ q, o = some q → q.1 ≤ 999999 ∧ q.2.length ≤ 3 ∧ ∀ k, some k ∈ q.2 → k ≤ 999999) : SmD 2 248 (dMv o) := by
  cases o with
  | none => exact Sm.none
  | some q =>
    obtain ⟨h1, h2, h3⟩ := h q rfl
    refine SmD.tup (n := 1) (w := 123) (l := 2) (mem2 ((SmD.nat (n := 0) (by omega)).mono (by decide) (by decide)) ?_) (by simp)
    refine SmD.tup (n := 0) (w := 40) (l := 3) (mem_map_d fun o ho => ?_) (by rw [List.length_map]; exact h2)
    cases o with
    | none => exact Sm.int (by omega) (by omega)
    | some k => exact SmD.nat (by have := h3 k ho; omega)
theorem mach_sm {m : Mach} (s : MachS m) : SmD 5 100000 (dMach m) := by
  refine (SmD.tup (n := 4) (w := 30000) (l := 3) (mem3 ?_ ?_ ?_) (by simp)).mono (by decide) (by decide)
  · exact (SmD.tup (n := 0) (w := 40) (l := 2) (mem_map_d fun b hb => SmD.nat (by have := s.b2 b hb; omega)) (by rw [List.length_map]; exact s.b1)).mono (by decide) (by decide)
  · exact (SmD.tup (n := 3) (w := 747) (l := 20) (mem_map_d fun p hp => pt_sm (s.p2 p hp)) (by rw [List.length_map]; exact s.p1)).mono (by decide) (by decide)
  · refine (SmD.tup (n := 3) (w := 1245) (l := 20) (mem_map_d fun r hr => ?_) (by rw [List.length_map]; exact s.m1)).mono (by decide) (by decide)
    exact SmD.tup (n := 2) (w := 248) (l := 5) (mem_map_d fun o ho => mv_sm fun q hq => (s.m2 r hr).2 q (by rw [← hq]; exact ho)) (by rw [List.length_map]; exact (s.m2 r hr).1)
theorem alike_mach {h : Hm} {m : Mach} (s : MachS m) : Wp (F_l_alike [dMach m, dMach m] h) fun d h' => d = .bl true ∧ h' = h :=
  alike_wp (p := pyp (dMach m)) rfl (py_pok h _ 6 deepest (mach_pok m) (by decide)) (py_pok h _ 6 deepest (mach_pok m) (by decide)) (mach_sm s) (by decide) (by decide)
theorem MachS.row {m : Mach} (s : MachS m) (r : Nat) : MachS (rowM m r) := by
  refine ⟨s.b1, s.b2, by simp [rowM]; exact s.p1, fun p hp => ?_, s.m1, s.m2⟩
  obtain ⟨q, hq, rfl⟩ := List.mem_map.mp hp
  obtain ⟨h1, h2, h3, h4⟩ := s.p2 q hq
  refine ⟨by simp [rowPt], h2, fun t ht => ?_, fun _ e => by cases e⟩
  simp only [rowPt, List.mem_singleton] at ht
  subst ht
  by_cases z : r < q.st.length
  · have : q.st.getD r (0, true, 0) = q.st[r] := by simp [List.getD, List.getElem?_eq_getElem z]
    rw [this]
    exact h3 _ (List.getElem_mem z)
  · have : q.st.getD r (0, true, 0) = (0, true, 0) := by simp [List.getD, List.getElem?_eq_none (Nat.le_of_not_lt z)]
    rw [this]
    exact ⟨by decide, by decide⟩
end PA
set_option Elab.async false
set_option linter.all false
set_option maxRecDepth 100000
/-! K35B: pasts, bent runs, labels. -/
namespace K35
open PySem PySem.Spec PyProof.Rows L2 DL PA
section
variable {m : Mach} {K R E : Nat} {h : Hm} {Q : D → Hm → Prop}
theorem pbGo_pt (M : MOk m K R E) : ∀ (ps : List Nat) (p q : Nat), (∃ pt, m.pts[p]? = some pt) → pbGo m p ps = some q → q < m.pts.length
  | [], p, q, ⟨pt, e⟩, h => by cases h; exact lt_of_some e
  | d :: r, p, q, ⟨pt, e⟩, h => by
    simp only [pbGo] at h
    split at h
    · rename_i z ez
      unfold mvAt at ez
      obtain ⟨r', e1, e2⟩ := Option.bind_eq_some_iff.mp ez
      obtain ⟨p', g1, _⟩ := M.mv _ _ _ e1 e z (List.mem_of_getElem? e2)
      exact pbGo_pt M r z.1 q ⟨p', g1⟩ h
    · cases h
theorem cut_to {run : List Rt} {n : Nat} : DL.cutD (run.map dRt) none (some (n : Int)) = (run.take n).map dRt := by
  unfold DL.cutD
  rw [HT.sIx_nat, HT.sIx_none, List.drop_zero, Nat.sub_zero, List.map_take, List.length_map]
  by_cases h : n ≤ run.length
  · rw [Nat.min_eq_left h]
  · rw [Nat.min_eq_right (by omega), List.take_of_length_le (by simp), List.take_of_length_le (by simp; omega)]
theorem cut_from {run : List Rt} {n : Nat} : DL.cutD (run.map dRt) (some (n : Int)) none = (run.drop n).map dRt := by
  unfold DL.cutD
  rw [HT.sIx_nat, HT.sIx_none, List.map_drop, List.length_map]
  by_cases h : n ≤ run.length
  · rw [Nat.min_eq_left h, List.take_of_length_le (by simp)]
  · rw [Nat.min_eq_right (by omega), List.drop_eq_nil_of_le (by simp), List.drop_eq_nil_of_le (by simp; omega)]
    simp
theorem pasts_wp (b : Bg h) (M : MOk m K R E) (tk : ∀ r ∈ m.mvs, ∀ q, some q ∈ r → q.2.length ≤ 1000) (hpos : 0 < m.pts.length) (hp : m.pts.length ≤ 1000) (hE : E ≤ 1000) (hK1 : 1 ≤ K ∧ K ≤ 1000) :
    Wp (F_l_pasts_right [.ref 2, dMach m] h) fun d h' => Kb h h' ∧ d = .bl true := by
  have hm0 : 0 < m.mvs.length := by rw [M.mvl]; exact hpos
  have em0 := List.getElem?_eq_getElem hm0
  have eml := M.deeds _ (List.getElem_mem hm0)
  generalize m.mvs[0] = r0 at em0 eml
  unfold F_l_pasts_right
  rw [w_runF, m_l_pasts_right]
  refine ws_cut fun Kc hK => ?_
  simp
  refine for_rng (fun i δ h2 => ∃ x2 x3 x4 x5 x6 x7 x8, δ = [some (.ref 2), some (dMach m), x2, x3, x4, x5, x6, x7, x8] ∧ Kb h h2) ⟨none, none, none, none, none, none, none, rfl, Kb.refl b⟩ ?_ ?_
  · rintro i δ h2 hi ⟨x2, x3, x4, x5, x6, x7, x8, rfl, k2⟩
    simp only [List.set_cons_succ, List.set_cons_zero]
    refine ws_cut fun Kc hK => ?_
    simp
    rw [M.kinds]
    refine (take_wp k2.bg (u := K) (by omega) (by omega)).imp ?_
    rintro d h3 ⟨kind, hkind, rfl, k3⟩
    have ek := List.getElem?_eq_getElem (l := m.begins) (i := kind) (by rw [M.kinds]; exact hkind)
    generalize m.begins[kind]'(by rw [M.kinds]; exact hkind) = bg at ek
    refine hK _ _ (ws_cut fun Kc hK => ?_)
    simp
    refine ⟨size_ok (by decide), ?_⟩
    have b3 := k3.bg
    have k3a : Kb h3 (h3 ++ [.lst [.int 6, .int 6, .int 58]]) := (Kb.refl b3).app
    have e3a : (h3 ++ [.lst [.int 6, .int 6, .int 58]])[h3.length]? = some (.lst [.int 6, .int 6, .int 58]) := app_new
    generalize h3 ++ [.lst [.int 6, .int 6, .int 58]] = h3' at k3a e3a ⊢
    have ws := some_wp k3a.bg e3a (by have := b3.len; omega) (by decide) (by decide)
    refine ws.imp ?_
    rintro d h4 ⟨hd, k4⟩
    obtain ⟨most, rfl, hmost⟩ : ∃ n : Nat, d = .int (n : Nat) ∧ n ≤ 58 := by
      simp only [List.mem_cons, List.not_mem_nil, or_false] at hd
      rcases hd with rfl | rfl | rfl
      · exact ⟨6, rfl, by omega⟩
      · exact ⟨6, rfl, by omega⟩
      · exact ⟨58, rfl, by omega⟩
    have k04 := (k2.trans k3).trans (k3a.trans k4)
    have wp := past_wp k04.bg M tk hE ek (most := most) (by omega)
    refine wp.imp ?_
    rintro d h5 ⟨k5, ps, f, rfl, epb, fok, hps, hl⟩
    have k05 := k04.trans k5
    obtain ⟨pt, hp1, hp2⟩ := fok
    have hf := lt_of_some hp1
    simp
    refine hK _ _ (ws_cut fun Kc hK => ?_)
    have w1 := point_behind_wp (h := h5) M ek hps
    simp
    refine w1.imp ?_
    rintro d h6 ⟨rfl, rfl⟩
    rw [epb]
    refine (alike_int (i := (f.1 : Nat)) (by omega) (by omega)).imp ?_
    rintro d h7 ⟨rfl, rfl⟩
    simp [dTru]
    refine hK _ _ ?_
    simp [-getElem?_pos, List.getElem?_cons_zero, List.getElem?_cons_succ, em0, dMvs, eml]
    by_cases hE0 : 0 < E
    · simp [hE0]
      refine (take_wp k05.bg (u := E) hE0 (by omega)).imp ?_
      rintro d h8 ⟨v, hv, rfl, k8⟩
      simp
      have k08 := k05.trans k8
      obtain ⟨o, ho, r', hr1, hr2⟩ := mvAt_some M hp1 (k := v) hv
      have e1 : (1 : Int) + (v : Int) - 1 = (v : Int) := by omega
      rw [e1]
      simp [-getElem?_pos, List.getElem?_cons_zero, List.getElem?_cons_succ, hr1, dMvs, hr2]
      have epb2 : pbGo m bg (ps ++ [1 + v]) = o.map (·.1) := by
        rw [pbGo_snoc, epb, Option.bind_some, pbGo, Nat.add_sub_cancel_left]
        simp only [ho]
        cases o <;> rfl
      have epb3 : pbGo m bg (ps ++ [1 + v] ++ [1]) = (pbGo m bg (ps ++ [1 + v])).bind fun q => pbGo m q [1] := pbGo_snoc m _ _ _
      have hps2 : ∀ d ∈ ps ++ [1 + v], 1 ≤ d ∧ d ≤ E := by
        intro d hd
        rcases List.mem_append.mp hd with z | z
        · exact hps d z
        · rw [List.mem_singleton] at z; omega
      have hps3 : ∀ d ∈ ps ++ [1 + v] ++ [1], 1 ≤ d ∧ d ≤ E := by
        intro d hd
        rcases List.mem_append.mp hd with z | z
        · exact hps2 d z
        · rw [List.mem_singleton] at z; omega
      have w2 := point_behind_wp (h := h8) M ek hps2
      have w3 := point_behind_wp (h := h8) M ek hps3
      have d2 : (ps ++ [1 + v]).map dNat = ps.map dNat ++ [.int (1 + (v : Int))] := by simp [dNat]
      have d3 : (ps ++ [1 + v] ++ [1]).map dNat = ps.map dNat ++ [.int (1 + (v : Int)), .int 1] := by simp [dNat]
      rw [d2, epb2] at w2
      rw [d3, epb3, epb2] at w3
      cases o with
      | none =>
        simp [dMv]
        refine ⟨size_ok (by decide), size_ok (by omega), w2.imp ?_⟩
        rintro d h9 ⟨rfl, rfl⟩
        refine alike_non.imp ?_
        rintro d h10 ⟨rfl, rfl⟩
        simp [dTru]
        refine ⟨size_ok (by decide), size_ok (by omega), w3.imp ?_⟩
        rintro d h11 ⟨rfl, rfl⟩
        simp [dO]
        exact k08
      | some q =>
        obtain ⟨p', g1, _⟩ := M.mv _ _ _ hr1 hp1 q (List.mem_of_getElem? hr2)
        have hq := lt_of_some g1
        simp [dMv]
        refine ⟨size_ok (by decide), size_ok (by omega), w2.imp ?_⟩
        rintro d h9 ⟨rfl, rfl⟩
        refine (alike_int (i := (q.1 : Nat)) (by omega) (by omega)).imp ?_
        rintro d h10 ⟨rfl, rfl⟩
        simp [dTru]
        exact k08
    · simp [hE0]
      exact k05
  · rintro δ h2 ⟨x2, x3, x4, x5, x6, x7, x8, rfl, k2⟩
    refine hK _ _ ?_
    simp
    exact k2
def par3K (k : D → D → D → Prop) : List D → Prop
  | [a, b, c] => k a b c
  | _ => False
@[simp] theorem par3K_three {k : D → D → D → Prop} {a b c : D} : par3K k [a, b, c] = k a b c := rfl
@[simp] theorem w_sPar3 {δ : Lo} {S : Fl → Lo → Hm → Prop} {r : MA} {i j l : Nat} : Ws (sPar3 i j l r δ h) S ↔ Wp (r δ h) fun ds h => par3K (fun a b c => S .nx (((δ.set i (some a)).set j (some b)).set l (some c)) h) ds := by
  simp only [sPar3, ws_bind]
  refine iff_of_eq (congrArg _ (funext fun d => funext fun h => propext ?_))
  match d with
  | [] => simp [par3K]
  | [a] => simp [par3K]
  | [a, b] => simp [par3K]
  | [a, b, c] => simp
  | a :: b :: c :: e :: d => simp [par3K]
theorem bent_wp (b : Bg h) (M : MOk m K R E) (hpos : 0 < m.pts.length) (hE : E ≤ 1000) {rr rt : Nat} {run : List Rt} {xs : List Th} (er : h[rr]? = some (.lst (run.map dRt))) (et : h[rt]? = some (.lst (xs.map dTh))) (nr : rr ≠ 2) (nt : rt ≠ 2)
    (ro : ∀ r ∈ run, RtOk m E r ∧ r.2 ∈ xs) (hx : ∀ x ∈ xs, x.1 < K ∧ x.2 ≤ 9999) (hK : K ≤ 100) (hx0 : 0 < xs.length) (hxl : xs.length ≤ 1000) (hl : run.length ≤ 100) :
    Wp (F_l_bent_run [.ref 2, dMach m, .ref rr, .ref rt] h) fun d h' => Kb h h' ∧ ∃ (r : Nat) (run' : List Rt), d = .ref r ∧ h.length ≤ r ∧ h'[r]? = some (.lst (run'.map dRt)) ∧ (∀ p ∈ run', RtOk m E p ∧ p.2 ∈ xs) ∧ run'.length ≤ run.length + 1 := by
  have hb := b.len
  have hm0 : 0 < m.mvs.length := by rw [M.mvl]; exact hpos
  have em0 := List.getElem?_eq_getElem hm0
  have eml := M.deeds _ (List.getElem_mem hm0)
  generalize m.mvs[0] = r0 at em0 eml
  have ths : ∀ x ∈ xs, ThS x := fun x hx' => ⟨by have := (hx x hx').1; omega, by have := (hx x hx').2; omega⟩
  have rts : ∀ r ∈ run, RtS r := fun r hr => ⟨⟨by have := (ro r hr).1.1; omega, by have := (ro r hr).1.2.1; omega⟩, ths _ (ro r hr).2⟩
  unfold F_l_bent_run
  rw [w_runF, m_l_bent_run]
  refine ws_cut fun Kc hKc => ?_
  simp
  have er1 : (h ++ [.lst []])[rr]? = some (.lst (run.map dRt)) := (List.getElem?_append_left (lt_of_some er)).trans er
  have en1 : (h ++ [.lst []])[h.length]? = some (.lst (([] : List Rt).map dRt)) := app_new
  have et1 : (h ++ [.lst []])[rt]? = some (.lst (xs.map dTh)) := (List.getElem?_append_left (lt_of_some et)).trans et
  rw [w_dEq_g rfl (py_run er1) (py_run en1) ((sm_run rts (by omega)).shaped (by decide)) ((sm_run (run := []) (by simp) (by simp)).shaped (by decide))]
  have eqb : PyData.eqv (.list (run.map pRt)) (.list (([] : List Rt).map pRt)) = decide (run = []) := by cases run <;> simp [PyData.eqv, PyData.eqvAll]
  rw [eqb]
  have k1 : Kb h (h ++ [.lst []]) := (Kb.refl b).app
  have l1 : h.length ≤ (h ++ [MO.lst []]).length := by simp
  generalize h ++ [.lst []] = h1 at er1 en1 et1 k1 l1 ⊢
  have ex0 := List.getElem?_eq_getElem hx0
  have hx0m := List.getElem_mem hx0
  generalize xs[0] = x0 at ex0 hx0m
  by_cases hr0 : run = []
  · simp only [hr0, decide_true, blK_bl, if_true]
    simp [-getElem?_pos, List.getElem?_cons_zero, List.getElem?_cons_succ, em0, dMvs, eml, et1, ex0]
    split
    · rename_i hE0
      refine ⟨size_ok (by decide), size_ok (by decide), k1.app, l1, [(1, x0)], by simp [dRt], ?_, by simp⟩
      intro a c d' hp
      rw [List.mem_singleton] at hp
      cases hp
      exact ⟨⟨by dsimp only; omega, by dsimp only; omega, by rw [M.kinds]; exact (hx _ hx0m).1⟩, hx0m⟩
    · refine ⟨size_ok (by decide), size_ok (by decide), k1.app, l1, [(-1, x0)], by simp [dRt], ?_, by simp⟩
      intro a c d' hp
      rw [List.mem_singleton] at hp
      cases hp
      exact ⟨⟨by dsimp only; omega, by dsimp only; omega, by rw [M.kinds]; exact (hx _ hx0m).1⟩, hx0m⟩
  · simp only [hr0, decide_false, blK_bl, Bool.false_eq_true, if_false]
    have hrl : 0 < run.length := List.length_pos_iff.mpr hr0
    refine hKc _ _ (ws_cut fun Kc hKc => ?_)
    simp [-getElem?_pos, List.getElem?_cons_zero, List.getElem?_cons_succ, er1]
    refine (take_wp k1.bg (u := run.length) hrl (by omega)).imp ?_
    rintro d h2 ⟨a, ha, rfl, k2⟩
    have er2 := k2.get er1 nr
    simp [-getElem?_pos, List.getElem?_cons_zero, List.getElem?_cons_succ, er2]
    refine (take_wp k2.bg (u := run.length) hrl (by omega)).imp ?_
    rintro d h3 ⟨c, hc, rfl, k3⟩
    refine (take_wp k3.bg (u := 4) (by decide) (by decide)).imp ?_
    rintro d h4 ⟨way, hway, rfl, k4⟩
    have k04 := ((k1.trans k2).trans k3).trans k4
    have er4 := k4.get (k3.get er2 nr) nr
    have et4 := k04.get et nt
    have l04 := k04.kp.len
    have b4 := k04.bg
    have lb4 := b4.len
    have ap4 : ∀ l : Hm, (h4 ++ l)[rr]? = some (.lst (run.map dRt)) := fun l => (List.getElem?_append_left (lt_of_some er4)).trans er4
    have ap4t : ∀ l : Hm, (h4 ++ l)[rt]? = some (.lst (xs.map dTh)) := fun l => (List.getElem?_append_left (lt_of_some et4)).trans et4
    have e1 : (a : Int) + 1 = ((a + 1 : Nat) : Int) := by omega
    have ea := List.getElem?_eq_getElem ha
    have ec := List.getElem?_eq_getElem hc
    have ham := List.getElem_mem ha
    have hcm := List.getElem_mem hc
    generalize run[a] = pa at ea ham
    generalize run[c] = pcc at ec hcm
    have cf1 := cut_from (run := run) (n := a + 1)
    rw [← e1] at cf1
    refine hKc _ _ (ws_cut fun Kc hKc => ?_)
    simp [-getElem?_pos, List.getElem?_cons_zero, List.getElem?_cons_succ, er4, ap4, cut_to, cf1, cut_from]
    by_cases hw0 : way = 0
    · simp [hw0]
      refine ⟨size_ok (by omega), k04.app, by omega, run.take a ++ run.drop (a + 1), by simp, ?_, by simp; omega⟩
      intro x y z hp
      rcases List.mem_append.mp hp with q | q
      · exact ro _ (List.mem_of_mem_take q)
      · exact ro _ (List.mem_of_mem_drop q)
    · simp [hw0]
      refine hKc _ _ (ws_cut fun Kc hKc => ?_)
      simp [-getElem?_pos, List.getElem?_cons_zero, List.getElem?_cons_succ, er4, ap4, cut_to, cf1, cut_from, ea]
      have q5 : ∀ (hh : Hm) (z : List MO) (i : Nat) (o : MO), z[i]? = some o → (hh ++ z)[hh.length + i]? = some o := fun hh z i o e => by
        rw [List.getElem?_append_right (by omega), show hh.length + i - hh.length = i by omega]
        exact e
      by_cases hw1 : way = 1
      · rw [if_pos (by omega)]
        rw [show h4.length + 1 + 3 = h4.length + 4 by omega]
        refine ⟨size_ok (by decide), size_ok (by omega), size_ok (by omega), k04.app, by omega, run.take a ++ pa :: run.drop a, ?_, ?_, by simp; omega⟩
        · rw [q5 h4 _ 4 _ rfl]
          simp
        · intro x y z hp
          rcases List.mem_append.mp hp with q | q
          · exact ro _ (List.mem_of_mem_take q)
          · rcases List.mem_cons.mp q with q | q
            · have := ro _ ham; rw [← q] at this; exact this
            · exact ro _ (List.mem_of_mem_drop q)
      · rw [if_neg (by omega)]
        refine hKc _ _ (ws_cut fun Kc hKc => ?_)
        by_cases hw2 : way = 2
        · subst hw2
          simp [-getElem?_pos, List.getElem?_cons_zero, List.getElem?_cons_succ, er4, ap4, ea, ec]
          have hlen2 : a < run.length ∧ c < run.length := ⟨ha, hc⟩
          simp [ha, hc]
          refine ⟨by decide, k04.app, l04, (run.set a pcc).set c pa, by simp [List.map_set], ?_, by simp⟩
          intro x y z hp
          rcases List.mem_or_eq_of_mem_set hp with q | q
          · rcases List.mem_or_eq_of_mem_set q with q | q
            · exact ro _ q
            · have := ro _ hcm; rw [← q] at this; exact this
          · have := ro _ ham; rw [← q] at this; exact this
        · have hw2' : ¬ ((way : Int) = 2) := by omega
          simp [-getElem?_pos, List.getElem?_cons_zero, List.getElem?_cons_succ, hw2']
          refine hKc _ _ ?_
          simp [-getElem?_pos, List.getElem?_cons_zero, List.getElem?_cons_succ, er4, cut_to, em0, dMvs, eml]
          have k5 : Kb h (h4 ++ [.lst ((run.map dRt).take a)]) := k04.app
          have e5a : (h4 ++ [.lst ((run.map dRt).take a)])[h4.length]? = some (.lst ((run.take a).map dRt)) := by rw [List.map_take]; exact app_new
          have e5r := ap4 [.lst ((run.map dRt).take a)]
          have e5t := ap4t [.lst ((run.map dRt).take a)]
          have l5 : h.length ≤ h4.length := l04
          generalize h4 ++ [.lst ((run.map dRt).take a)] = h5 at k5 e5a e5r e5t ⊢
          rw [show ((E : Int) + 2) = ((E + 2 : Nat) : Int) by omega]
          refine (take_wp k5.bg (u := E + 2) (by omega) (by omega)).imp ?_
          rintro d h6 ⟨od, hod, rfl, k6⟩
          simp only [w_dSub]
          have w6 := some_wp k6.bg (k6.get e5t nt) nt (by simpa using hx0) (by simp; omega)
          refine w6.imp ?_
          rintro d h7 ⟨hd, k7⟩
          obtain ⟨x, hx', rfl⟩ := List.mem_map.mp hd
          have k57 := k6.trans k7
          have e7a := k57.get e5a (by omega)
          have e7r := k57.get e5r nr
          have q7 : ∀ (l : Hm) (i : Nat) (o : MO), h7[i]? = some o → (h7 ++ l)[i]? = some o := fun l i o e => (List.getElem?_append_left (lt_of_some e)).trans e
          rw [q7 _ _ _ e7a]
          simp only [lsK_lst]
          rw [q7 _ _ _ e7r]
          simp only [lsK_lst]
          rw [cf1]
          have l7 := (k5.trans k57).kp.len
          refine ⟨size_ok (by decide), size_ok (by decide), size_ok (by simp; omega), size_ok (by simp; omega), (k5.trans k57).app, by omega, run.take a ++ ((od : Int) - 1, x) :: run.drop (a + 1), ?_, ?_, by simp; omega⟩
          · rw [q5 h7 _ 3 _ rfl]
            simp [dRt]
          · intro u y z hp
            rcases List.mem_append.mp hp with q | q
            · exact ro _ (List.mem_of_mem_take q)
            · rcases List.mem_cons.mp q with q | q
              · cases q
                exact ⟨⟨by dsimp only; omega, by dsimp only; omega, by rw [M.kinds]; exact (hx _ hx').1⟩, hx'⟩
              · exact ro _ (List.mem_of_mem_drop q)
end
end K35
set_option Elab.async false
set_option linter.all false
set_option maxRecDepth 100000
/-! K35C: the labelled machine. -/
namespace K35
open PySem PySem.Spec PyProof.Rows L2 DL PA
def cutM (m : Mach) : Mach := ⟨m.begins, m.pts, List.replicate m.pts.length []⟩
theorem cutM_mv {m : Mach} {r : List Mv} (h : r ∈ (cutM m).mvs) : r = [] := List.eq_of_mem_replicate h
theorem MDr.cutM {m : Mach} {K R E N : Nat} (d : MDr m K R E N) : MDr (cutM m) K R 0 N where
  ok := ⟨d.ok.kinds, by simp [K35.cutM], d.ok.beg, d.ok.rows, d.ok.at_, d.ok.live, d.ok.way, fun r hr => by rw [cutM_mv hr]; rfl, fun i r p hi _ q hq => by rw [cutM_mv (List.mem_of_getElem? hi)] at hq; simp at hq⟩
  pos := d.pos
  small := d.small
  lab := d.lab
  rank := d.rank
  asc := fun i r hi q hq => by rw [cutM_mv (List.mem_of_getElem? hi)] at hq; simp at hq
theorem MDr.s {m : Mach} {K R E N : Nat} (d : MDr m K R E N) (hK : K ≤ 2) (hR : R ≤ 2) (hN : N ≤ 20) (hE : E ≤ 5) : MachS m where
  b1 := by rw [d.ok.kinds]; exact hK
  b2 := fun b hb => by
    obtain ⟨p, e, _⟩ := d.ok.beg b hb
    have := lt_of_some e
    have := d.small
    omega
  p1 := by have := d.small; omega
  p2 := fun p hp => by
    refine ⟨by rw [d.ok.rows p hp]; exact hR, by have := (d.ok.live p hp).2; omega, fun s hs => ⟨by have := d.rank p hp s hs; omega, by have := d.ok.at_ p hp s hs; have := (d.ok.live p hp).2; omega⟩, fun q hq => ?_⟩
    rw [d.lab p hp] at hq
    cases hq
  m1 := by rw [d.ok.mvl]; have := d.small; omega
  m2 := fun r hr => by
    refine ⟨by rw [d.ok.deeds r hr]; exact hE, fun q hq => ?_⟩
    obtain ⟨i, hi⟩ := List.mem_iff_getElem?.mp hr
    have hp : i < m.pts.length := by rw [← d.ok.mvl]; exact lt_of_some hi
    obtain ⟨p', h1, h2, h3⟩ := d.ok.mv i r _ hi (List.getElem?_eq_getElem hp) q hq
    have l1 := lt_of_some h1
    have := d.small
    have l2 := (d.ok.live _ (List.mem_of_getElem? h1)).2
    have l3 := (d.ok.live _ (List.getElem_mem hp)).2
    exact ⟨by omega, by omega, fun k hk => by have := h3 k hk; omega⟩
def PtS (R : Nat) (p : Pt) : Prop := p.st.length = R ∧ (p.st.length ≤ 2 ∧ p.live ≤ 999999 ∧ (∀ s ∈ p.st, s.1 ≤ 999999 ∧ s.2.2 ≤ 999999) ∧ ∀ q, p.lab = some q → q.1 ≤ 999999 ∧ q.2 ≤ 999999)
def MvS (r : List Mv) : Prop := r.length ≤ 5 ∧ ∀ q, some q ∈ r → q.1 ≤ 999999 ∧ q.2.length ≤ 3 ∧ ∀ k, some k ∈ q.2 → k ≤ 999999
def toM (c : Nat) : Mv → Mv := Option.map fun q => (c + q.1, q.2)
theorem mul_ok {i j : Nat} (hi : i ≤ 1000) (hj : j ≤ 1000) : CMul (i : Int) (j : Int) := by unfold CMul; omega
section
variable {m : Mach} {K R E : Nat} {h : Hm}
theorem labelled_wp (b : Bg h) (d : MDr m K R E 5) (hK : K ≤ 2) (hR : R ≤ 2) (hE : E ≤ 5) :
    Wp (F_l_labelled [dMach m] h) fun d h' => Kb h h' ∧ ∃ m', d = dMach m' ∧ MachS m' ∧ ∀ p ∈ m'.pts, p.st.length = R := by
  have ms := MDr.s d hK hR (by decide) hE
  have hN := d.small
  have M := d.ok
  unfold F_l_labelled
  rw [w_runF, m_l_labelled]
  refine ws_cut fun Kc hKc => ?_
  simp [-getElem?_pos, List.getElem?_cons_zero, List.getElem?_cons_succ, M.kinds]
  refine ⟨size_ok (by omega), hKc _ _ (ws_cut fun Kc hKc => ?_)⟩
  simp [-getElem?_pos, List.getElem?_cons_zero, List.getElem?_cons_succ, M.kinds]
  refine ⟨by omega, ?_⟩
  refine for_rng (fun i δ h2 => ∃ (x1 x5 x6 : Option D) (ls : List Pt) (mm : List (List Mv)), δ = [some (dMach m), x1, some (.int (m.pts.length : Nat)), some (.ref h.length), some (.ref (h.length + 1)), x5, x6] ∧ Kb h h2 ∧ h2[h.length]? = some (.lst (ls.map dPt)) ∧ h2[h.length + 1]? = some (.lst (mm.map dMvs)) ∧ ls.length = i * m.pts.length ∧ mm.length = i * m.pts.length ∧ (∀ p ∈ ls, PtS R p) ∧ ∀ r ∈ mm, MvS r) ?_ ?_ ?_
  · exact ⟨none, none, none, [], [], rfl, (Kb.refl b).app, app_new, app_new2, by simp, by simp, by simp, by simp⟩
  · rintro i δ h2 hi ⟨x1, x5, x6, ls, mm, rfl, k2, e1, e2, l1, l2, hls, hmm⟩
    simp only [List.set_cons_succ, List.set_cons_zero]
    simp [-getElem?_pos, List.getElem?_cons_zero, List.getElem?_cons_succ, M.kinds]
    refine ⟨by omega, ?_⟩
    refine for_rng (fun j δ h2 => ∃ (x5 x6 : Option D) (ls : List Pt) (mm : List (List Mv)), δ = [some (dMach m), some (.int (i : Nat)), some (.int (m.pts.length : Nat)), some (.ref h.length), some (.ref (h.length + 1)), x5, x6] ∧ Kb h h2 ∧ h2[h.length]? = some (.lst (ls.map dPt)) ∧ h2[h.length + 1]? = some (.lst (mm.map dMvs)) ∧ ls.length = i * m.pts.length + j ∧ mm.length = i * m.pts.length + j ∧ (∀ p ∈ ls, PtS R p) ∧ ∀ r ∈ mm, MvS r) ?_ ?_ ?_
    · exact ⟨x5, x6, ls, mm, rfl, k2, e1, e2, by omega, by omega, hls, hmm⟩
    · rintro j δ h3 hj ⟨x5, x6, ls, mm, rfl, k3, e1, e2, l1, l2, hls, hmm⟩
      simp only [List.set_cons_succ, List.set_cons_zero]
      have ep := List.getElem?_eq_getElem hj
      have hpm := List.getElem_mem hj
      have er := List.getElem?_eq_getElem (l := m.mvs) (i := j) (by rw [M.mvl]; exact hj)
      have hrm := List.getElem_mem (l := m.mvs) (n := j) (by rw [M.mvl]; exact hj)
      generalize m.pts[j] = p at ep hpm
      generalize m.mvs[j]'(by rw [M.mvl]; exact hj) = r at er hrm
      have hil : i * m.pts.length ≤ 5 := by
        have : i ≤ 1 := by omega
        calc i * m.pts.length ≤ 1 * 5 := Nat.mul_le_mul this hN
          _ = 5 := by decide
      refine ws_cut fun Kc hKc => ?_
      simp [-getElem?_pos, List.getElem?_cons_zero, List.getElem?_cons_succ, ep, e1]
      refine ⟨size_ok (by decide), size_ok (by decide), size_lt (by omega), hKc _ _ ?_⟩
      have k4 : Kb h (h3.set h.length (.lst (ls.map dPt ++ [.tup [.tup (p.st.map dSd), .int (p.live : Nat), .tup [.int (i : Nat), .int (j : Nat)]]]))) := k3.setn (Nat.le_refl _) b
      have e14 : (h3.set h.length (.lst (ls.map dPt ++ [.tup [.tup (p.st.map dSd), .int (p.live : Nat), .tup [.int (i : Nat), .int (j : Nat)]]])))[h.length]? = some (.lst ((ls ++ [(⟨p.st, p.live, some (i, j)⟩ : Pt)]).map dPt)) := by
        rw [List.getElem?_set_self (lt_of_some e1), List.map_append]
        rfl
      have e24 : (h3.set h.length (.lst (ls.map dPt ++ [.tup [.tup (p.st.map dSd), .int (p.live : Nat), .tup [.int (i : Nat), .int (j : Nat)]]])))[h.length + 1]? = some (.lst (mm.map dMvs)) := by
        rw [List.getElem?_set_ne (by omega)]
        exact e2
      generalize h3.set h.length (.lst (ls.map dPt ++ [.tup [.tup (p.st.map dSd), .int (p.live : Nat), .tup [.int (i : Nat), .int (j : Nat)]]])) = h4 at k4 e14 e24 ⊢
      clear e1 e2 hKc
      simp [-getElem?_pos, List.getElem?_cons_zero, List.getElem?_cons_succ, er, dMvs, e24]
      have hr5 : r.length ≤ 5 := by rw [M.deeds r hrm]; exact hE
      refine comp_f dMv (fun o => dMv (toM (i * m.pts.length) o)) r (size_ok (by omega)) ?_ (fun o ho h5 k5 => ?_) (fun h5 q k5 hq e5 => ?_)
      · simp [-getElem?_pos, List.getElem?_cons_zero, List.getElem?_cons_succ, er, dMvs, Kp.refl]
      · cases o with
        | none => simp [-getElem?_pos, List.getElem?_cons_zero, List.getElem?_cons_succ, wipeL, dMv, toM, Kp.refl]
        | some z =>
          simp [-getElem?_pos, List.getElem?_cons_zero, List.getElem?_cons_succ, wipeL, dMv, toM, Kp.refl]
          exact ⟨mul_ok (by omega) (by omega), size_ok (by decide)⟩
      · have e15 := k5.get e14
        have e25 := k5.get e24
        simp [-getElem?_pos, List.getElem?_cons_zero, List.getElem?_cons_succ, e5, e25]
        refine ⟨size_lt (by omega), (k4.q k5).setn (by omega) b, ls ++ [⟨p.st, p.live, some (i, j)⟩], e15, mm ++ [r.map (toM (i * m.pts.length))], ?_, by simp; omega, by simp; omega, ?_, ?_⟩
        · rw [List.getElem?_set_self (lt_of_some e25), List.map_append, List.map_cons, List.map_nil]
          simp only [dMvs, List.map_map]
          rfl
        · intro x hx
          rcases List.mem_append.mp hx with q | q
          · exact hls _ q
          · have q := List.mem_singleton.mp q
            subst q
            have s := ms.p2 p hpm
            exact ⟨M.rows p hpm, s.1, s.2.1, s.2.2.1, fun z hz => by cases hz; dsimp only; omega⟩
        · intro x hx
          rcases List.mem_append.mp hx with q | q
          · exact hmm _ q
          · have q := List.mem_singleton.mp q
            subst q
            refine ⟨by simp; exact hr5, fun z hz => ?_⟩
            obtain ⟨o, ho, e⟩ := List.mem_map.mp hz
            cases o with
            | none => cases e
            | some w =>
              cases e
              have s := (ms.m2 r hrm).2 w ho
              obtain ⟨pt, g1, _⟩ := M.mv j r p er ep w ho
              have := lt_of_some g1
              exact ⟨by dsimp only; omega, s.2.1, s.2.2⟩
    · rintro δ h3 ⟨x5, x6, ls, mm, rfl, k3, e1, e2, l1, l2, hls, hmm⟩
      exact ⟨⟨_, x5, x6, rfl⟩, k3, ls, e1, mm, e2, by rw [l1, Nat.succ_mul], by rw [l2, Nat.succ_mul], hls, hmm⟩
  · rintro δ h3 ⟨x1, x5, x6, ls, mm, rfl, k3, e1, e2, l1, l2, hls, hmm⟩
    refine hKc _ _ ?_
    simp [-getElem?_pos, List.getElem?_cons_zero, List.getElem?_cons_succ, M.kinds]
    refine comp_f dNat (fun k => dNat (k * m.pts.length + m.begins.getD k 0)) (List.range K) (size_ok (by rw [List.length_range]; omega)) ?_ (fun k hk h4 k4 => ?_) (fun h4 r k4 hr4 e4 => ?_)
    · simp [M.kinds, rng_map, Kp.refl]
      omega
    · have hkK : k < K := List.mem_range.mp hk
      have eb := List.getElem?_eq_getElem (l := m.begins) (i := k) (by rw [M.kinds]; exact hkK)
      simp [wipeL, dNat, eb, List.getD, Kp.refl]
      exact mul_ok (by omega) (by omega)
    · have kk := k3.q k4
      have e14 := k4.get e1
      have e24 := k4.get e2
      simp [-getElem?_pos, List.getElem?_cons_zero, List.getElem?_cons_succ, e4, e14, e24]
      have l5 : K * m.pts.length ≤ 10 := by
        calc K * m.pts.length ≤ 2 * 5 := Nat.mul_le_mul hK hN
          _ = 10 := by decide
      refine ⟨size_ok (by decide), kk, ⟨(List.range K).map fun k => k * m.pts.length + m.begins.getD k 0, ls, mm⟩, ?_, ⟨by simp; exact hK, ?_, by dsimp only; omega, fun p hp => (hls p hp).2, by dsimp only; omega, hmm⟩, fun p hp => (hls p hp).1⟩
      · simp only [dMach, List.map_map]
        rfl
      · intro x hx
        obtain ⟨k, hk, rfl⟩ := List.mem_map.mp hx
        have hkK : k < K := List.mem_range.mp hk
        have eb := List.getElem?_eq_getElem (l := m.begins) (i := k) (by rw [M.kinds]; exact hkK)
        have : k * m.pts.length ≤ 2 * 5 := Nat.mul_le_mul (by omega) hN
        have := ms.b2 _ (List.getElem_mem (l := m.begins) (n := k) (by rw [M.kinds]; exact hkK))
        obtain ⟨pt, e, _⟩ := M.beg _ (List.getElem_mem (l := m.begins) (n := k) (by rw [M.kinds]; exact hkK))
        have := lt_of_some e
        rw [List.getD_eq_getElem?_getD, eb, Option.getD_some]
        omega
end
end K35
set_option Elab.async false
set_option linter.all false
set_option maxRecDepth 100000
/-! K35D: the law. -/
namespace K35
open PySem PySem.Spec PyProof.Rows L2 DL PA
theorem cutM_d (m : Mach) : dMach (cutM m) = .tup [.tup (m.begins.map dNat), .tup (m.pts.map dPt), .tup (List.replicate m.pts.length (.tup []))] := by
  unfold dMach cutM
  simp only [List.map_replicate]
  rfl
theorem law_true (ns : List Int) (hn : ns.length ≤ 63) : ∃ h', F_law [.rol (ns.map D.int)] [] = some (.bl true, h') := by
  suffices w : Wp (F_law [.rol (ns.map D.int)] []) fun d _ => d = .bl true by
    obtain ⟨d, h', e, rfl⟩ := w
    exact ⟨h', e⟩
  unfold F_law
  rw [w_runF, m_law]
  refine ws_cut fun Kc hK => ?_
  simp
  refine (bag_wp hn).imp ?_
  rintro d h0 ⟨rfl, b0, l0⟩
  refine hK _ _ (ws_cut fun Kc hK => ?_)
  simp
  refine for_rng (fun i δ h => ∃ x2 x3 x4 x5 x6 x7 x8 x9 x10 x11 x12 x13 x14, δ = [some (.rol (ns.map .int)), some (.ref 2), x2, x3, x4, x5, x6, x7, x8, x9, x10, x11, x12, x13, x14] ∧ Bg h) ⟨none, none, none, none, none, none, none, none, none, none, none, none, none, rfl, b0⟩ ?_ ?_
  · rintro i δ h hi ⟨x2, x3, x4, x5, x6, x7, x8, x9, x10, x11, x12, x13, x14, rfl, b⟩
    simp only [List.set_cons_succ, List.set_cons_zero]
    refine ws_cut fun Kc hK => ?_
    simp
    refine (take_wp b (u := 2) (by decide) (by decide)).imp ?_
    rintro d h1 ⟨v1, hv1, rfl, k1⟩
    simp
    refine (take_wp k1.bg (u := 2) (by decide) (by decide)).imp ?_
    rintro d h2 ⟨v2, hv2, rfl, k2⟩
    simp only [w_dAdd_int]
    have c1 : (1 : Int) + (v1 : Int) = ((1 + v1 : Nat) : Int) := by omega
    have c2 : (1 : Int) + (v2 : Int) = ((1 + v2 : Nat) : Int) := by omega
    rw [c1, c2]
    generalize hkinds : 1 + v1 = kinds
    generalize hrows : 1 + v2 = rows
    have hkinds2 : 1 ≤ kinds ∧ kinds ≤ 2 := by omega
    have hrows2 : 1 ≤ rows ∧ rows ≤ 2 := by omega
    clear c1 c2 hkinds hrows
    have wm := machine_wp (kinds := kinds) (points := 5) (live := 3) (rows := rows) (deeds := 5) k2.bg (by omega) (by omega) (by omega) (by omega) (by omega)
    refine wm.imp ?_
    rintro d h3 ⟨k3, m, E, rfl, hE1, hE2, md⟩
    have b3 := k3.bg
    refine hK _ _ (ws_cut fun Kc hK => ?_)
    clear wm k1 k2 k3 b hv1 hv2
    have rest : ∀ (m : Mach) (E : Nat) (h : Hm), E ≤ 5 → MDr m kinds rows E 5 → Bg h → Kc [some (.rol (ns.map .int)), some (.ref 2), some (.int (i : Nat)), some (dMach m), x4, x5, x6, x7, x8, x9, x10, x11, x12, x13, x14] h := by
      clear hE1 hE2 md b3 h3 m E
      intro m E h3 hE md b3
      have M := md.ok
      have hm0 : 0 < m.mvs.length := by rw [md.ok.mvl]; exact md.pos
      have em0 := List.getElem?_eq_getElem hm0
      have eml := md.ok.deeds _ (List.getElem_mem hm0)
      have ep0 := List.getElem?_eq_getElem md.pos
      have epl := md.ok.rows _ (List.getElem_mem md.pos)
      generalize m.mvs[0] = r0 at em0 eml
      generalize m.pts[0]'md.pos = p0 at ep0 epl
      refine hK _ _ (ws_cut fun Kc hK => ?_)
      simp [-getElem?_pos, List.getElem?_cons_zero, List.getElem?_cons_succ, em0, ep0, dMvs, eml, epl]
      refine hK _ _ (ws_cut fun Kc hK => ?_)
      simp [-getElem?_pos, List.getElem?_cons_zero, List.getElem?_cons_succ, kinds_wp, deeds_wp em0, rows_wp ep0, eml, epl]
      refine ⟨size_ok (by decide), hK _ _ (ws_cut fun Kc hK => ?_)⟩
      have b4 : Bg (h3 ++ [MO.lst [.int (m.begins.length : Nat), .int ((E : Int) + 1), .int (rows : Nat)]]) := ((Kb.refl b3).app).bg
      have e4 : (h3 ++ [MO.lst [.int (m.begins.length : Nat), .int ((E : Int) + 1), .int (rows : Nat)]])[h3.length]? = some (.lst (([(m.begins.length : Nat), (E : Int) + 1, (rows : Nat)] : List Int).map D.int)) := app_new
      have l4 : (h3 ++ [MO.lst [.int (m.begins.length : Nat), .int ((E : Int) + 1), .int (rows : Nat)]]).length = h3.length + 1 := by simp
      generalize h3 ++ [MO.lst [.int (m.begins.length : Nat), .int ((E : Int) + 1), .int (rows : Nat)]] = h4 at b4 e4 l4 ⊢
      simp [-getElem?_pos, List.getElem?_cons_zero, List.getElem?_cons_succ, ]
      have e4b : (h4 ++ [MO.lst [.int (m.begins.length : Nat), .int ((E : Int) + 1), .int (rows : Nat)]])[h3.length]? = some (.lst (([(m.begins.length : Nat), (E : Int) + 1, (rows : Nat)] : List Int).map D.int)) := (List.getElem?_append_left (lt_of_some e4)).trans e4
      have e4c : (h4 ++ [MO.lst [.int (m.begins.length : Nat), .int ((E : Int) + 1), .int (rows : Nat)]])[h4.length]? = some (.lst (([(m.begins.length : Nat), (E : Int) + 1, (rows : Nat)] : List Int).map D.int)) := app_new
      have hmk := M.kinds
      have aw := alike_wp (x := .ref h3.length) (y := .ref h4.length) rfl (py_ints e4b) (py_ints e4c) (sm_ints (fun x hx => by
        simp only [List.mem_cons, List.not_mem_nil, or_false] at hx
        rcases hx with rfl | rfl | rfl <;> omega)) (by decide) (by simp)
      refine ⟨size_ok (by decide), aw.imp ?_⟩
      rintro d h5 ⟨rfl, rfl⟩
      have b5 : Bg (h4 ++ [MO.lst [.int (m.begins.length : Nat), .int ((E : Int) + 1), .int (rows : Nat)]]) := ((Kb.refl b4).app).bg
      generalize h4 ++ [MO.lst [.int (m.begins.length : Nat), .int ((E : Int) + 1), .int (rows : Nat)]] = h5 at b5 ⊢
      clear aw e4 e4b e4c b4 l4
      simp [dTru]
      refine hK _ _ (ws_cut fun Kc hK => ?_)
      simp
      refine (take_wp b5 (u := 7) (by decide) (by decide)).imp ?_
      rintro d h6 ⟨v4, hv4, rfl, k6⟩
      simp only [w_dAdd_int]
      rw [show (1 : Int) + (v4 : Int) = ((1 + v4 : Nat) : Int) by omega, show ((m.begins.length : Nat) : Int) = ((kinds : Nat) : Int) by rw [M.kinds]]
      have wt := some_things_wp (kinds := kinds) (many := 1 + v4) k6.bg (by omega) (by omega)
      refine wt.imp ?_
      rintro d h7 ⟨k7, rT, xs, rfl, hrT, eT, xnd, xso, xsK, xsl, xs0⟩
      refine hK _ _ (ws_cut fun Kc hK => ?_)
      simp
      refine (take_wp k7.bg (u := 31) (by decide) (by decide)).imp ?_
      rintro d h8 ⟨many, hmany, rfl, k8⟩
      have nT : rT ≠ 2 := by have := k6.bg.len; omega
      have wr := run_of_wp k8.bg md (by decide) (by omega) (k8.get eT nT) nT (fun x hx => (xsK x hx).1) (xs0 (by omega)) (by omega) (many := many) (by omega)
      refine wr.imp ?_
      rintro d h9 ⟨k9, rR, run, kvs, rfl, hrR, eR, lrun, ro, el⟩
      have nR : rR ≠ 2 := by have := k8.bg.len; omega
      have eT9 := k9.get (k8.get eT nT) nT
      have b9 := k9.bg
      clear wt wr k6 k7 k8 k9 hrT hrR eT b5
      have ths : ∀ x ∈ xs, ThS x := fun x hx => ⟨by have := (xsK x hx).1; omega, by have := (xsK x hx).2; omega⟩
      refine hK _ _ (ws_cut fun Kc hK => ?_)
      simp
      have wb := bent_wp (K := kinds) b9 M md.pos (by omega) eR eT9 nR nT ro xsK (by omega) (xs0 (by omega)) (by omega) (by omega)
      refine wb.imp ?_
      rintro d h10 ⟨k10, rB, bent, rfl, hrB, eB, bo, lb⟩
      have l9 := b9.len
      have eR10 := k10.get eR nR
      have b10 := k10.bg
      have l10 := b10.len
      refine ⟨size_ok (by decide), ?_⟩
      have hL : ∀ p ∈ [(rR, run), (rB, bent), (h10.length, ([] : List Rt))], p.1 ≠ 2 ∧ (∀ q ∈ p.2, RtOk m E q ∧ q.2 ∈ xs) ∧ p.2.length ≤ 100 := by
        intro p hp
        simp only [List.mem_cons, List.not_mem_nil, or_false] at hp
        rcases hp with rfl | rfl | rfl
        · exact ⟨nR, ro, by dsimp only; omega⟩
        · exact ⟨by dsimp only; omega, bo, by dsimp only; omega⟩
        · exact ⟨by dsimp only; omega, by simp, by simp⟩
      have eL : ∀ p ∈ [(rR, run), (rB, bent), (h10.length, ([] : List Rt))], (h10 ++ [MO.lst []])[p.1]? = some (.lst (p.2.map dRt)) := by
        intro p hp
        simp only [List.mem_cons, List.not_mem_nil, or_false] at hp
        rcases hp with rfl | rfl | rfl
        · exact (List.getElem?_append_left (lt_of_some eR10)).trans eR10
        · exact (List.getElem?_append_left (lt_of_some eB)).trans eB
        · exact app_new
      have b11 : Bg (h10 ++ [MO.lst []]) := ((Kb.refl b10).app).bg
      rw [show ([D.ref rR, D.ref rB, D.ref h10.length] : List D) = [(rR, run), (rB, bent), (h10.length, ([] : List Rt))].map fun p => .ref p.1 from rfl]
      generalize [(rR, run), (rB, bent), (h10.length, ([] : List Rt))] = L at hL eL ⊢
      generalize h10 ++ [MO.lst []] = h11 at eL b11 ⊢
      clear eB hrB wb k10 b10 eR10 b9 eT9 eR
      refine for_inv (fun _ δ h => ∃ x7 x11 x12 x13 x14, δ = [some (.rol (ns.map .int)), some (.ref 2), some (.int (i : Nat)), some (dMach m), some (.ref h3.length), some (.ref rT), some (.ref rR), x7, x8, some (.int (rows : Nat)), some (.int (E : Nat)), x11, x12, x13, x14] ∧ Bg h ∧ ∀ p ∈ L, h[p.1]? = some (.lst (p.2.map dRt))) _ ⟨x7, x11, x12, x13, x14, rfl, b11, eL⟩ ?_ ?_
      · rintro j d δ h ed ⟨x7, x11, x12, x13, x14, rfl, b, eL⟩
        refine ⟨trivial, ?_⟩
        rw [List.getElem?_map, Option.map_eq_some_iff] at ed
        obtain ⟨⟨r, run'⟩, ep, rfl⟩ := ed
        have hp := List.mem_of_getElem? ep
        obtain ⟨hr2, hro, hlen⟩ := hL _ hp
        have er := eL _ hp
        dsimp only at hr2 hro hlen er
        have ro1 : ∀ q ∈ run', RtOk m E q := fun q hq => (hro q hq).1
        have tk : ∀ r ∈ m.mvs, ∀ q, some q ∈ r → q.2.length ≤ 1000 := fun r hr q hq => Nat.le_trans (md.tk r hr q hq) (by decide)
        have rts : ∀ q ∈ run', RtS q := fun q hq => ⟨⟨by have := (hro q hq).1.1; omega, by have := (hro q hq).1.2.1; omega⟩, ths _ (hro q hq).2⟩
        simp only [w_gN, List.set_cons_succ, List.set_cons_zero]
        refine ws_cut fun Kc hK => ?_
        simp [-getElem?_pos, List.getElem?_cons_zero, List.getElem?_cons_succ, er]
        have k1 : Kb h (h ++ [MO.lst (run'.map dRt)]) := (Kb.refl b).app
        have er1 : (h ++ [MO.lst (run'.map dRt)])[r]? = some (.lst (run'.map dRt)) := (List.getElem?_append_left (lt_of_some er)).trans er
        have eg1 : (h ++ [MO.lst (run'.map dRt)])[h.length]? = some (.lst (run'.map dRt)) := app_new
        have hb := b.len
        generalize h ++ [MO.lst (run'.map dRt)] = h1 at k1 er1 eg1 ⊢
        have wbar := barred_at_wp M (by omega) tk er1 ro1 (by omega)
        refine wbar.imp ?_
        rintro db h2 ⟨k2, hdb⟩
        refine hK _ _ (ws_cut fun Kc hK => ?_)
        have er2 := k2.get er1
        have eg2 := k2.get eg1
        simp [-getElem?_pos, List.getElem?_cons_zero, List.getElem?_cons_succ, ]
        have wfb := first_barred_wp M tk eg2 ro1 (by omega)
        refine wfb.imp ?_
        rintro db2 h3b ⟨k3, hdb2⟩
        have er3 := k3.get er2
        have eg3 := k3.get eg2
        have wne : ∀ (h : Hm) (Q : D → Hm → Prop), h[r]? = some (.lst (run'.map dRt)) → ∀ g : Nat, h[g]? = some (.lst (run'.map dRt)) → (Wp (dNe (.ref g) (.ref r) h) Q ↔ Q (.bl false) h) := fun h Q e g e2 => w_ne_same rfl (py_run e2) (py_run e) (sm_run rts (by omega)) (by decide)
        have k03 := (k1.q k2).q k3
        cases el2 : led m [] run' 0 0 with
        | inl k =>
          rw [el2] at hdb hdb2
          subst hdb hdb2
          have := led_idx _ _ _ _ _ el2
          refine (alike_int (i := (k : Nat)) (by omega) (by omega)).imp ?_
          rintro d h4 ⟨rfl, rfl⟩
          simp [-getElem?_pos, List.getElem?_cons_zero, List.getElem?_cons_succ, dTru]
          rw [wne _ _ er3 _ eg3]
          simp [-getElem?_pos, List.getElem?_cons_zero, List.getElem?_cons_succ, ]
          refine hK _ _ ?_
          simp [-getElem?_pos, List.getElem?_cons_zero, List.getElem?_cons_succ, ]
          exact ⟨k03.bg, fun a b hab => k03.get (eL _ hab) (hL _ hab).1⟩
        | inr kv2 =>
          rw [el2] at hdb hdb2
          subst hdb hdb2
          refine alike_non.imp ?_
          rintro d h4 ⟨rfl, rfl⟩
          simp [-getElem?_pos, List.getElem?_cons_zero, List.getElem?_cons_succ, dTru]
          rw [wne _ _ er3 _ eg3]
          simp [-getElem?_pos, List.getElem?_cons_zero, List.getElem?_cons_succ, ]
          refine hK _ _ (ws_cut fun Kc hK => ?_)
          simp [-getElem?_pos, List.getElem?_cons_zero, List.getElem?_cons_succ, ]
          have f := (Fine.nil (m := m)).led M (run := run') (now := 0) (k := 0) (fun q hq => ⟨ro1 q hq, (rts q hq).2⟩) el2
          have fk : Fine m 500 1000 kv2 := ⟨f.ok, f.th, fun p hp t ht => by have := f.tm p hp t ht; omega, f.td, by have := f.len; omega⟩
          have ff := fk.srt.figs (M := M) (by decide) (by have := md.small; omega)
          have lk : (srt kv2).length ≤ 500 := fk.srt.len
          have sk := sm_figs ff (by omega)
          have wf := figures_wp M (by omega) er3 ro1 (by omega) tk
          refine wf.imp ?_
          rintro df h5 ⟨k5, lf⟩
          rw [el2] at lf
          obtain ⟨rf, rfl, hrf, ef⟩ := lf
          have k05 := k03.q k5
          have er5 := k5.get er3
          have eg5 := k5.get eg3
          refine hK _ _ (ws_cut fun Kc hK => ?_)
          simp [-getElem?_pos, List.getElem?_cons_zero, List.getElem?_cons_succ, ]
          have wg := figures_of_wp M tk eg5 ro1 (by omega)
          refine wg.imp ?_
          rintro dg h6 ⟨k6, lg⟩
          rw [el2] at lg
          obtain ⟨rg, rfl, hrg, eg⟩ := lg
          have k06 := k05.q k6
          have er6 := k6.get er5
          have eg6 := k6.get eg5
          have ef6 := k6.get ef
          have bf := lt_of_some ef
          simp [-getElem?_pos, List.getElem?_cons_zero, List.getElem?_cons_succ, ]
          refine hK _ _ (ws_cut fun Kc hK => ?_)
          simp [-getElem?_pos, List.getElem?_cons_zero, List.getElem?_cons_succ, ]
          have wa := alike_wp (h := h6) (p := .list ((srt kv2).map pPr)) rfl (py_figs (by decide) eg) (py_figs (by decide) ef6) sk (by decide) (by decide)
          refine wa.imp ?_
          rintro d h7 ⟨rfl, rfl⟩
          simp [-getElem?_pos, List.getElem?_cons_zero, List.getElem?_cons_succ, dTru]
          have ws := stands_wp M md.pos (by have := md.small; omega) (by omega) ef6 fk.srt
          refine ws.imp ?_
          rintro d h8 ⟨k8, rfl⟩
          simp [-getElem?_pos, List.getElem?_cons_zero, List.getElem?_cons_succ, dTru]
          have k08 := k06.q k8
          have er8 := k8.get er6
          have eg8 := k8.get eg6
          have ef8 := k8.get ef6
          have eg8b := k8.get eg
          refine hK _ _ (ws_cut fun Kc hK => ?_)
          simp [-getElem?_pos, List.getElem?_cons_zero, List.getElem?_cons_succ, eg8b]
          refine ⟨size_lt (by omega), ?_⟩
          have l05 := k05.kp.len
          have lgi := lt_of_some eg5
          have lri := lt_of_some er5
          have k09 : Kb h (h8.set rg (MO.lst ((srt kv2).map dPr ++ [D.non]))) := k08.setn (by omega) b
          have ns9 : ∀ (j : Nat) (o : MO), j < h5.length → h8[j]? = some o → (h8.set rg (MO.lst ((srt kv2).map dPr ++ [D.non])))[j]? = some o := fun j o hj e => by
            rw [List.getElem?_set_ne (by omega)]
            exact e
          have er9 := ns9 _ _ lri er8
          have eg9 := ns9 _ _ lgi eg8
          have ef9 := ns9 _ _ bf ef8
          generalize h8.set rg (MO.lst ((srt kv2).map dPr ++ [D.non])) = h9 at k09 er9 eg9 ef9 ⊢
          refine hK _ _ ?_
          simp [-getElem?_pos, List.getElem?_cons_zero, List.getElem?_cons_succ, ]
          refine fok_wp ?_
          have wg2 := figures_of_wp M tk eg9 ro1 (by omega)
          refine wg2.imp ?_
          rintro dg h10 ⟨k10, lg⟩
          rw [el2] at lg
          obtain ⟨rg2, rfl, hrg2, eg2'⟩ := lg
          simp [-getElem?_pos, List.getElem?_cons_zero, List.getElem?_cons_succ, ]
          have wa2 := alike_wp (h := h10) (p := .list ((srt kv2).map pPr)) rfl (py_figs (by decide) eg2') (py_figs (by decide) (k10.get ef9)) sk (by decide) (by decide)
          refine wa2.imp ?_
          rintro d h11 ⟨rfl, rfl⟩
          simp [-getElem?_pos, List.getElem?_cons_zero, List.getElem?_cons_succ, dTru]
          rw [wne _ _ (k10.get er9) _ (k10.get eg9)]
          simp [-getElem?_pos, List.getElem?_cons_zero, List.getElem?_cons_succ, ]
          have k010 := k09.q k10
          exact ⟨k010.bg, fun a b hab => k010.get (eL _ hab) (hL _ hab).1⟩
      · rintro δ h ⟨x7, x11, x12, x13, x14, rfl, b, eL⟩
        refine ⟨trivial, ?_⟩
        clear eL b11 l10 l9 bo lb
        refine hK _ _ (ws_cut fun Kc hK => ?_)
        simp
        have tk : ∀ r ∈ m.mvs, ∀ q, some q ∈ r → q.2.length ≤ 1000 := fun r hr q hq => Nat.le_trans (md.tk r hr q hq) (by decide)
        have wp := pasts_wp b M tk md.pos (by have := md.small; omega) (by omega) (by omega)
        refine wp.imp ?_
        rintro d h2 ⟨k2, rfl⟩
        have b2 := k2.bg
        simp [dTru]
        refine hK _ _ (ws_cut fun Kc hK => ?_)
        clear wp k2 b
        have ms := MDr.s md (by omega) (by omega) (by decide) hE
        simp
        refine ⟨by omega, ?_⟩
        refine for_rng (fun j δ h => ∃ x7 x8 x11 x12 x13 x14, δ = [some (.rol (ns.map .int)), some (.ref 2), some (.int (i : Nat)), some (dMach m), some (.ref h3.length), some (.ref rT), some (.ref rR), x7, x8, some (.int (rows : Nat)), some (.int (E : Nat)), x11, x12, x13, x14] ∧ Bg h) ⟨x7, x8, x11, x12, x13, x14, rfl, b2⟩ ?_ ?_
        · rintro j δ h hj ⟨x7, x8, x11, x12, x13, x14, rfl, b⟩
          simp only [List.set_cons_succ, List.set_cons_zero]
          simp
          have w1 := row_machine_wp (h := h) (m := m) (row := j) (fun p hp => by rw [M.rows p hp]; exact hj) (by have := md.small; omega)
          refine w1.imp ?_
          rintro d h3 ⟨k3, rfl⟩
          have w2 := of_row_wp (h := h3) (m := m) (row := j) (fun p hp => by rw [M.rows p hp]; exact hj) (by have := md.small; omega)
          refine w2.imp ?_
          rintro d h4 ⟨k4, rfl⟩
          refine (alike_mach (ms.row j)).imp ?_
          rintro d h5 ⟨rfl, rfl⟩
          simp [dTru]
          exact b.keep (k3.trans k4) (fun z => z) (fun z => z)
        · rintro δ h ⟨x7, x8, x11, x12, x13, x14, rfl, b⟩
          refine hK _ _ (ws_cut fun Kc hK => ?_)
          simp
          have wl := labelled_wp b md (by omega) (by omega) hE
          refine wl.imp ?_
          rintro d h2 ⟨k2, m', rfl, ms', hst⟩
          have b2 := k2.bg
          refine hK _ _ ?_
          simp
          refine comp_b dNat (List.range rows) (fun _ => false) (fun _ _ => True) b2 (size_ok (by rw [List.length_range]; omega)) ?_ ?_ ?_
          · simp [rng_map]
            exact ⟨by omega, Kb.refl b2⟩
          · intro j hj h4 k4
            have hj' : j < rows := List.mem_range.mp hj
            simp [wipeL, dNat]
            have w1 := row_machine_wp (h := h4) (m := m') (row := j) (fun p hp => by rw [hst p hp]; exact hj') (by have := ms'.p1; omega)
            refine w1.imp ?_
            rintro d h5 ⟨k5, rfl⟩
            have w2 := of_row_wp (h := h5) (m := m') (row := j) (fun p hp => by rw [hst p hp]; exact hj') (by have := ms'.p1; omega)
            refine w2.imp ?_
            rintro d h6 ⟨k6, rfl⟩
            refine (alike_mach (ms'.row j)).imp ?_
            rintro d h7 ⟨rfl, rfl⟩
            simp [dTru]
            exact Kq.kb (k5.trans k6) k4.bg
          · intro h4 r ys k4 hr e w
            have hys : ys = [] := by
              rw [show (List.range rows).filter (fun _ => false) = [] from List.filter_eq_nil_iff.mpr fun _ _ => by simp] at w
              cases w
              rfl
            subst hys
            have e1 : (h4 ++ [MO.lst []])[r]? = some (.lst (([] : List Int).map D.int)) := (List.getElem?_append_left (lt_of_some e)).trans e
            rw [w_ne_nil e1 app_new (by simp)]
            simp
            exact ((Kb.refl k4.bg).app).bg
    simp
    refine (take_wp b3 (u := 8) (by decide) (by decide)).imp ?_
    rintro d h4 ⟨v, hv, rfl, k4⟩
    simp
    split
    · refine ⟨size_ok (by decide), by have := md.small; omega, size_ok (by decide), ?_⟩
      rw [← cutM_d]
      exact rest _ 0 h4 (by decide) (MDr.cutM md) k4.bg
    · exact rest _ E h4 hE2 md k4.bg
  · rintro δ h ⟨x2, x3, x4, x5, x6, x7, x8, x9, x10, x11, x12, x13, x14, rfl, b⟩
    refine hK _ _ ?_
    simp
end K35
set_option Elab.async false
set_option linter.all false
set_option maxRecDepth 100000
open PySem PySem.W PyProof.Rows
set_option maxHeartbeats 0 in
theorem PySem.Challenge.cw_ownmoment_k35_machines_led_through_runs_holds : PySem.Challenge.rw_ownmoment_k35_machines_led_through_runs.Holds := by
  w_on; o_law; k_head; (case hw => w_witness2)
  k_fill
  refine DL.walk_lawT (l := PySem.Challenge.rw_ownmoment_k35_machines_led_through_runs) (n := 63) (k := 7) (x := "script") (F := K35.F_law) rfl (by decide) rfl ⟨rfl, by decide, by decide⟩ (fun w h Y => km_in_of Y) ?F (fun ns h1 _ => K35.law_true ns h1)
  case F =>
    intro w mg fa h Y KX G hmg
    refine' Exists.elim (K35.all_mk (cP_row_by := 128) KX G hmg ?a_l_alike ?l_l_alike ?r_l_alike ?k_l_alike ?a_l_of_row ?l_l_of_row ?r_l_of_row ?k_l_of_row ?a_row_machine ?l_row_machine ?r_row_machine ?k_row_machine ?a_l_labelled ?l_l_labelled ?r_l_labelled ?k_l_labelled ?a_point_behind ?l_point_behind ?r_point_behind ?k_point_behind ?a_l_take ?l_l_take ?r_l_take ?k_l_take ?a_l_entry ?l_l_entry ?r_l_entry ?k_l_entry ?a_l_done_by ?l_l_done_by ?r_l_done_by ?k_l_done_by ?a_l_some ?l_l_some ?r_l_some ?k_l_some ?a_l_past ?l_l_past ?r_l_past ?k_l_past ?a_l_pasts_right ?l_l_pasts_right ?r_l_pasts_right ?k_l_pasts_right ?a_l_bent_run ?l_l_bent_run ?r_l_bent_run ?k_l_bent_run ?a_lead ?l_lead ?r_lead ?k_lead ?a_can_lead ?l_can_lead ?r_can_lead ?k_can_lead ?a_p_led ?l_p_led ?r_p_led ?k_p_led ?a_led_on ?l_led_on ?r_led_on ?k_led_on ?a_figures_of ?l_figures_of ?r_figures_of ?k_figures_of ?a_place_by ?l_place_by ?r_place_by ?k_place_by ?a_row_by ?l_row_by ?r_row_by ?k_row_by ?a_l_key ?l_l_key ?r_l_key ?k_l_key ?a_l_ahead ?l_l_ahead ?r_l_ahead ?k_l_ahead ?a_is_ahead_by ?l_is_ahead_by ?r_is_ahead_by ?k_is_ahead_by ?a_l_row ?l_l_row ?r_l_row ?k_l_row ?a_l_rows_by ?l_l_rows_by ?r_l_rows_by ?k_l_rows_by ?a_l_stands_right ?l_l_stands_right ?r_l_stands_right ?k_l_stands_right ?a_l_led ?l_l_led ?r_l_led ?k_l_led ?a_l_figures ?l_l_figures ?r_l_figures ?k_l_figures ?a_first_barred ?l_first_barred ?r_first_barred ?k_first_barred ?a_l_barred_at ?l_l_barred_at ?r_l_barred_at ?k_l_barred_at ?a_l_run_of ?l_l_run_of ?r_l_run_of ?k_l_run_of ?a_l_some_things ?l_l_some_things ?r_l_some_things ?k_l_some_things ?a_machine_rows ?l_machine_rows ?r_machine_rows ?k_machine_rows ?a_machine_deeds ?l_machine_deeds ?r_machine_deeds ?k_machine_deeds ?a_machine_kinds ?l_machine_kinds ?r_machine_kinds ?k_machine_kinds ?a_l_move ?l_l_move ?r_l_move ?k_l_move ?a_l_stances ?l_l_stances ?r_l_stances ?k_l_stances ?a_l_machine ?l_l_machine ?r_l_machine ?k_l_machine ?a_l_bag ?l_l_bag ?r_l_bag ?k_l_bag ?a_law ?l_law ?r_law ?k_law ?a_NoIndex ?x_NoIndex ?v_NoIndex ?sa_NoIndex ?ga_NoIndex ?gg_NoIndex ?ex_NoIndex ?ty_NoIndex ?kC_NoIndex ?hd_NoIndex ?ic_NoIndex ?se_NoIndex ?no_NoIndex_index ?aI_NoIndex ?tI_NoIndex ?lI_NoIndex ?rI_NoIndex ?kI_NoIndex ?z_abs ?z_dict ?z_enumerate ?z_int ?z_isinstance ?z_len ?z_list ?z_range ?z_repr ?z_sorted ?z_tuple ?ec_row_by) ?rest
    (case a_l_alike => k_is)
    (case l_l_alike => k_is)
    (case r_l_alike => k_is)
    (case k_l_alike => k_is)
    (case a_l_of_row => k_is)
    (case l_l_of_row => k_is)
    (case r_l_of_row => k_is)
    (case k_l_of_row => k_is)
    (case a_row_machine => k_is)
    (case l_row_machine => k_is)
    (case r_row_machine => k_is)
    (case k_row_machine => k_is)
    (case a_l_labelled => k_is)
    (case l_l_labelled => k_is)
    (case r_l_labelled => k_is)
    (case k_l_labelled => k_is)
    (case a_point_behind => k_is)
    (case l_point_behind => k_is)
    (case r_point_behind => k_is)
    (case k_point_behind => k_is)
    (case a_l_take => k_is)
    (case l_l_take => k_is)
    (case r_l_take => k_is)
    (case k_l_take => k_is)
    (case a_l_entry => k_is)
    (case l_l_entry => k_is)
    (case r_l_entry => k_is)
    (case k_l_entry => k_is)
    (case a_l_done_by => k_is)
    (case l_l_done_by => k_is)
    (case r_l_done_by => k_is)
    (case k_l_done_by => k_is)
    (case a_l_some => k_is)
    (case l_l_some => k_is)
    (case r_l_some => k_is)
    (case k_l_some => k_is)
    (case a_l_past => k_is)
    (case l_l_past => k_is)
    (case r_l_past => k_is)
    (case k_l_past => k_is)
    (case a_l_pasts_right => k_is)
    (case l_l_pasts_right => k_is)
    (case r_l_pasts_right => k_is)
    (case k_l_pasts_right => k_is)
    (case a_l_bent_run => k_is)
    (case l_l_bent_run => k_is)
    (case r_l_bent_run => k_is)
    (case k_l_bent_run => k_is)
    (case a_lead => k_is)
    (case l_lead => k_is)
    (case r_lead => k_is)
    (case k_lead => k_is)
    (case a_can_lead => k_is)
    (case l_can_lead => k_is)
    (case r_can_lead => k_is)
    (case k_can_lead => k_is)
    (case a_p_led => k_is)
    (case l_p_led => k_is)
    (case r_p_led => k_is)
    (case k_p_led => k_is)
    (case a_led_on => k_is)
    (case l_led_on => k_is)
    (case r_led_on => k_is)
    (case k_led_on => k_is)
    (case a_figures_of => k_is)
    (case l_figures_of => k_is)
    (case r_figures_of => k_is)
    (case k_figures_of => k_is)
    (case a_place_by => k_is)
    (case l_place_by => k_is)
    (case r_place_by => k_is)
    (case k_place_by => k_is)
    (case a_row_by => k_is)
    (case l_row_by => k_is)
    (case r_row_by => k_is)
    (case k_row_by => k_is)
    (case a_l_key => k_is)
    (case l_l_key => k_is)
    (case r_l_key => k_is)
    (case k_l_key => k_is)
    (case a_l_ahead => k_is)
    (case l_l_ahead => k_is)
    (case r_l_ahead => k_is)
    (case k_l_ahead => k_is)
    (case a_is_ahead_by => k_is)
    (case l_is_ahead_by => k_is)
    (case r_is_ahead_by => k_is)
    (case k_is_ahead_by => k_is)
    (case a_l_row => k_is)
    (case l_l_row => k_is)
    (case r_l_row => k_is)
    (case k_l_row => k_is)
    (case a_l_rows_by => k_is)
    (case l_l_rows_by => k_is)
    (case r_l_rows_by => k_is)
    (case k_l_rows_by => k_is)
    (case a_l_stands_right => k_is)
    (case l_l_stands_right => k_is)
    (case r_l_stands_right => k_is)
    (case k_l_stands_right => k_is)
    (case a_l_led => k_is)
    (case l_l_led => k_is)
    (case r_l_led => k_is)
    (case k_l_led => k_is)
    (case a_l_figures => k_is)
    (case l_l_figures => k_is)
    (case r_l_figures => k_is)
    (case k_l_figures => k_is)
    (case a_first_barred => k_is)
    (case l_first_barred => k_is)
    (case r_first_barred => k_is)
    (case k_first_barred => k_is)
    (case a_l_barred_at => k_is)
    (case l_l_barred_at => k_is)
    (case r_l_barred_at => k_is)
    (case k_l_barred_at => k_is)
    (case a_l_run_of => k_is)
    (case l_l_run_of => k_is)
    (case r_l_run_of => k_is)
    (case k_l_run_of => k_is)
    (case a_l_some_things => k_is)
    (case l_l_some_things => k_is)
    (case r_l_some_things => k_is)
    (case k_l_some_things => k_is)
    (case a_machine_rows => k_is)
    (case l_machine_rows => k_is)
    (case r_machine_rows => k_is)
    (case k_machine_rows => k_is)
    (case a_machine_deeds => k_is)
    (case l_machine_deeds => k_is)
    (case r_machine_deeds => k_is)
    (case k_machine_deeds => k_is)
    (case a_machine_kinds => k_is)
    (case l_machine_kinds => k_is)
    (case r_machine_kinds => k_is)
    (case k_machine_kinds => k_is)
    (case a_l_move => k_is)
    (case l_l_move => k_is)
    (case r_l_move => k_is)
    (case k_l_move => k_is)
    (case a_l_stances => k_is)
    (case l_l_stances => k_is)
    (case r_l_stances => k_is)
    (case k_l_stances => k_is)
    (case a_l_machine => k_is)
    (case l_l_machine => k_is)
    (case r_l_machine => k_is)
    (case k_l_machine => k_is)
    (case a_l_bag => k_is)
    (case l_l_bag => k_is)
    (case r_l_bag => k_is)
    (case k_l_bag => k_is)
    (case a_law => k_is)
    (case l_law => k_is)
    (case r_law => k_is)
    (case k_law => k_is)
    (case a_NoIndex => k_is)
    (case x_NoIndex => k_is)
    (case sa_NoIndex => k_is)
    (case ga_NoIndex => k_is)
    (case gg_NoIndex => k_is)
    (case ex_NoIndex => k_is)
    (case ty_NoIndex => k_is)
    (case kC_NoIndex => k_is)
    (case hd_NoIndex => k_is)
    (case ic_NoIndex => k_is)
    (case se_NoIndex => first | rfl | k_is)
    (case no_NoIndex_index => k_is)
    (case aI_NoIndex => k_is)
    (case tI_NoIndex => k_is)
    (case lI_NoIndex => k_is)
    (case rI_NoIndex => k_is)
    (case kI_NoIndex => k_is)
    (case z_abs => k_is)
    (case z_dict => k_is)
    (case z_enumerate => k_is)
    (case z_int => k_is)
    (case z_isinstance => k_is)
    (case z_len => k_is)
    (case z_list => k_is)
    (case z_range => k_is)
    (case z_repr => k_is)
    (case z_sorted => k_is)
    (case z_tuple => k_is)
    (case v_NoIndex => rfl)
    (case ec_row_by => rfl)
    case rest =>
      intro fd hz
      refine ⟨fd, _, fun p hp => ?_, fun p hp => ?_, fun p hp => ?_, hz.1, hz.2⟩
      · simp only [List.mem_cons, List.not_mem_nil, or_false] at hp
        subst hp
        exact km_tabs_of Y 128 (by k_mem)
      · simp only [List.mem_cons, List.not_mem_nil, or_false] at hp
        subst hp
        first | rfl | kernel_rfl
      · simp only [List.mem_cons, List.not_mem_nil, or_false] at hp
        subst hp
        exact codeHd_of_K KX (by kernel_rfl)
