import PyProof.Rows.All
import Wide.All
import OpenK.AllK
import Wide.FinOn
import HandS.Base
import HandS.Call
import HandS.List
import HandS.Comp
import HandS.Iter
import HandS.Ends
import HandS.Words
import HandS.WordsList
import HandS.Wide
import HandS.Style
import HandS.IsInst
import HandS.NoneIn
import HandS.Flow
import HandS.Zip
import HandS.Lambda
import HandS.MakeKwOnly
import HandS.Sort
import HandS.Dict
import HandS.TupLen
import HandS.WordsDict
import HandS.SortKw
import HandS.EndTab
import KE.SortKeyHeap
import PySem.Challenge.RW_footpath_k02_tiles
set_option Elab.async false
set_option linter.all false
set_option maxRecDepth 100000
set_option maxHeartbeats 4000000
/-! A layer of data over the hand layer: values as trees, a def's body as a change of an environment of data. -/
namespace DL
open PySem PySem.Spec PyProof.Rows L2

/-- data: what a value stands for -/
inductive D where
  | non | bl (b : Bool) | int (i : Int) | str (s : Str)
  | lst (xs : List D) | tup (xs : List D)
  | raw (v : V)
  | ins (C : Addr) (fs : List (Str × D))
  | rng (lo hi : Int)
  | dK (kvs : List (Key × D))
  | dT (kvs : List (List Key × D))

def Ex (H H' : Hp) : Prop := ∀ a o, H a = some o → H' a = some o
theorem Ex.refl (H : Hp) : Ex H H := fun _ _ h => h
theorem Ex.trans {H H1 H2 : Hp} (a : Ex H H1) (b : Ex H1 H2) : Ex H H2 := fun x o h => b x o (a x o h)
theorem Ex.new {H : Hp} {p : Addr} {o : HO} (h : H p = none) : Ex H (upd H p o) := fun a u e => by
  rw [upd_ne (ne_of_none e h)]
  exact e
theorem Ex.sqL {K : PySem.W.Frag} {H H' : Hp} {a : Addr} {xs : List V} (e : Ex H H') (h : SqL K H a xs) : SqL K H' a xs := by
  rcases h with (h | ⟨o, h⟩) | h
  · exact .inl (.inl (e _ _ h))
  · exact .inl (.inr ⟨o, e _ _ h⟩)
  · exact .inr h
theorem Ex.sqE {K : PySem.W.Frag} {H H' : Hp} {a : Addr} {xs : List V} (e : Ex H H') (h : H a = some (.tup xs)) : SqT K H' a xs := .of (e _ _ h)
theorem Ex.sqT {K : PySem.W.Frag} {H H' : Hp} {a : Addr} {xs : List V} (e : Ex H H') (h : SqT K H a xs) : SqT K H' a xs := by
  rcases h with (h | ⟨o, h⟩) | h
  · exact .inl (.inl (e _ _ h))
  · exact .inl (.inr ⟨o, e _ _ h⟩)
  · exact .inr h

/-! ### tables of code objects: what they tell stays told -/
class TB where
  T : List (Addr × Str)
def nt : HO → Bool
  | .tbl _ => false
  | _ => true
def nt2 : HO → Bool
  | .tbl _ => false
  | .ext _ => false
  | _ => true
structure Good [TB] (B H : Hp) : Prop where
  tab : LamX.Tabs TB.T H
  nb : ∀ a o, B a = some o → nt o = true
section
variable [TB] {B H : Hp} {a : Addr} {o u : HO}
theorem tabs_chg {T : List (Addr × Str)} (h : H a = some u) (hu : nt2 u = true) (t : LamX.Tabs T H) : LamX.Tabs T (upd H a o) := fun p hp => by
  obtain ⟨ps, h1, h2, h3⟩ := t p hp
  have n1 : p.1 ≠ a := fun q => by rw [q, h] at h1; cases h1; cases hu
  refine ⟨ps, by rw [upd_ne n1]; exact h1, h2, fun pos cv hc => ?_⟩
  obtain ⟨c, e1, e2⟩ := h3 pos cv hc
  refine ⟨c, e1, ?_⟩
  rw [upd_ne (fun q : c = a => by rw [q, h] at e2; unfold LamX.CodeO at e2; cases e2; cases hu)]
  exact e2
theorem Good.chg (g : Good B H) (h : H a = some u) (hu : nt2 u = true) : Good B (upd H a o) := ⟨tabs_chg h hu g.tab, g.nb⟩
theorem Good.ext {H' : Hp} (g : Good B H) (e : Ex H H') : Good B H' := ⟨g.tab.ext e, g.nb⟩
theorem Good.new (g : Good B H) (h : H a = none) : Good B (upd H a o) := g.ext (Ex.new h)
theorem Good.frz (g : Good B H) (hn : nt o = true) : Good (upd B a o) H := ⟨g.tab, fun b v e => by
  by_cases q : b = a
  · rw [q, upd_same] at e; cases e; exact hn
  · rw [upd_ne q] at e; exact g.nb b v e⟩
end
variable [TB]
mutual
inductive Rep (K : PySem.W.Frag) (B : Hp) : V → D → Prop
  | non : Rep K B .non .non
  | bl (b : Bool) : Rep K B (.bl b) (.bl b)
  | int (i : Int) : Rep K B (.int i) (.int i)
  | str (x : Str) : Rep K B (.str x) (.str x)
  | lst {a : Addr} {vs : List V} {ds : List D} : SqL K B a vs → RepAll K B vs ds → Rep K B (.ref a) (.lst ds)
  | tup {a : Addr} {vs : List V} {ds : List D} : B a = some (.tup vs) → RepAll K B vs ds → Rep K B (.ref a) (.tup ds)
  | raw (v : V) : Rep K B v (.raw v)
  | ins {a C dx : Addr} {vs : List (Str × V)} {fs : List (Str × D)} : B a = some (.ins C dx vs) → RepFs K B vs fs → Rep K B (.ref a) (.ins C fs)
  | rng {a : Addr} {lo hi : Int} : B a = some (.rng lo hi) → Rep K B (.ref a) (.rng lo hi)
  | dK {a : Addr} {vs : List (Key × V)} {kvs : List (Key × D)} : B a = some (.dK vs) → RepM K B vs kvs → Rep K B (.ref a) (.dK kvs)
  | dT {a : Addr} {vs : List (List Key × V)} {kvs : List (List Key × D)} : B a = some (.dT vs) → RepM K B vs kvs → Rep K B (.ref a) (.dT kvs)
inductive RepAll (K : PySem.W.Frag) (B : Hp) : List V → List D → Prop
  | nil : RepAll K B [] []
  | cons {v : V} {vs : List V} {d : D} {ds : List D} : Rep K B v d → RepAll K B vs ds → RepAll K B (v :: vs) (d :: ds)
inductive RepFs (K : PySem.W.Frag) (B : Hp) : List (Str × V) → List (Str × D) → Prop
  | nil : RepFs K B [] []
  | cons {f : Str} {v : V} {vs : List (Str × V)} {d : D} {ds : List (Str × D)} : Rep K B v d → RepFs K B vs ds → RepFs K B ((f, v) :: vs) ((f, d) :: ds)
inductive RepM (K : PySem.W.Frag) (B : Hp) : {κ : Type} → List (κ × V) → List (κ × D) → Prop
  | nil {κ : Type} : RepM K B (κ := κ) [] []
  | cons {κ : Type} {f : κ} {v : V} {vs : List (κ × V)} {d : D} {ds : List (κ × D)} : Rep K B v d → RepM K B vs ds → RepM K B ((f, v) :: vs) ((f, d) :: ds)
end

section
variable {K : PySem.W.Frag} {B B' : Hp}
mutual
theorem Rep.mono (e : Ex B B') : ∀ {v : V} {d : D}, Rep K B v d → Rep K B' v d
  | _, _, .non => .non
  | _, _, .bl b => .bl b
  | _, _, .int i => .int i
  | _, _, .str x => .str x
  | _, _, .lst h r => .lst (e.sqL h) (RepAll.mono e r)
  | _, _, .tup h r => .tup (e _ _ h) (RepAll.mono e r)
  | _, _, .raw v => .raw v
  | _, _, .ins h r => .ins (e _ _ h) (RepFs.mono e r)
  | _, _, .rng h => .rng (e _ _ h)
  | _, _, .dK h r => .dK (e _ _ h) (RepM.mono e r)
  | _, _, .dT h r => .dT (e _ _ h) (RepM.mono e r)
theorem RepAll.mono (e : Ex B B') : ∀ {vs : List V} {ds : List D}, RepAll K B vs ds → RepAll K B' vs ds
  | _, _, .nil => .nil
  | _, _, .cons h r => .cons (Rep.mono e h) (RepAll.mono e r)
theorem RepFs.mono (e : Ex B B') : ∀ {vs : List (Str × V)} {ds : List (Str × D)}, RepFs K B vs ds → RepFs K B' vs ds
  | _, _, .nil => .nil
  | _, _, .cons h r => .cons (Rep.mono e h) (RepFs.mono e r)
theorem RepM.mono (e : Ex B B') : ∀ {κ : Type} {vs : List (κ × V)} {ds : List (κ × D)}, RepM K B vs ds → RepM K B' vs ds
  | _, _, _, .nil => .nil
  | _, _, _, .cons h r => .cons (Rep.mono e h) (RepM.mono e r)
end

theorem RepAll.len : ∀ {vs : List V} {ds : List D}, RepAll K B vs ds → vs.length = ds.length
  | _, _, .nil => rfl
  | _, _, .cons _ r => congrArg (· + 1) r.len
theorem RepAll.get : ∀ {vs : List V} {ds : List D} {i : Nat} {d : D}, RepAll K B vs ds → ds[i]? = some d → ∃ v, vs[i]? = some v ∧ Rep K B v d
  | _, _, _, _, .nil, e => by simp at e
  | _, _, 0, _, .cons h _, e => by simp at e; subst e; exact ⟨_, rfl, h⟩
  | _, _, i + 1, d, .cons _ r, e => by
    obtain ⟨v, h1, h2⟩ := RepAll.get (i := i) (d := d) r (by simpa using e)
    exact ⟨v, by simpa using h1, h2⟩
theorem RepAll.getV : ∀ {vs : List V} {ds : List D} {i : Nat} {v : V}, RepAll K B vs ds → vs[i]? = some v → ∃ d, ds[i]? = some d ∧ Rep K B v d
  | _, _, _, _, .nil, e => by simp at e
  | _, _, 0, _, .cons h _, e => by simp at e; subst e; exact ⟨_, rfl, h⟩
  | _, _, i + 1, d, .cons _ r, e => by
    obtain ⟨v, h1, h2⟩ := RepAll.getV (i := i) (v := d) r (by simpa using e)
    exact ⟨v, by simpa using h1, h2⟩
theorem RepAll.app : ∀ {vs ws : List V} {ds es : List D}, RepAll K B vs ds → RepAll K B ws es → RepAll K B (vs ++ ws) (ds ++ es)
  | _, _, _, _, .nil, s => s
  | _, _, _, _, .cons h r, s => .cons h (r.app s)
theorem RepAll.set {v : V} {d : D} (h : Rep K B v d) : ∀ {vs : List V} {ds : List D} (i : Nat), RepAll K B vs ds → RepAll K B (vs.set i v) (ds.set i d)
  | _, _, _, .nil => .nil
  | _, _, 0, .cons _ r => .cons h r
  | _, _, i + 1, .cons q r => .cons q (RepAll.set h i r)
theorem RepAll.take : ∀ {vs : List V} {ds : List D} (n : Nat), RepAll K B vs ds → RepAll K B (vs.take n) (ds.take n)
  | _, _, 0, _ => .nil
  | _, _, _ + 1, .nil => .nil
  | _, _, n + 1, .cons h r => .cons h (r.take n)
theorem RepAll.drop : ∀ {vs : List V} {ds : List D} (n : Nat), RepAll K B vs ds → RepAll K B (vs.drop n) (ds.drop n)
  | _, _, 0, r => r
  | _, _, _ + 1, .nil => .nil
  | _, _, n + 1, .cons _ r => r.drop n
theorem RepAll.ints : ∀ (ns : List Int), RepAll K B (ns.map V.int) (ns.map D.int)
  | [] => .nil
  | n :: ns => .cons (.int n) (RepAll.ints ns)
theorem RepAll.ints_inv : ∀ {vs : List V} {ns : List Int}, RepAll K B vs (ns.map D.int) → vs = ns.map V.int
  | _, [], .nil => rfl
  | _, n :: ns, .cons h r => by
    cases h
    rw [RepAll.ints_inv r]; rfl
theorem RepFs.look : ∀ {vs : List (Str × V)} {fs : List (Str × D)} {f : Str} {d : D}, RepFs K B vs fs → fs.lookup f = some d → ∃ v, vs.lookup f = some v ∧ Rep K B v d
  | _, _, _, _, .nil, e => by simp at e
  | (g, v) :: vs, (_, d') :: fs, f, d, .cons h r, e => by
    rw [List.lookup_cons] at e ⊢
    cases q : f == g with
    | true => rw [q] at e; simp at e; subst e; exact ⟨_, rfl, h⟩
    | false => rw [q] at e; exact RepFs.look r e
theorem RepFs.lookN : ∀ {vs : List (Str × V)} {fs : List (Str × D)} {f : Str}, RepFs K B vs fs → fs.lookup f = none → vs.lookup f = none
  | _, _, _, .nil, e => rfl
  | (g, v) :: vs, (_, d') :: fs, f, .cons h r, e => by
    rw [List.lookup_cons] at e ⊢
    cases q : f == g with
    | true => rw [q] at e; simp at e
    | false => rw [q] at e; exact RepFs.lookN r e
end

/-! ### data that can be compared -/
mutual
def D.py : D → PyData
  | .non => .none
  | .bl b => .bool b
  | .int i => .int i
  | .str s => .str s
  | .lst xs => .list (pyAll xs)
  | .tup xs => .tuple (pyAll xs)
  | .raw _ => .none
  | .ins _ _ => .none
  | .rng _ _ => .none
  | .dK _ => .none
  | .dT _ => .none
def pyAll : List D → List PyData
  | [] => []
  | d :: ds => d.py :: pyAll ds
end
mutual
def D.plain : D → Bool
  | .raw _ => false
  | .ins _ _ => false
  | .rng _ _ => false
  | .dK _ => false
  | .dT _ => false
  | .lst xs => plainAll xs
  | .tup xs => plainAll xs
  | _ => true
def plainAll : List D → Bool
  | [] => true
  | d :: ds => d.plain && plainAll ds
end
section
variable {K : PySem.W.Frag} {B : Hp}
mutual
theorem Rep.dp : ∀ {v : V} {d : D}, Rep K B v d → d.plain = true → Dp K B v d.py
  | _, _, .non, _ => .non
  | _, _, .bl b, _ => .bl b
  | _, _, .int i, _ => .int i
  | _, _, .str x, _ => .str x
  | _, _, .lst h r, p => .lst h (RepAll.dp r p)
  | _, _, .tup h r, p => .tup (.of h) (RepAll.dp r p)
  | _, _, .raw v, p => by cases p
  | _, _, .ins h r, p => by cases p
  | _, _, .rng h, p => by cases p
  | _, _, .dK h r, p => by cases p
  | _, _, .dT h r, p => by cases p
theorem RepAll.dp : ∀ {vs : List V} {ds : List D}, RepAll K B vs ds → plainAll ds = true → DpAll K B vs (pyAll ds)
  | _, _, .nil, _ => .nil
  | _, _, .cons h r, p => by
    have p' : (_ && _) = true := p
    rw [Bool.and_eq_true] at p'
    exact .cons (Rep.dp h p'.1) (RepAll.dp r p'.2)
end
end
section
variable {K : PySem.W.Frag} {H H' : Hp}
mutual
theorem dp_mono (e : Ex H H') : ∀ {v : V} {d : PyData}, Dp K H v d → Dp K H' v d
  | _, _, .non => .non
  | _, _, .bl b => .bl b
  | _, _, .int i => .int i
  | _, _, .str x => .str x
  | _, _, .lst h r => .lst (e.sqL h) (dpAll_mono e r)
  | _, _, .tup h r => .tup (e.sqT h) (dpAll_mono e r)
theorem dpAll_mono (e : Ex H H') : ∀ {vs : List V} {ds : List PyData}, DpAll K H vs ds → DpAll K H' vs ds
  | _, _, .nil => .nil
  | _, _, .cons h r => .cons (dp_mono e h) (dpAll_mono e r)
end
end

/-! ### the context of a running def: its entry, and a mutable thing that it may change -/
structure G where
  B0 : Hp
  H0 : Hp
  M : Addr → Prop
  Z : Type
  zp : Z → Hp → Hp → Prop
  hd : Nat → V
  zfr : ∀ z B H B' H', zp z B H → Ex B B' → (∀ a o, M a → H a = some o → nt o = true → H' a = some o) → (∀ a, M a → B' a = none) → zp z B' H'
  znb : ∀ z B H, zp z B H → ∀ a, M a → B a = none ∧ H a ≠ none
  m0 : ∀ a, M a → H0 a ≠ none

/-- what is one's own: a list, a dict -/
inductive Ob where
  | lst (ds : List D) | dK (kvs : List (Key × D)) | dT (kvs : List (List Key × D))
def Ob.dat : Ob → D
  | .lst ds => .lst ds
  | .dK kvs => .dK kvs
  | .dT kvs => .dT kvs
inductive ObR (K : PySem.W.Frag) (B : Hp) : HO → Ob → Prop
  | lst {vs : List V} {ds : List D} : RepAll K B vs ds → ObR K B (.lst vs) (.lst ds)
  | dK {vs : List (Key × V)} {kvs : List (Key × D)} : RepM K B vs kvs → ObR K B (.dK vs) (.dK kvs)
  | dT {vs : List (List Key × V)} {kvs : List (List Key × D)} : RepM K B vs kvs → ObR K B (.dT vs) (.dT kvs)
theorem ObR.mono {K : PySem.W.Frag} {B B' : Hp} {u : HO} {o : Ob} (e : Ex B B') (h : ObR K B u o) : ObR K B' u o := by
  cases h with
  | lst r => exact .lst (r.mono e)
  | dK r => exact .dK (r.mono e)
  | dT r => exact .dT (r.mono e)
theorem ObR.rep {K : PySem.W.Frag} {B : Hp} {u : HO} {o : Ob} {a : Addr} (h : ObR K B u o) (e : B a = some u) : Rep K B (.ref a) o.dat := by
  cases h with
  | lst r => exact .lst (.of e) r
  | dK r => exact .dK e r
  | dT r => exact .dT e r
inductive Sl where
  | no | dat (d : D) | ob (o : Ob) | hdl (k : Nat)
abbrev Sl.own (ds : List D) : Sl := .ob (.lst ds)
abbrev En := List Sl

structure Wf (Γ : G) (z : Γ.Z) (B H : Hp) : Prop where
  sub : Ex B H
  eB : Ex Γ.B0 B
  eH : ∀ a o, ¬ Γ.M a → Γ.H0 a = some o → (h : nt o = true := by rfl) → H a = some o
  eM : ∀ a, Γ.H0 a ≠ none → H a ≠ none
  fr : ∀ a, Γ.H0 a ≠ none → B a = Γ.B0 a
  z : Γ.zp z B H
  gd : Good B H

def SlOk (K : PySem.W.Frag) (Γ : G) (B H : Hp) : Sl → Option V → Prop
  | .no, _ => True
  | .dat d, x => ∃ v, x = some v ∧ Rep K B v d
  | .ob o, x => ∃ a u, x = some (.ref a) ∧ Γ.H0 a = none ∧ B a = none ∧ H a = some u ∧ ObR K B u o
  | .hdl k, x => x = some (Γ.hd k)

structure Sat (K : PySem.W.Frag) (Γ : G) (ρ : En) (z : Γ.Z) (σ : L2.St) (B H : Hp) : Prop where
  wf : Wf Γ z B H
  len : σ.length = ρ.length
  sl : ∀ (i : Nat) (s : Sl), ρ[i]? = some s → ∃ x, σ[i]? = some x ∧ SlOk K Γ B H s x
  dist : ∀ (i j : Nat) (ds es : Ob) (a : Addr), i ≠ j → ρ[i]? = some (.ob ds) → ρ[j]? = some (.ob es) → σ[i]? = some (some (.ref a)) → σ[j]? ≠ some (some (.ref a))

/-- a step that changes nothing that stood -/
structure Stp (B H B' H' : Hp) : Prop where
  eB : Ex B B'
  eH : ∀ a o, H a = some o → (h : nt o = true := by rfl) → H' a = some o
  eN : ∀ a, H a ≠ none → H' a ≠ none
  sub : Ex B' H'
  fr : ∀ a, H a ≠ none → B' a = B a
  gd : Good B H → Good B' H'
theorem Stp.refl {B H : Hp} (e : Ex B H) : Stp B H B H := ⟨Ex.refl _, fun _ _ h _ => h, fun _ h => h, e, fun _ _ => rfl, fun g => g⟩
theorem some_ne {H : Hp} {a : Addr} {o : HO} (h : H a = some o) : H a ≠ none := fun e => by rw [h] at e; cases e
theorem Ex.ne {H H' : Hp} (e : Ex H H') {a : Addr} (h : H a ≠ none) : H' a ≠ none := by
  cases q : H a with
  | none => exact absurd q h
  | some o => exact some_ne (e a o q)
theorem Stp.trans {B H B1 H1 B2 H2 : Hp} (a : Stp B H B1 H1) (b : Stp B1 H1 B2 H2) : Stp B H B2 H2 :=
  ⟨a.eB.trans b.eB, fun x o h n => b.eH x o (a.eH x o h n) n, fun x h => b.eN x (a.eN x h), b.sub, fun x h => (b.fr x (a.eN x h)).trans (a.fr x h), fun g => b.gd (a.gd g)⟩
theorem Stp.new {B H : Hp} (e : Ex B H) {p : Addr} {o : HO} (hp : H p = none) (hn : nt o = true := by rfl) : Stp B H (upd B p o) (upd H p o) := by
  have hb : B p = none := by
    cases q : B p with
    | none => rfl
    | some u => rw [e p u q] at hp; cases hp
  refine ⟨Ex.new hb, fun a u h _ => Ex.new hp a u h, fun a h => (Ex.new hp).ne h, fun a u h => ?_, fun a h => ?_, fun g => (g.new hp).frz hn⟩
  · by_cases ha : a = p
    · subst ha; rw [upd_same] at h ⊢; exact h
    · rw [upd_ne ha] at h ⊢; exact e a u h
  · have ha : a ≠ p := fun q => h (q ▸ hp)
    exact upd_ne ha
/-- a new object that is not taken for data -/
theorem Stp.newO {B H : Hp} (e : Ex B H) {p : Addr} {o : HO} (hp : H p = none) : Stp B H B (upd H p o) :=
  ⟨Ex.refl _, fun a u h _ => Ex.new hp a u h, fun a h => (Ex.new hp).ne h, e.trans (Ex.new hp), fun _ _ => rfl, fun g => g.new hp⟩

section
variable {K : PySem.W.Frag} {Γ : G} {ρ : En} {z : Γ.Z} {σ : L2.St} {B H B' H' : Hp}
theorem Wf.step (w : Wf Γ z B H) (s : Stp B H B' H') : Wf Γ z B' H' where
  sub := s.sub
  eB := w.eB.trans s.eB
  eH := fun a o hm h n => s.eH a o (w.eH a o hm h n) n
  eM := fun a h => s.eN a (w.eM a h)
  gd := s.gd w.gd
  fr := fun a h => (s.fr a (w.eM a h)).trans (w.fr a h)
  z := Γ.zfr _ _ _ _ _ w.z s.eB (fun a o hm h n => s.eH a o h n) (fun a hm => by
      obtain ⟨h1, h2⟩ := Γ.znb _ _ _ w.z a hm
      rw [s.fr a h2]; exact h1)
theorem SlOk.step {s : Sl} {x : Option V} (t : Stp B H B' H') (h : SlOk K Γ B H s x) : SlOk K Γ B' H' s x := by
  cases s with
  | no => trivial
  | dat d => obtain ⟨v, e, r⟩ := h; exact ⟨v, e, r.mono t.eB⟩
  | ob o =>
    obtain ⟨a, vs, e, h0, hb, hh, r⟩ := h
    exact ⟨a, vs, e, h0, (t.fr a (some_ne hh)).trans hb, t.eH a _ hh (by cases r <;> rfl), r.mono t.eB⟩
  | hdl k => exact h
theorem Sat.step (s : Sat K Γ ρ z σ B H) (t : Stp B H B' H') : Sat K Γ ρ z σ B' H' :=
  ⟨s.wf.step t, s.len, fun i x h => let ⟨y, e, k⟩ := s.sl i x h; ⟨y, e, k.step t⟩, s.dist⟩
theorem Sat.dat {i : Nat} {d : D} (s : Sat K Γ ρ z σ B H) (h : ρ[i]? = some (.dat d)) : ∃ v, σ[i]? = some (some v) ∧ Rep K B v d := by
  obtain ⟨x, e, v, rfl, r⟩ := s.sl i _ h
  exact ⟨v, e, r⟩
theorem Sat.ob {i : Nat} {o : Ob} (s : Sat K Γ ρ z σ B H) (h : ρ[i]? = some (.ob o)) : ∃ a u, σ[i]? = some (some (.ref a)) ∧ Γ.H0 a = none ∧ B a = none ∧ H a = some u ∧ ObR K B u o := by
  obtain ⟨x, e, a, vs, rfl, r⟩ := s.sl i _ h
  exact ⟨a, vs, e, r⟩
theorem Sat.own {i : Nat} {ds : List D} (s : Sat K Γ ρ z σ B H) (h : ρ[i]? = some (.own ds)) : ∃ a vs, σ[i]? = some (some (.ref a)) ∧ Γ.H0 a = none ∧ B a = none ∧ H a = some (.lst vs) ∧ RepAll K B vs ds := by
  obtain ⟨a, u, e, h0, hb, hh, r⟩ := s.ob h
  cases r with
  | lst r => exact ⟨a, _, e, h0, hb, hh, r⟩
theorem Sat.hdl {i : Nat} {k : Nat} (s : Sat K Γ ρ z σ B H) (h : ρ[i]? = some (.hdl k)) : σ[i]? = some (some (Γ.hd k)) := by
  obtain ⟨x, e, h⟩ := s.sl i _ h
  have h : x = some (Γ.hd k) := h
  rw [e, h]
theorem lt_of_get? {α : Type} {l : List α} {i : Nat} {x : α} (h : l[i]? = some x) : i < l.length := (List.getElem?_eq_some_iff.mp h).1
/-- a slot takes a value -/
theorem Sat.setDat (s : Sat K Γ ρ z σ B H) (i : Nat) {v : V} {d : D} (r : Rep K B v d) : Sat K Γ (ρ.set i (.dat d)) z (σ.set i (some v)) B H := by
  refine ⟨s.wf, by simp [s.len], fun j x h => ?_, fun j k ds es a hjk hj hk => ?_⟩
  · by_cases hij : i = j
    · subst hij
      have hi : i < ρ.length := by have := lt_of_get? h; simpa using this
      rw [List.getElem?_set_self hi] at h
      cases h
      exact ⟨some v, List.getElem?_set_self (by rw [s.len]; exact hi), v, rfl, r⟩
    · rw [List.getElem?_set_ne hij] at h ⊢
      exact s.sl j x h
  · have ne : ∀ {j : Nat} {ds : Ob}, (ρ.set i (.dat d))[j]? = some (.ob ds) → i ≠ j := fun {j ds} h e => by
      subst e
      have hi : i < ρ.length := by have := lt_of_get? h; simpa using this
      rw [List.getElem?_set_self hi] at h
      cases h
    have h1 := ne hj
    have h2 := ne hk
    rw [List.getElem?_set_ne h1] at hj ⊢
    rw [List.getElem?_set_ne h2] at hk ⊢
    exact s.dist j k ds es a hjk hj hk
/-- a slot takes a new list or dict -/
theorem Sat.setOb (s : Sat K Γ ρ z σ B H) (i : Nat) {p : Addr} {u : HO} {o : Ob} (h0 : Γ.H0 p = none) (hb : B p = none) (hp : H p = some u) (r : ObR K B u o)
    (nd : ∀ (j : Nat) (es : Ob), ρ[j]? = some (.ob es) → σ[j]? ≠ some (some (.ref p))) : Sat K Γ (ρ.set i (.ob o)) z (σ.set i (some (.ref p))) B H := by
  refine ⟨s.wf, by simp [s.len], fun j x h => ?_, fun j k fs es a hjk hj hk => ?_⟩
  · by_cases hij : i = j
    · subst hij
      have hi : i < ρ.length := by have := lt_of_get? h; simpa using this
      rw [List.getElem?_set_self hi] at h
      cases h
      exact ⟨some (.ref p), List.getElem?_set_self (by rw [s.len]; exact hi), p, u, rfl, h0, hb, hp, r⟩
    · rw [List.getElem?_set_ne hij] at h ⊢
      exact s.sl j x h
  · by_cases h1 : i = j
    · subst h1
      by_cases h2 : i = k
      · exact absurd h2 hjk
      · have hi : i < ρ.length := by have := lt_of_get? hj; simpa using this
        rw [List.getElem?_set_self (by rw [s.len]; exact hi), List.getElem?_set_ne h2]
        rw [List.getElem?_set_ne h2] at hk
        intro e
        cases e
        exact nd k es hk
    · rw [List.getElem?_set_ne h1] at hj ⊢
      by_cases h2 : i = k
      · subst h2
        have hi : i < ρ.length := by have := lt_of_get? hk; simpa using this
        rw [List.getElem?_set_self (by rw [s.len]; exact hi)]
        intro e q
        cases q
        exact nd j fs hj e
      · rw [List.getElem?_set_ne h2] at hk ⊢
        exact s.dist j k fs es a hjk hj hk
theorem Sat.setOwn (s : Sat K Γ ρ z σ B H) (i : Nat) {p : Addr} {vs : List V} {ds : List D} (h0 : Γ.H0 p = none) (hb : B p = none) (hp : H p = some (.lst vs)) (r : RepAll K B vs ds)
    (nd : ∀ (j : Nat) (es : Ob), ρ[j]? = some (.ob es) → σ[j]? ≠ some (some (.ref p))) : Sat K Γ (ρ.set i (.own ds)) z (σ.set i (some (.ref p))) B H := s.setOb i h0 hb hp (.lst r) nd
/-- a list of one's own changes -/
theorem Sat.mutOb (s : Sat K Γ ρ z σ B H) {i : Nat} {a : Addr} {ds es : Ob} {ws : HO} (hi : ρ[i]? = some (.ob ds)) (ha : σ[i]? = some (some (.ref a))) (r : ObR K B ws es) :
    Sat K Γ (ρ.set i (.ob es)) z σ B (upd H a ws) := by
  obtain ⟨a', vs, e, h0, hb, hh, r0⟩ := s.ob hi
  rw [ha] at e
  cases e
  have hm : ¬ Γ.M a := fun m => Γ.m0 a m h0
  have hl := lt_of_get? hi
  have wf : Wf Γ z B (upd H a ws) := by
    refine ⟨fun b o h => ?_, s.wf.eB, fun b o m h n => ?_, fun b h => ?_, s.wf.fr, Γ.zfr _ _ _ _ _ s.wf.z (Ex.refl _) (fun b o m h _ => ?_) (fun b m => (Γ.znb _ _ _ s.wf.z b m).1), s.wf.gd.chg hh (by cases r0 <;> rfl)⟩
    · rw [upd_ne (fun q => by rw [q, hb] at h; cases h)]
      exact s.wf.sub b o h
    · rw [upd_ne (fun q => by rw [q, h0] at h; cases h)]
      exact s.wf.eH b o m h n
    · rw [upd_ne (fun q => h (by rw [q]; exact h0))]
      exact s.wf.eM b h
    · rw [upd_ne (fun q : b = a => hm (by rw [← q]; exact m))]; exact h
  refine ⟨wf, by simp [s.len], fun j x h => ?_, fun j k fs gs b hjk hj hk => ?_⟩
  · by_cases hij : i = j
    · subst hij
      rw [List.getElem?_set_self hl] at h
      cases h
      exact ⟨some (.ref a), ha, a, ws, rfl, h0, hb, upd_same, r⟩
    · rw [List.getElem?_set_ne hij] at h
      obtain ⟨y, e, k⟩ := s.sl j x h
      refine ⟨y, e, ?_⟩
      cases x with
      | no => trivial
      | dat d => exact k
      | hdl n => exact k
      | ob fs =>
        obtain ⟨b, us, rfl, g0, gb, gh, gr⟩ := k
        refine ⟨b, us, rfl, g0, gb, ?_, gr⟩
        rw [upd_ne]
        · exact gh
        · intro q
          subst q
          exact s.dist i j ds fs b hij hi h ha e
  · have back : ∀ {j : Nat} {fs : Ob}, (ρ.set i (.ob es))[j]? = some (.ob fs) → ∃ fs', ρ[j]? = some (.ob fs') := fun {j fs} h => by
      by_cases hij : i = j
      · subst hij; exact ⟨_, hi⟩
      · rw [List.getElem?_set_ne hij] at h; exact ⟨_, h⟩
    obtain ⟨f1, q1⟩ := back hj
    obtain ⟨f2, q2⟩ := back hk
    exact s.dist j k f1 f2 b hjk q1 q2
theorem Sat.mutOwn (s : Sat K Γ ρ z σ B H) {i : Nat} {a : Addr} {ds es : List D} {ws : List V} (hi : ρ[i]? = some (.own ds)) (ha : σ[i]? = some (some (.ref a))) (r : RepAll K B ws es) :
    Sat K Γ (ρ.set i (.own es)) z σ B (upd H a (.lst ws)) := s.mutOb hi ha (.lst r)
/-- a list of one's own becomes data -/
theorem Sat.freezeOb (s : Sat K Γ ρ z σ B H) {i : Nat} {ds : Ob} (hi : ρ[i]? = some (.ob ds)) : ∃ B', Ex B B' ∧ Sat K Γ (ρ.set i (.dat ds.dat)) z σ B' H := by
  obtain ⟨a, vs, e, h0, hb, hh, r⟩ := s.ob hi
  have hl := lt_of_get? hi
  have hm : ¬ Γ.M a := fun m => Γ.m0 a m h0
  have eb : Ex B (upd B a vs) := Ex.new hb
  refine ⟨upd B a vs, eb, ⟨fun b o h => ?_, s.wf.eB.trans eb, fun a o m h n => s.wf.eH a o m h n, s.wf.eM, fun b h => ?_, Γ.zfr _ _ _ _ _ s.wf.z eb (fun _ _ _ h _ => h) (fun b m => ?_), s.wf.gd.frz (by cases r <;> rfl)⟩, by simp [s.len], fun j x h => ?_, fun j k fs gs b hjk hj hk => ?_⟩
  · by_cases q : b = a
    · subst q; rw [upd_same] at h; rw [← h]; exact hh
    · rw [upd_ne q] at h; exact s.wf.sub b o h
  · rw [upd_ne (fun q => h (by rw [q]; exact h0))]
    exact s.wf.fr b h
  · rw [upd_ne (fun q : b = a => hm (by rw [← q]; exact m))]
    exact (Γ.znb _ _ _ s.wf.z b m).1
  · by_cases hij : i = j
    · subst hij
      rw [List.getElem?_set_self hl] at h
      cases h
      exact ⟨_, e, _, rfl, (r.mono eb).rep upd_same⟩
    · rw [List.getElem?_set_ne hij] at h
      obtain ⟨y, e', k⟩ := s.sl j x h
      refine ⟨y, e', ?_⟩
      cases x with
      | no => trivial
      | hdl n => exact k
      | dat d => obtain ⟨v, q, r'⟩ := k; exact ⟨v, q, r'.mono eb⟩
      | ob fs =>
        obtain ⟨b, us, rfl, g0, gb, gh, gr⟩ := k
        refine ⟨b, us, rfl, g0, ?_, gh, gr.mono eb⟩
        rw [upd_ne]
        · exact gb
        · intro q
          subst q
          exact s.dist i j ds fs b hij hi h e e'
  · have back : ∀ {j : Nat} {fs : Ob}, (ρ.set i (.dat ds.dat))[j]? = some (.ob fs) → ρ[j]? = some (.ob fs) := fun {j fs} h => by
      by_cases hij : i = j
      · subst hij
        rw [List.getElem?_set_self hl] at h
        cases h
      · rw [List.getElem?_set_ne hij] at h; exact h
    exact s.dist j k fs gs b hjk (back hj) (back hk)
theorem Sat.freeze (s : Sat K Γ ρ z σ B H) {i : Nat} {ds : List D} (hi : ρ[i]? = some (.own ds)) : ∃ B', Ex B B' ∧ Sat K Γ (ρ.set i (.dat (.lst ds))) z σ B' H := s.freezeOb hi
/-- forgetting -/
theorem Sat.weak {ρ' : En} {σ' : L2.St} (s : Sat K Γ ρ z σ B H) (hl : σ'.length = ρ'.length) (w : ∀ (i : Nat) (x : Sl), ρ'[i]? = some x → x = .no ∨ (ρ[i]? = some x ∧ σ'[i]? = σ[i]?)) : Sat K Γ ρ' z σ' B H := by
  refine ⟨s.wf, hl, fun i x h => ?_, fun i j ds es a hij hi hj => ?_⟩
  · rcases w i x h with rfl | ⟨q, e⟩
    · have := lt_of_get? h
      exact ⟨σ'[i]'(by omega), List.getElem?_eq_getElem (by omega), trivial⟩
    · rw [e]; exact s.sl i x q
  · rcases w i _ hi with q | ⟨q1, e1⟩
    · cases q
    · rcases w j _ hj with q | ⟨q2, e2⟩
      · cases q
      · rw [e1, e2]
        exact s.dist i j ds es a hij q1 q2
end
end DL

namespace DL
open PySem PySem.Spec PyProof.Rows L2
variable [TB]

/-- a step that may change the things at M -/
structure StpM (M : Addr → Prop) (B H B' H' : Hp) : Prop where
  eB : Ex B B'
  eH : ∀ a o, ¬ M a → H a = some o → (h : nt o = true := by rfl) → H' a = some o
  eM : ∀ a, H a ≠ none → H' a ≠ none
  sub : Ex B' H'
  fr : ∀ a, H a ≠ none → B' a = B a
  gd : Good B H → Good B' H'
theorem StpM.of {M : Addr → Prop} {B H B' H' : Hp} (s : Stp B H B' H') : StpM M B H B' H' := ⟨s.eB, fun a o _ h n => s.eH a o h n, s.eN, s.sub, s.fr, s.gd⟩
theorem StpM.refl {M : Addr → Prop} {B H : Hp} (e : Ex B H) : StpM M B H B H := .of (.refl e)
theorem StpM.trans {M : Addr → Prop} {B H B1 H1 B2 H2 : Hp} (a : StpM M B H B1 H1) (b : StpM M B1 H1 B2 H2) : StpM M B H B2 H2 :=
  ⟨a.eB.trans b.eB, fun x o m h n => b.eH x o m (a.eH x o m h n) n, fun x h => b.eM x (a.eM x h), b.sub, fun x h => (b.fr x (a.eM x h)).trans (a.fr x h), fun g => b.gd (a.gd g)⟩
section
variable {K : PySem.W.Frag} {Γ : G} {ρ : En} {z z' : Γ.Z} {σ : L2.St} {B H B' H' : Hp}
theorem Wf.stepM (w : Wf Γ z B H) (s : StpM Γ.M B H B' H') (hz : Γ.zp z' B' H') : Wf Γ z' B' H' where
  sub := s.sub
  eB := w.eB.trans s.eB
  eH := fun a o hm h n => s.eH a o hm (w.eH a o hm h n) n
  gd := s.gd w.gd
  eM := fun a h => s.eM a (w.eM a h)
  fr := fun a h => (s.fr a (w.eM a h)).trans (w.fr a h)
  z := hz
theorem Sat.stepM (s : Sat K Γ ρ z σ B H) (t : StpM Γ.M B H B' H') (hz : Γ.zp z' B' H') : Sat K Γ ρ z' σ B' H' := by
  refine ⟨s.wf.stepM t hz, s.len, fun i x h => ?_, s.dist⟩
  obtain ⟨y, e, k⟩ := s.sl i x h
  refine ⟨y, e, ?_⟩
  cases x with
  | no => trivial
  | dat d => obtain ⟨v, e, r⟩ := k; exact ⟨v, e, r.mono t.eB⟩
  | ob ds =>
    obtain ⟨a, vs, e, h0, hb, hh, r⟩ := k
    exact ⟨a, vs, e, h0, (t.fr a (some_ne hh)).trans hb, t.eH a _ (fun m => Γ.m0 a m h0) hh (by cases r <;> rfl), r.mono t.eB⟩
  | hdl k' => exact k
theorem Sat.zp (s : Sat K Γ ρ z σ B H) (t : Stp B H B' H') : Γ.zp z B' H' := (s.step t).wf.z
end

/-! ### what holds of the context of a def's body, of a comprehension's block -/
structure Cxt (X : Cx) (N : List Str) (sc : Scope) (P : Program) (w : World) (K : PySem.W.Frag) (mg : Str → Option Value) (base : Heap) (k : Nat) : Prop where
  hP : X.prog = P
  hw : X.w = w
  hK : X.K = K
  hmg : X.mg = mg
  hb : X.base = base
  hN : X.N = N
  hsc : X.env.scope = sc
  calm : X.calm = true
  nd : N.Nodup
  pass : PassesOwn (model X.prog X.w) X.A X.env X.xe
  room : Room k X.A

def semE (X : Cx) (e : Expr) : TE := fun σ H Q => ∀ pins s, Inv X pins σ H s → wpAny (model X.prog X.w) X.A (eval e X.env) (EP X pins σ Q) X.xe s
def semT (X : Cx) (e : Expr) : TT := fun σ H Q => ∀ pins s, Inv X pins σ H s → wpAny (model X.prog X.w) X.A (isTrue e X.env (eval e X.env)) (TP X pins σ Q) X.xe s
def semW (X : Cx) (e : Expr) : TT := fun σ H Q => ∀ whole pins s, Inv X pins σ H s → wpAny (model X.prog X.w) X.A (isTrue e X.env whole) (TP X pins σ Q) X.xe s
def semA (X : Cx) (es : List Expr) : TA := fun σ H Q => ∀ pos pins s, Inv X pins σ H s → wpAny (model X.prog X.w) X.A (spliced (backTo pos (starEach es X.env))) (AP X pins σ Q) X.xe s
def semS (X : Cx) (st : Stmt) : TS := fun D σ H => ∀ pins s, Inv X pins σ H s → wpAny (model X.prog X.w) X.A (exec st X.env) (SP X pins D) X.xe s
def semSs (X : Cx) (st : List Stmt) : TS := fun D σ H => ∀ pins s, Inv X pins σ H s → wpAny (model X.prog X.w) X.A (execs st X.env) (SP X pins D) X.xe s
section
variable {X : Cx} {e : Expr} {es : List Expr} {st : Stmt} {sts : List Stmt} {σ : L2.St} {H : Hp}
theorem peS : PE X e (semE X e) := ⟨fun pins s σ H Q I h => h pins s I⟩
theorem ptS : PT X e (semT X e) := ⟨fun pins s σ H Q I h => h pins s I⟩
theorem pwS : PW X e (semW X e) := ⟨fun wh pins s σ H Q I h => h wh pins s I⟩
theorem paS : PA X es (semA X es) := ⟨fun pos pins s σ H Q I h => h pos pins s I⟩
theorem psS : PS X st (semS X st) := ⟨fun pins s σ H D I h => h pins s I⟩
theorem pssS : PSs X sts (semSs X sts) := ⟨fun pins s σ H D I h => h pins s I⟩
theorem eOf {t : TE} {Q : VK} (h : PE X e t) (q : t σ H Q) : semE X e σ H Q := fun pins s I => h.run pins s σ H Q I q
theorem tOf {t : TT} {Q : Bool → Hp → Prop} (h : PT X e t) (q : t σ H Q) : semT X e σ H Q := fun pins s I => h.run pins s σ H Q I q
theorem wOf {t : TT} {Q : Bool → Hp → Prop} (h : PW X e t) (q : t σ H Q) : semW X e σ H Q := fun wh pins s I => h.run wh pins s σ H Q I q
theorem aOf {t : TA} {Q : List V → Hp → Prop} (h : PA X es t) (q : t σ H Q) : semA X es σ H Q := fun pos pins s I => h.run pos pins s σ H Q I q
theorem sOf {t : TS} {D : Ends} (h : PS X st t) (q : t D σ H) : semS X st D σ H := fun pins s I => h.run pins s σ H D I q
theorem ssOf {t : TS} {D : Ends} (h : PSs X sts t) (q : t D σ H) : semSs X sts D σ H := fun pins s I => h.run pins s σ H D I q
theorem wt {Q : Bool → Hp → Prop} (h : semW X e σ H Q) : semT X e σ H Q := h _
end

theorem small {ds : List D} (h : ds.length ≤ 1000) : ds.length ≤ sizeLine := Nat.le_of_lt (small1000 h)
/-! ### the judgements -/
section
variable (X : Cx) (Γ : G)
/-- e evaluates to the data d -/
def XE (e : Expr) (ρ : En) (z : Γ.Z) (d : D) (z' : Γ.Z) : Prop := ∀ (σ : L2.St) (B H : Hp) (Q : VK), Sat X.K Γ ρ z σ B H →
  (∀ v B' H', StpM Γ.M B H B' H' → Γ.zp z' B' H' → Rep X.K B' v d → Q v H') → semE X e σ H Q
/-- .. to a new list -/
def XL (e : Expr) (ρ : En) (z : Γ.Z) (ds : List D) (z' : Γ.Z) : Prop := ∀ (σ : L2.St) (B H : Hp) (Q : VK), Sat X.K Γ ρ z σ B H →
  (∀ p vs B' H', StpM Γ.M B H B' H' → Γ.zp z' B' H' → H p = none → B' p = none → H' p = some (.lst vs) → RepAll X.K B' vs ds → Q (.ref p) H') → semE X e σ H Q
def XT (e : Expr) (ρ : En) (z : Γ.Z) (b : Bool) (z' : Γ.Z) : Prop := ∀ (σ : L2.St) (B H : Hp) (Q : Bool → Hp → Prop), Sat X.K Γ ρ z σ B H →
  (∀ B' H', StpM Γ.M B H B' H' → Γ.zp z' B' H' → Q b H') → semT X e σ H Q
def XW (e : Expr) (ρ : En) (z : Γ.Z) (b : Bool) (z' : Γ.Z) : Prop := ∀ (σ : L2.St) (B H : Hp) (Q : Bool → Hp → Prop), Sat X.K Γ ρ z σ B H →
  (∀ B' H', StpM Γ.M B H B' H' → Γ.zp z' B' H' → Q b H') → semW X e σ H Q
def XA (es : List Expr) (ρ : En) (z : Γ.Z) (ds : List D) (z' : Γ.Z) : Prop := ∀ (σ : L2.St) (B H : Hp) (Q : List V → Hp → Prop), Sat X.K Γ ρ z σ B H →
  (∀ vs B' H', StpM Γ.M B H B' H' → Γ.zp z' B' H' → RepAll X.K B' vs ds → Q vs H') → semA X es σ H Q
end

section
variable {X : Cx} {Γ : G} {N : List Str} {sc : Scope} {P : Program} {w : World} {K : PySem.W.Frag} {mg : Str → Option Value} {base : Heap} {k : Nat}
variable {e a b c : Expr} {es : List Expr} {ρ : En} {z z1 z2 z3 : Γ.Z} {d d1 d2 d3 : D} {ds ds1 ds2 : List D} {pos : Pos} {i j : Int}

/-! ### names and constants -/
def visC (sc : Scope) (x : Str) : Bool := match sc.names.lookup x with
  | some .local => true | some .cell => true | some .free => true | _ => false
theorem vis_of {sc : Scope} {x : Str} (h : visC sc x = true) : Vis sc x := by
  unfold visC at h
  unfold Vis
  split at h
  · exact .inl (by assumption)
  · exact .inr (.inl (by assumption))
  · exact .inr (.inr (by assumption))
  · cases h
theorem x_var (n : Nat) {x : Str} (C : Cxt X N sc P w K mg base k) (hN : N[n]? = some x) (hv : visC sc x = true) (h : ρ[n]? = some (.dat d))
    (hd : (x == ("__debug__" : Str)) = false := by decide) (hcd : (x == ("__classdict__" : Str)) = false := by decide) : XE X Γ (.Name x pos) ρ z d z := by
  intro σ B H Q S q
  obtain ⟨v, e, r⟩ := S.dat h
  exact eOf (pe_var (i := n) (by rw [C.hN]; exact hN) (by rw [C.hsc]; exact vis_of hv) hd hcd) ⟨v, e, q v B H (.refl S.wf.sub) S.wf.z r⟩
theorem x_hdl (n : Nat) {x : Str} {m : Nat} (C : Cxt X N sc P w K mg base k) (hN : N[n]? = some x) (hv : visC sc x = true) (h : ρ[n]? = some (.hdl m))
    (hd : (x == ("__debug__" : Str)) = false := by decide) (hcd : (x == ("__classdict__" : Str)) = false := by decide) : XE X Γ (.Name x pos) ρ z (.raw (Γ.hd m)) z := by
  intro σ B H Q S q
  exact eOf (pe_var (i := n) (by rw [C.hN]; exact hN) (by rw [C.hsc]; exact vis_of hv) hd hcd) ⟨_, S.hdl h, q _ B H (.refl S.wf.sub) S.wf.z (.raw _)⟩
theorem x_int {n : Nat} : XE X Γ (.Constant (.int i) n pos) ρ z (.int i) z := fun σ B H Q S q => eOf pe_int (q _ B H (.refl S.wf.sub) S.wf.z (.int _))
theorem x_bl {n : Nat} {t : Bool} : XE X Γ (.Constant (.bool t) n pos) ρ z (.bl t) z := fun σ B H Q S q => eOf pe_bl (q _ B H (.refl S.wf.sub) S.wf.z (.bl _))
theorem x_non {n : Nat} : XE X Γ (.Constant .none n pos) ρ z .non z := fun σ B H Q S q => eOf pe_non (q _ B H (.refl S.wf.sub) S.wf.z .non)
theorem x_str {n : Nat} {t : Str} : XE X Γ (.Constant (.str t) n pos) ρ z (.str t) z := fun σ B H Q S q => eOf pe_str (q _ B H (.refl S.wf.sub) S.wf.z (.str _))
theorem x_to {d' : D} (h : XE X Γ e ρ z d z1) (hd : d = d') : XE X Γ e ρ z d' z1 := hd ▸ h

/-! ### two operands -/
theorem x_two {r : R2} (ha : XE X Γ a ρ z d1 z1) (hb : XE X Γ b ρ z1 d2 z2)
    (hr : ∀ x y B H (Q : VK), Ex B H → Rep X.K B x d1 → Rep X.K B y d2 → (∀ v B' H', Stp B H B' H' → Rep X.K B' v d → Q v H') → r x y H Q) :
    ∀ (σ : L2.St) (B H : Hp) (Q : VK), Sat X.K Γ ρ z σ B H → (∀ v B' H', StpM Γ.M B H B' H' → Γ.zp z2 B' H' → Rep X.K B' v d → Q v H') → tOp r (semE X a) (semE X b) σ H Q := by
  intro σ B H Q S q
  refine ha σ B H _ S fun x B1 H1 t1 p1 r1 => ?_
  refine hb σ B1 H1 _ (S.stepM t1 p1) fun y B2 H2 t2 p2 r2 => ?_
  refine hr x y B2 H2 Q t2.sub (r1.mono t2.eB) r2 fun v B3 H3 t3 r3 => q v B3 H3 ((t1.trans t2).trans (.of t3)) ?_ r3
  exact (((S.stepM t1 p1).stepM t2 p2).step t3).wf.z
theorem x_op {op : Operator} {r : R2} (ho : OpR X (binaryOp op) r) (ha : XE X Γ a ρ z d1 z1) (hb : XE X Γ b ρ z1 d2 z2)
    (hr : ∀ x y B H (Q : VK), Ex B H → Rep X.K B x d1 → Rep X.K B y d2 → (∀ v B' H', Stp B H B' H' → Rep X.K B' v d → Q v H') → r x y H Q) : XE X Γ (.BinOp a op b pos) ρ z d z2 :=
  fun σ B H Q S q => eOf (pe_op ho peS peS) (x_two ha hb hr σ B H Q S q)
theorem rI0_r {g : Int → Int → V} {u : D} (hg : ∀ B, Rep X.K B (g i j) u) : ∀ x y B H (Q : VK), Ex B H → Rep X.K B x (.int i) → Rep X.K B y (.int j) → (∀ v B' H', Stp B H B' H' → Rep X.K B' v u → Q v H') → rI0 g x y H Q := by
  intro x y B H Q e rx ry q
  cases rx; cases ry
  exact ⟨i, j, rfl, rfl, q _ B H (.refl e) (hg B)⟩
theorem rI_r {C : Int → Int → Prop} {g : Int → Int → V} {u : D} (hc : C i j) (hg : ∀ B, Rep X.K B (g i j) u) : ∀ x y B H (Q : VK), Ex B H → Rep X.K B x (.int i) → Rep X.K B y (.int j) → (∀ v B' H', Stp B H B' H' → Rep X.K B' v u → Q v H') → rI C g x y H Q := by
  intro x y B H Q e rx ry q
  cases rx; cases ry
  exact ⟨i, j, rfl, rfl, hc, q _ B H (.refl e) (hg B)⟩
theorem x_add (ha : XE X Γ a ρ z (.int i) z1) (hb : XE X Γ b ρ z1 (.int j) z2) : XE X Γ (.BinOp a .Add b pos) ρ z (.int (i + j)) z2 := x_op op_add ha hb (rI0_r fun _ => .int _)
theorem x_sub (ha : XE X Γ a ρ z (.int i) z1) (hb : XE X Γ b ρ z1 (.int j) z2) : XE X Γ (.BinOp a .Sub b pos) ρ z (.int (i - j)) z2 := x_op op_sub ha hb (rI0_r fun _ => .int _)
/-- two numbers are small enough to be multiplied -/
theorem x_mul (ha : XE X Γ a ρ z (.int i) z1) (hb : XE X Γ b ρ z1 (.int j) z2) (h : CMulW i j) : XE X Γ (.BinOp a .Mult b pos) ρ z (.int (i * j)) z2 := x_op op_mulW ha hb (rI_r h fun _ => .int _)
theorem x_fdiv (ha : XE X Γ a ρ z (.int i) z1) (hb : XE X Γ b ρ z1 (.int j) z2) (h : CDivW i j) : XE X Γ (.BinOp a .FloorDiv b pos) ρ z (.int (i / j)) z2 := x_op op_fdivW ha hb (rI_r h fun _ => .int _)
theorem x_mod (ha : XE X Γ a ρ z (.int i) z1) (hb : XE X Γ b ρ z1 (.int j) z2) (h : 0 < j) : XE X Γ (.BinOp a .Mod b pos) ρ z (.int (i % j)) z2 := x_op (r := rI (fun _ j => 0 < j) fun i j => .int (i % j)) op_mod ha hb (rI_r h fun _ => .int _)
theorem x_neg (ha : XE X Γ a ρ z (.int i) z1) : XE X Γ (.UnaryOp .USub a pos) ρ z (.int (-i)) z1 := fun σ B H Q S q => by
  refine eOf (pe_un un_neg peS) (ha σ B H _ S fun v B1 H1 t1 p1 r1 => ?_)
  cases r1
  exact ⟨i, rfl, q _ B1 H1 t1 p1 (.int _)⟩

/-! ### comparisons -/
theorem x_cmp {op : CmpOp} {r : R2} (ho : OpR X (compareOp op) r) (hm : behindInMarks op b = false) (ha : XE X Γ a ρ z d1 z1) (hb : XE X Γ b ρ z1 d2 z2)
    (hr : ∀ x y B H (Q : VK), Ex B H → Rep X.K B x d1 → Rep X.K B y d2 → (∀ v B' H', Stp B H B' H' → Rep X.K B' v d → Q v H') → r x y H Q) : XE X Γ (.Compare a [op] [b] pos) ρ z d z2 :=
  fun σ B H Q S q => eOf (pe_cmpR ho peS peS hm) (x_two ha hb hr σ B H Q S q)
theorem t_cmp {op : CmpOp} {r : R2} {t : Bool} (ho : OpR X (compareOp op) r) (hm : behindInMarks op b = false) (ha : XE X Γ a ρ z d1 z1) (hb : XE X Γ b ρ z1 d2 z2)
    (hr : ∀ x y B H (Q : VK), Ex B H → Rep X.K B x d1 → Rep X.K B y d2 → (∀ v B' H', Stp B H B' H' → Rep X.K B' v (.bl t) → Q v H') → r x y H Q) : XT X Γ (.Compare a [op] [b] pos) ρ z t z2 :=
  fun σ B H Q S q => tOf (pt_cmpR ho peS peS hm) (x_two ha hb hr σ B H _ S fun v B' H' t p r => by cases r; exact ⟨_, rfl, q B' H' t p⟩)
theorem x_lt (ha : XE X Γ a ρ z (.int i) z1) (hb : XE X Γ b ρ z1 (.int j) z2) : XE X Γ (.Compare a [.Lt] [b] pos) ρ z (.bl (decide (i < j))) z2 := x_cmp op_lt (nomark _) ha hb (rI0_r fun _ => .bl _)
theorem x_le (ha : XE X Γ a ρ z (.int i) z1) (hb : XE X Γ b ρ z1 (.int j) z2) : XE X Γ (.Compare a [.LtE] [b] pos) ρ z (.bl (decide (i ≤ j))) z2 := x_cmp op_le (nomark _) ha hb (rI0_r fun _ => .bl _)
theorem x_gt (ha : XE X Γ a ρ z (.int i) z1) (hb : XE X Γ b ρ z1 (.int j) z2) : XE X Γ (.Compare a [.Gt] [b] pos) ρ z (.bl (decide (j < i))) z2 := x_cmp op_gt (nomark _) ha hb (rI0_r fun _ => .bl _)
theorem x_ge (ha : XE X Γ a ρ z (.int i) z1) (hb : XE X Γ b ρ z1 (.int j) z2) : XE X Γ (.Compare a [.GtE] [b] pos) ρ z (.bl (decide (j ≤ i))) z2 := x_cmp op_ge (nomark _) ha hb (rI0_r fun _ => .bl _)
theorem t_lt (ha : XE X Γ a ρ z (.int i) z1) (hb : XE X Γ b ρ z1 (.int j) z2) : XT X Γ (.Compare a [.Lt] [b] pos) ρ z (decide (i < j)) z2 := t_cmp op_lt (nomark _) ha hb (rI0_r fun _ => .bl _)
theorem t_le (ha : XE X Γ a ρ z (.int i) z1) (hb : XE X Γ b ρ z1 (.int j) z2) : XT X Γ (.Compare a [.LtE] [b] pos) ρ z (decide (i ≤ j)) z2 := t_cmp op_le (nomark _) ha hb (rI0_r fun _ => .bl _)
theorem t_gt (ha : XE X Γ a ρ z (.int i) z1) (hb : XE X Γ b ρ z1 (.int j) z2) : XT X Γ (.Compare a [.Gt] [b] pos) ρ z (decide (j < i)) z2 := t_cmp op_gt (nomark _) ha hb (rI0_r fun _ => .bl _)
theorem t_ge (ha : XE X Γ a ρ z (.int i) z1) (hb : XE X Γ b ρ z1 (.int j) z2) : XT X Γ (.Compare a [.GtE] [b] pos) ρ z (decide (j ≤ i)) z2 := t_cmp op_ge (nomark _) ha hb (rI0_r fun _ => .bl _)
/-- == of ints, bools, texts -/
def scalD : D → Option V
  | .int i => some (.int i)
  | .bl b => some (.bl b)
  | .str s => some (.str s)
  | _ => none
theorem rep_scal {B : Hp} {v x : V} {d : D} (r : Rep K B v d) (h : scalD d = some x) : v = x := by
  cases r <;> first | (cases h; rfl) | cases h
theorem rEq_r {u v : V} (h1 : scalD d1 = some u) (h2 : scalD d2 = some v) (hs : scal u v = true) : ∀ x y B H (Q : VK), Ex B H → Rep X.K B x d1 → Rep X.K B y d2 → (∀ v' B' H', Stp B H B' H' → Rep X.K B' v' (.bl (decide (u = v))) → Q v' H') → rEq x y H Q := by
  intro x y B H Q e rx ry q
  rw [rep_scal rx h1, rep_scal ry h2]
  exact ⟨hs, q _ B H (.refl e) (.bl _)⟩
theorem rNe_r {u v : V} (h1 : scalD d1 = some u) (h2 : scalD d2 = some v) (hs : scal u v = true) : ∀ x y B H (Q : VK), Ex B H → Rep X.K B x d1 → Rep X.K B y d2 → (∀ v' B' H', Stp B H B' H' → Rep X.K B' v' (.bl (!decide (u = v))) → Q v' H') → rNe x y H Q := by
  intro x y B H Q e rx ry q
  rw [rep_scal rx h1, rep_scal ry h2]
  exact ⟨hs, q _ B H (.refl e) (.bl _)⟩
theorem decI : decide (V.int i = V.int j) = decide (i = j) := by
  by_cases h : i = j
  · subst h; simp
  · simp [h]
theorem x_eqI (ha : XE X Γ a ρ z (.int i) z1) (hb : XE X Γ b ρ z1 (.int j) z2) : XE X Γ (.Compare a [.Eq] [b] pos) ρ z (.bl (decide (i = j))) z2 := by
  rw [← decI]
  exact x_cmp op_eq (nomark _) ha hb (rEq_r rfl rfl rfl)
theorem x_neI (ha : XE X Γ a ρ z (.int i) z1) (hb : XE X Γ b ρ z1 (.int j) z2) : XE X Γ (.Compare a [.NotEq] [b] pos) ρ z (.bl (!decide (i = j))) z2 := by
  rw [← decI]
  exact x_cmp op_ne (nomark _) ha hb (rNe_r rfl rfl rfl)
theorem t_eqI (ha : XE X Γ a ρ z (.int i) z1) (hb : XE X Γ b ρ z1 (.int j) z2) : XT X Γ (.Compare a [.Eq] [b] pos) ρ z (decide (i = j)) z2 := by
  rw [← decI]
  exact t_cmp op_eq (nomark _) ha hb (rEq_r rfl rfl rfl)
theorem t_neI (ha : XE X Γ a ρ z (.int i) z1) (hb : XE X Γ b ρ z1 (.int j) z2) : XT X Γ (.Compare a [.NotEq] [b] pos) ρ z (!decide (i = j)) z2 := by
  rw [← decI]
  exact t_cmp op_ne (nomark _) ha hb (rNe_r rfl rfl rfl)
/-- == of data of any shape -/
theorem rEqD_r (h1 : d1.plain = true) (h2 : d2.plain = true) (s1 : SeqAt.shaped d1.py = true) (s2 : SeqAt.shaped d2.py = true) : ∀ x y B H (Q : VK), Ex B H → Rep X.K B x d1 → Rep X.K B y d2 → (∀ v' B' H', Stp B H B' H' → Rep X.K B' v' (.bl (PyData.eqv d1.py d2.py)) → Q v' H') → rEqD X.K x y H Q :=
  fun x y B H Q e rx ry q => ⟨_, _, dp_mono e (rx.dp h1), dp_mono e (ry.dp h2), s1, s2, q _ B H (.refl e) (.bl _)⟩
theorem rNeD_r (h1 : d1.plain = true) (h2 : d2.plain = true) (s1 : SeqAt.shaped d1.py = true) (s2 : SeqAt.shaped d2.py = true) : ∀ x y B H (Q : VK), Ex B H → Rep X.K B x d1 → Rep X.K B y d2 → (∀ v' B' H', Stp B H B' H' → Rep X.K B' v' (.bl (!PyData.eqv d1.py d2.py)) → Q v' H') → rNeD X.K x y H Q :=
  fun x y B H Q e rx ry q => ⟨_, _, dp_mono e (rx.dp h1), dp_mono e (ry.dp h2), s1, s2, q _ B H (.refl e) (.bl _)⟩
theorem x_eqD (C : Cxt X N sc P w K mg base k) (ha : XE X Γ a ρ z d1 z1) (hb : XE X Γ b ρ z1 d2 z2) (h1 : d1.plain = true) (h2 : d2.plain = true) (s1 : SeqAt.shaped d1.py = true) (s2 : SeqAt.shaped d2.py = true) :
    XE X Γ (.Compare a [.Eq] [b] pos) ρ z (.bl (PyData.eqv d1.py d2.py)) z2 := x_cmp (op_eqD C.room.units) (nomark _) ha hb (rEqD_r h1 h2 s1 s2)
theorem x_neD (C : Cxt X N sc P w K mg base k) (ha : XE X Γ a ρ z d1 z1) (hb : XE X Γ b ρ z1 d2 z2) (h1 : d1.plain = true) (h2 : d2.plain = true) (s1 : SeqAt.shaped d1.py = true) (s2 : SeqAt.shaped d2.py = true) :
    XE X Γ (.Compare a [.NotEq] [b] pos) ρ z (.bl (!PyData.eqv d1.py d2.py)) z2 := x_cmp (op_neD C.room.units) (nomark _) ha hb (rNeD_r h1 h2 s1 s2)
theorem t_eqD (C : Cxt X N sc P w K mg base k) (ha : XE X Γ a ρ z d1 z1) (hb : XE X Γ b ρ z1 d2 z2) (h1 : d1.plain = true) (h2 : d2.plain = true) (s1 : SeqAt.shaped d1.py = true) (s2 : SeqAt.shaped d2.py = true) :
    XT X Γ (.Compare a [.Eq] [b] pos) ρ z (PyData.eqv d1.py d2.py) z2 := t_cmp (op_eqD C.room.units) (nomark _) ha hb (rEqD_r h1 h2 s1 s2)
theorem t_neD (C : Cxt X N sc P w K mg base k) (ha : XE X Γ a ρ z d1 z1) (hb : XE X Γ b ρ z1 d2 z2) (h1 : d1.plain = true) (h2 : d2.plain = true) (s1 : SeqAt.shaped d1.py = true) (s2 : SeqAt.shaped d2.py = true) :
    XT X Γ (.Compare a [.NotEq] [b] pos) ρ z (!PyData.eqv d1.py d2.py) z2 := t_cmp (op_neD C.room.units) (nomark _) ha hb (rNeD_r h1 h2 s1 s2)
/-- is None -/
def isNon : D → Bool
  | .non => true
  | _ => false
def notRaw : D → Bool
  | .raw _ => false
  | _ => true
theorem rep_non {B : Hp} {v : V} {d : D} (r : Rep K B v d) (h : notRaw d = true) : decide (v = .non) = isNon d := by
  cases r <;> first | rfl | cases h | exact decide_eq_false (fun q => nomatch q)
theorem x_isN {n : Nat} {p2 : Pos} (ha : XE X Γ a ρ z d z1) (h : notRaw d = true) : XE X Γ (.Compare a [.Is] [.Constant .none n p2] pos) ρ z (.bl (isNon d)) z1 :=
  x_cmp (d2 := .non) op_isN (nomark _) ha x_non fun x y B H Q e rx ry q => by
    cases ry
    exact ⟨rfl, by rw [rep_non rx h]; exact q _ B H (.refl e) (.bl _)⟩
theorem x_notN {n : Nat} {p2 : Pos} (ha : XE X Γ a ρ z d z1) (h : notRaw d = true) : XE X Γ (.Compare a [.IsNot] [.Constant .none n p2] pos) ρ z (.bl (!isNon d)) z1 :=
  x_cmp (d2 := .non) op_notN (nomark _) ha x_non fun x y B H Q e rx ry q => by
    cases ry
    exact ⟨rfl, by rw [rep_non rx h]; exact q _ B H (.refl e) (.bl _)⟩
theorem t_isN {n : Nat} {p2 : Pos} (ha : XE X Γ a ρ z d z1) (h : notRaw d = true) : XT X Γ (.Compare a [.Is] [.Constant .none n p2] pos) ρ z (isNon d) z1 :=
  t_cmp (d2 := .non) op_isN (nomark _) ha x_non fun x y B H Q e rx ry q => by
    cases ry
    exact ⟨rfl, by rw [rep_non rx h]; exact q _ B H (.refl e) (.bl _)⟩
theorem t_notN {n : Nat} {p2 : Pos} (ha : XE X Γ a ρ z d z1) (h : notRaw d = true) : XT X Γ (.Compare a [.IsNot] [.Constant .none n p2] pos) ρ z (!isNon d) z1 :=
  t_cmp (d2 := .non) op_notN (nomark _) ha x_non fun x y B H Q e rx ry q => by
    cases ry
    exact ⟨rfl, by rw [rep_non rx h]; exact q _ B H (.refl e) (.bl _)⟩

/-! ### tests -/
variable {s t u : Bool}
theorem t_val (ha : XE X Γ a ρ z (.bl t) z1) (he : ∀ whole, isTrue a X.env whole = (do let v ← whole; standAt a.pos; holding [v] (truthy v)) := by intro _; rfl) : XT X Γ a ρ z t z1 := fun σ B H Q S q =>
  tOf (pt_val peS he) (ha σ B H _ S fun v B' H' t p r => by cases r; exact ⟨_, rfl, q B' H' t p⟩)
theorem t_not (ha : XT X Γ a ρ z t z1) : XT X Γ (.UnaryOp .Not a pos) ρ z (!t) z1 := fun σ B H Q S q => tOf (pt_not ptS) (ha σ B H _ S fun B' H' t p => q B' H' t p)
theorem w_and1 (ha : XT X Γ a ρ z t z1) : XW X Γ (.BoolOp .And [a] pos) ρ z t z1 := fun σ B H Q S q => wOf (pw_and1 ptS) (ha σ B H _ S q)
theorem w_or1 (ha : XT X Γ a ρ z t z1) : XW X Γ (.BoolOp .Or [a] pos) ρ z t z1 := fun σ B H Q S q => wOf (pw_or1 ptS) (ha σ B H _ S q)
/-- and: the second is asked where the first holds (the state stays) -/
theorem w_and (ha : XT X Γ a ρ z t z) (hb : t = true → XW X Γ (.BoolOp .And (b :: es) pos) ρ z u z) : XW X Γ (.BoolOp .And (a :: b :: es) pos) ρ z (t && u) z := fun σ B H Q S q => by
  refine wOf (pw_and ptS pwS) (ha σ B H _ S fun B1 H1 t1 p1 => ?_)
  cases t with
  | true =>
    rw [if_pos rfl]
    exact hb rfl σ B1 H1 _ (S.stepM t1 p1) fun B2 H2 t2 p2 => q B2 H2 (t1.trans t2) p2
  | false =>
    rw [if_neg Bool.false_ne_true]
    exact q B1 H1 t1 p1
theorem w_or (ha : XT X Γ a ρ z t z) (hb : t = false → XW X Γ (.BoolOp .Or (b :: es) pos) ρ z u z) : XW X Γ (.BoolOp .Or (a :: b :: es) pos) ρ z (t || u) z := fun σ B H Q S q => by
  refine wOf (pw_or ptS pwS) (ha σ B H _ S fun B1 H1 t1 p1 => ?_)
  cases t with
  | false =>
    rw [if_neg Bool.false_ne_true]
    exact hb rfl σ B1 H1 _ (S.stepM t1 p1) fun B2 H2 t2 p2 => q B2 H2 (t1.trans t2) p2
  | true =>
    rw [if_pos rfl]
    exact q B1 H1 t1 p1
theorem t_w (h : XW X Γ a ρ z t z1) : XT X Γ a ρ z t z1 := fun σ B H Q S q => wt (h σ B H Q S q)
theorem t_to (h : XT X Γ a ρ z t z1) (e : t = u) : XT X Γ a ρ z u z1 := e ▸ h
/-- .. as values -/
theorem x_one {op : BoolOp} (ha : XE X Γ a ρ z d z1) : XE X Γ (.BoolOp op [a] pos) ρ z d z1 := fun σ B H Q S q => eOf (pe_one peS) (ha σ B H _ S q)
theorem x_and (ha : XE X Γ a ρ z (.bl t) z) (hb : t = true → XE X Γ (.BoolOp .And (b :: es) pos) ρ z (.bl u) z) : XE X Γ (.BoolOp .And (a :: b :: es) pos) ρ z (.bl (t && u)) z := fun σ B H Q S q => by
  refine eOf (pe_and peS peS) (ha σ B H _ S fun v B1 H1 t1 p1 r1 => ?_)
  cases r1
  refine ⟨t, rfl, ?_⟩
  cases t with
  | true =>
    rw [if_pos rfl]
    exact hb rfl σ B1 H1 _ (S.stepM t1 p1) fun v B2 H2 t2 p2 r2 => q v B2 H2 (t1.trans t2) p2 r2
  | false =>
    rw [if_neg Bool.false_ne_true]
    exact q _ B1 H1 t1 p1 (.bl _)
theorem x_or (ha : XE X Γ a ρ z (.bl t) z) (hb : t = false → XE X Γ (.BoolOp .Or (b :: es) pos) ρ z (.bl u) z) : XE X Γ (.BoolOp .Or (a :: b :: es) pos) ρ z (.bl (t || u)) z := fun σ B H Q S q => by
  refine eOf (pe_or peS peS) (ha σ B H _ S fun v B1 H1 t1 p1 r1 => ?_)
  cases r1
  refine ⟨t, rfl, ?_⟩
  cases t with
  | false =>
    rw [if_neg Bool.false_ne_true]
    exact hb rfl σ B1 H1 _ (S.stepM t1 p1) fun v B2 H2 t2 p2 r2 => q v B2 H2 (t1.trans t2) p2 r2
  | true =>
    rw [if_pos rfl]
    exact q _ B1 H1 t1 p1 (.bl _)
theorem x_not (ha : XE X Γ a ρ z (.bl t) z1) : XE X Γ (.UnaryOp .Not a pos) ρ z (.bl (!t)) z1 := fun σ B H Q S q =>
  eOf (pe_not peS) (ha σ B H _ S fun v B1 H1 t1 p1 r1 => by cases r1; exact ⟨t, rfl, q _ B1 H1 t1 p1 (.bl _)⟩)
theorem x_if (hc : XT X Γ c ρ z t z1) (h1 : t = true → XE X Γ a ρ z1 d z2) (h2 : t = false → XE X Γ b ρ z1 d z2) : XE X Γ (.IfExp c a b pos) ρ z d z2 := fun σ B H Q S q => by
  refine eOf (pe_ifExp ptS peS peS) (hc σ B H _ S fun B1 H1 t1 p1 => ?_)
  cases t with
  | true =>
    rw [if_pos rfl]
    exact h1 rfl σ B1 H1 _ (S.stepM t1 p1) fun v B2 H2 t2 p2 r2 => q v B2 H2 (t1.trans t2) p2 r2
  | false =>
    rw [if_neg Bool.false_ne_true]
    exact h2 rfl σ B1 H1 _ (S.stepM t1 p1) fun v B2 H2 t2 p2 r2 => q v B2 H2 (t1.trans t2) p2 r2

/-! ### arguments, tuples, lists -/
theorem a_nil : XA X Γ [] ρ z [] z := fun σ B H Q S q => aOf pa_nil (q [] B H (.refl S.wf.sub) S.wf.z .nil)
theorem a_cons (ha : XE X Γ a ρ z d z1) (hr : XA X Γ es ρ z1 ds z2) (hs : starEach (a :: es) X.env = (false, eval a X.env) :: starEach es X.env := by rfl) : XA X Γ (a :: es) ρ z (d :: ds) z2 := fun σ B H Q S q => by
  refine aOf (pa_cons peS paS hs) (ha σ B H _ S fun v B1 H1 t1 p1 r1 => ?_)
  exact hr σ B1 H1 _ (S.stepM t1 p1) fun vs B2 H2 t2 p2 r2 => q _ B2 H2 (t1.trans t2) p2 (.cons (r1.mono t2.eB) r2)
theorem x_tup {n : Nat} (h : XA X Γ es ρ z ds z1) (hl : ds.length ≤ sizeLine) : XE X Γ (.Tuple es n pos) ρ z (.tup ds) z1 := fun σ B H Q S q => by
  refine eOf (pe_tup paS) (h σ B H _ S fun vs B1 H1 t1 p1 r1 => ⟨by rw [r1.len]; exact hl, fun p hp => ?_⟩)
  have t2 : Stp B1 H1 _ _ := .new (o := .tup vs) t1.sub hp
  exact q _ _ _ (t1.trans (.of t2)) ((S.stepM t1 p1).zp t2) (.tup upd_same (r1.mono t2.eB))
theorem l_lst (h : XA X Γ es ρ z ds z1) (hl : ds.length ≤ sizeLine) : XL X Γ (.List es pos) ρ z ds z1 := fun σ B H Q S q => by
  refine eOf (pe_lst paS) (h σ B H _ S fun vs B1 H1 t1 p1 r1 => ⟨by rw [r1.len]; exact hl, fun p hp => ?_⟩)
  have t2 : Stp B1 H1 _ _ := .newO (o := .lst vs) t1.sub hp
  have hb1 : B1 p = none := by
    cases q : B1 p with
    | none => rfl
    | some u => rw [t1.sub p u q] at hp; cases hp
  have h0 : H p = none := by
    cases q : H p with
    | none => rfl
    | some u => exact absurd hp (t1.eM p (some_ne q))
  exact q p vs _ _ (t1.trans (.of t2)) ((S.stepM t1 p1).zp t2) h0 hb1 upd_same (r1.mono t2.eB)
theorem x_ofL (h : XL X Γ a ρ z ds z1) : XE X Γ a ρ z (.lst ds) z1 := fun σ B H Q S q => h σ B H Q S fun p vs B1 H1 t1 p1 h0 hb hp r => by
  have e : Ex B1 (upd B1 p (.lst vs)) := Ex.new hb
  have t2 : StpM Γ.M B H (upd B1 p (.lst vs)) H1 := by
    refine ⟨t1.eB.trans e, fun a o m h n => t1.eH a o m h n, t1.eM, fun x o h => ?_, fun x h => ?_, fun g => (t1.gd g).frz rfl⟩
    · by_cases hx : x = p
      · subst hx; rw [upd_same] at h; rw [← h]; exact hp
      · rw [upd_ne hx] at h; exact t1.sub x o h
    · rw [upd_ne (fun q : x = p => h (by rw [q]; exact h0))]
      exact t1.fr x h
  refine q _ _ _ t2 ?_ (.lst (.of upd_same) (r.mono e))
  refine Γ.zfr _ _ _ _ _ p1 e (fun _ _ _ h _ => h) fun x m => ?_
  rw [upd_ne (fun q : x = p => ?_)]
  · exact (Γ.znb _ _ _ p1 x m).1
  · subst q
    exact (Γ.znb _ _ _ S.wf.z x m).2 h0
theorem x_lst (h : XA X Γ es ρ z ds z1) (hl : ds.length ≤ sizeLine) : XE X Γ (.List es pos) ρ z (.lst ds) z1 := x_ofL (l_lst h hl)
theorem l_to {ds' : List D} (h : XL X Γ a ρ z ds z1) (hd : ds = ds') : XL X Γ a ρ z ds' z1 := hd ▸ h

/-! ### items -/
theorem rep_at {B : Hp} {vs : List V} {ds : List D} (r : RepAll K B vs ds) (h : atI ds i = some d) : ∃ v, atI vs i = some v ∧ Rep K B v d := by
  unfold atI at h ⊢
  rw [r.len]
  cases q : ixN ds.length i with
  | none => rw [q] at h; cases h
  | some n =>
    rw [q] at h
    exact r.get h
theorem x_ixL (ha : XE X Γ a ρ z (.lst ds) z1) (hb : XE X Γ b ρ z1 (.int i) z2) (h : atI ds i = some d) (hs : PlainIx b := by exact fun _ _ => rfl) : XE X Γ (.Subscript a b pos) ρ z d z2 := fun σ B H Q S q =>
  eOf (pe_ix ix_list peS peS hs) (x_two ha hb (fun x y B H Q e rx ry q => by
    cases ry
    cases rx with
    | lst hl r =>
      obtain ⟨v, hv, rv⟩ := rep_at r h
      exact ⟨_, _, i, v, rfl, rfl, e.sqL hl, hv, q v B H (.refl e) rv⟩) σ B H Q S q)
theorem x_ixT (ha : XE X Γ a ρ z (.tup ds) z1) (hb : XE X Γ b ρ z1 (.int i) z2) (h : atI ds i = some d) (hs : PlainIx b := by exact fun _ _ => rfl) : XE X Γ (.Subscript a b pos) ρ z d z2 := fun σ B H Q S q =>
  eOf (pe_ix ix_tup peS peS hs) (x_two ha hb (fun x y B H Q e rx ry q => by
    cases ry
    cases rx with
    | tup hl r =>
      obtain ⟨v, hv, rv⟩ := rep_at r h
      exact ⟨_, _, i, v, rfl, rfl, e.sqE hl, hv, q v B H (.refl e) rv⟩) σ B H Q S q)
/-- an item of a list of one's own -/
theorem x_ixO (n : Nat) {x : Str} {p2 : Pos} (C : Cxt X N sc P w K mg base k) (hN : N[n]? = some x) (hv : visC sc x = true) (ho : ρ[n]? = some (.own ds)) (hb : XE X Γ b ρ z (.int i) z1) (h : atI ds i = some d) (hs : PlainIx b := by exact fun _ _ => rfl)
    (hd : (x == ("__debug__" : Str)) = false := by decide) (hcd : (x == ("__classdict__" : Str)) = false := by decide) : XE X Γ (.Subscript (.Name x p2) b pos) ρ z d z1 := fun σ B H Q S q => by
  obtain ⟨a, vs, e, h0, hb0, hh, r⟩ := S.own ho
  refine eOf (pe_ix ix_list (pe_var (i := n) (by rw [C.hN]; exact hN) (by rw [C.hsc]; exact vis_of hv) hd hcd) peS hs) ⟨_, e, hb σ B H _ S fun y B1 H1 t1 p1 r1 => ?_⟩
  cases r1
  obtain ⟨v, hv, rv⟩ := rep_at r h
  exact ⟨_, vs, i, v, rfl, rfl, .of (t1.eH a _ (fun m => Γ.m0 a m h0) hh), hv, q v B1 H1 t1 p1 (rv.mono t1.eB)⟩
end
end DL

namespace DL
open PySem PySem.Spec PyProof.Rows L2
variable [TB]

/-- a name that the def reads from the module, or a built-in's -/
def GlS (sc : Scope) (x : Str) : Prop := sc.names.lookup x = some .globalImplicit
theorem Cxt.gl {X : Cx} {N : List Str} {sc : Scope} {P : Program} {w : World} {K : PySem.W.Frag} {mg : Str → Option Value} {base : Heap} {k : Nat} (C : Cxt X N sc P w K mg base k) {x : Str} (h : GlS sc x) : Gl X x := by
  show X.env.scope.names.lookup _ = _
  rw [C.hsc]
  exact h
/-- swapped stores hang on the scope alone -/
def envS (sc : Scope) : Env := { scope := sc, locals := 0, globals := 0, cells := [], qual := "", func := none, code := .none, frame := none, builtins := 0 }
theorem swap_env {ts : List Expr} {v : Expr} {env : Env} {sc : Scope} (h : env.scope = sc) : swappedStores ts v env = swappedStores ts v (envS sc) := by
  subst h
  rfl
def swOk (ts vs : List Expr) (sc : Scope) (names : List Str) : Bool :=
  ((ts.length == 2 || ts.length == 3) && vs.length == ts.length && !((envS sc).blockKind != .function)) && (!(vs.any fun | .Starred .. => true | _ => false) &&
  (decide ((ts.filterMap fun
    | .Name id pos => if (envS sc).kindOf id == some .local && pos.line == (ts.head?.map (·.pos.line)).getD 0 then some id else none
    | _ => none) = names) && (!(names.length != ts.length || names.eraseDups.length != names.length) && (!(vs.all (foldedForSure 8)) && !(vs.all (constantsAlone 8))))))
theorem sw_of {ts vs : List Expr} {k k2 : Nat} {p p2 : Pos} {sc : Scope} {names : List Str} (h : swOk ts vs sc names = true) : swappedStores [.Tuple ts k p] (.Tuple vs k2 p2) (envS sc) = pure (some names) := by
  unfold swOk at h
  rw [Bool.and_eq_true, Bool.and_eq_true, Bool.and_eq_true, Bool.and_eq_true, Bool.and_eq_true, Bool.and_eq_true, Bool.and_eq_true] at h
  obtain ⟨⟨⟨h1, h2⟩, h3⟩, h4, h5, h6, h7, h8⟩ := h
  have e1 : (!(ts.length == 2 || ts.length == 3) || vs.length != ts.length || (envS sc).blockKind != .function) = false := by
    rw [h1]
    have : (vs.length != ts.length) = false := by simpa using h2
    rw [this]
    simpa using h3
  have h5 := of_decide_eq_true h5
  have h4 : (vs.any fun | .Starred .. => true | _ => false) = false := by simpa using h4
  have h6 : (names.length != ts.length || names.eraseDups.length != names.length) = false := by simpa using h6
  have h7 : vs.all (foldedForSure 8) = false := by simpa using h7
  have h8 : vs.all (constantsAlone 8) = false := by simpa using h8
  show (if (!(ts.length == 2 || ts.length == 3) || vs.length != ts.length || (envS sc).blockKind != .function) = true then pure none else
    if (vs.any fun | .Starred .. => true | _ => false) = true then pure none else
    if ((ts.filterMap fun
      | .Name id pos => if (envS sc).kindOf id == some .local && pos.line == (ts.head?.map (·.pos.line)).getD 0 then some id else none
      | _ => none).length != ts.length || (ts.filterMap fun
      | .Name id pos => if (envS sc).kindOf id == some .local && pos.line == (ts.head?.map (·.pos.line)).getD 0 then some id else none
      | _ => none).eraseDups.length != (ts.filterMap fun
      | .Name id pos => if (envS sc).kindOf id == some .local && pos.line == (ts.head?.map (·.pos.line)).getD 0 then some id else none
      | _ => none).length) = true then pure none else if vs.all (foldedForSure 8) = true then pure none else if vs.all (constantsAlone 8) = true then _ else pure (some (ts.filterMap fun
      | .Name id pos => if (envS sc).kindOf id == some .local && pos.line == (ts.head?.map (·.pos.line)).getD 0 then some id else none
      | _ => none))) = _
  rw [h5, e1, h4, h6, h7, h8]
  rfl
theorem getD_of {ds : List D} {m : Nat} {d : D} (h : ds[m]? = some d) : ds.getD m .non = d := by
  rw [List.getD_eq_getElem?_getD, h]; rfl
/-! ### what is wanted behind a statement -/
structure Post (Γ : G) where
  nx : En → Γ.Z → Prop
  rt : D → Γ.Z → Prop
  bk : En → Γ.Z → Prop := fun _ _ => False
  ct : En → Γ.Z → Prop := fun _ _ => False
structure Lk (K : PySem.W.Frag) (Γ : G) (P : Post Γ) (E : Ends) (B : Hp) : Prop where
  nx : ∀ ρ z σ B' H, Ex B B' → Sat K Γ ρ z σ B' H → P.nx ρ z → E.nx σ H
  rt : ∀ v d z B' H, Ex B B' → Wf Γ z B' H → Rep K B' v d → P.rt d z → E.rt v H
  bk : ∀ ρ z σ B' H, Ex B B' → Sat K Γ ρ z σ B' H → P.bk ρ z → E.bk σ H
  ct : ∀ ρ z σ B' H, Ex B B' → Sat K Γ ρ z σ B' H → P.ct ρ z → E.ct σ H
theorem Lk.ex {K : PySem.W.Frag} {Γ : G} {P : Post Γ} {E : Ends} {B B' : Hp} (l : Lk K Γ P E B) (e : Ex B B') : Lk K Γ P E B' :=
  ⟨fun ρ z σ C H x => l.nx ρ z σ C H (e.trans x), fun v d z C H x => l.rt v d z C H (e.trans x), fun ρ z σ C H x => l.bk ρ z σ C H (e.trans x), fun ρ z σ C H x => l.ct ρ z σ C H (e.trans x)⟩

def semG (X : Cx) (tg : Expr) : TG := fun v σ H Q => ∀ pins s u, Inv X pins σ H s → RelV v u → wpAny (model X.prog X.w) X.A (assign tg X.env u) (fun _ s' => ∃ σ' H', Inv X pins σ' H' s' ∧ Q σ' H') X.xe s
theorem pgS {X : Cx} {tg : Expr} : PG X tg (semG X tg) := ⟨fun pins s σ H v u Q I r h => h pins s u I r⟩
theorem gOf {X : Cx} {tg : Expr} {t : TG} {v : V} {σ : L2.St} {H : Hp} {Q : L2.St → Hp → Prop} (h : PG X tg t) (q : t v σ H Q) : semG X tg v σ H Q := fun pins s u I r => h.run pins s σ H v u Q I r q
def semI (X : Cx) (tg it : Expr) : TI := fun σ H R => ∀ pins s, Inv X pins σ H s → wpAny (model X.prog X.w) X.A (eval it X.env) (fun v s1 => wpAny (model X.prog X.w) X.A (pyIter v) (PIE X pins σ tg R) X.xe s1) X.xe s
theorem piS {X : Cx} {tg it : Expr} : PI X tg it (semI X tg it) := ⟨fun pins s σ H R I h => h pins s I⟩
theorem iOf {X : Cx} {tg it : Expr} {t : TI} {σ : L2.St} {H : Hp} {R : It → Hp → Prop} (h : PI X tg it t) (q : t σ H R) : semI X tg it σ H R := fun pins s I => h.run pins s σ H R I q

/-- σ' is σ but at the slots of ns -/
def Sets (ns : List Nat) (σ σ' : L2.St) : Prop := σ'.length = σ.length ∧ ∀ i, i ∉ ns → σ'[i]? = σ[i]?
theorem Sets.refl {σ : L2.St} : Sets [] σ σ := ⟨rfl, fun _ _ => rfl⟩
theorem Sets.one {σ : L2.St} {n : Nat} {x : Option V} : Sets [n] σ (σ.set n x) := ⟨by simp, fun i h => List.getElem?_set_ne (by simpa using fun e => h (by simp [e]))⟩
theorem Sets.trans {σ σ1 σ2 : L2.St} {ns ms : List Nat} (a : Sets ns σ σ1) (b : Sets ms σ1 σ2) : Sets (ns ++ ms) σ σ2 :=
  ⟨b.1.trans a.1, fun i h => (b.2 i fun q => h (List.mem_append_right _ q)).trans (a.2 i fun q => h (List.mem_append_left _ q))⟩
section
variable (X : Cx) (Γ : G)
def XS (st : Stmt) (ρ : En) (z : Γ.Z) (P : Post Γ) : Prop := ∀ (σ : L2.St) (B H : Hp) (E : Ends), Sat X.K Γ ρ z σ B H → Lk X.K Γ P E B → semS X st E σ H
def XSs (sts : List Stmt) (ρ : En) (z : Γ.Z) (P : Post Γ) : Prop := ∀ (σ : L2.St) (B H : Hp) (E : Ends), Sat X.K Γ ρ z σ B H → Lk X.K Γ P E B → semSs X sts E σ H
/-- tg takes the data d -/
def XG (tg : Expr) (ns : List Nat) (d : D) (ρ ρ' : En) : Prop := ∀ (z : Γ.Z) (σ : L2.St) (B H : Hp) (v : V) (Q : L2.St → Hp → Prop), Sat X.K Γ ρ z σ B H → Rep X.K B v d →
  (∀ σ', Sat X.K Γ ρ' z σ' B H → Sets ns σ σ' → Q σ' H) → semG X tg v σ H Q
def semGs (tgs : List Expr) : TGs := fun vs σ H Q => ∀ pins s us, Inv X pins σ H s → Vals vs us → wpAny (model X.prog X.w) X.A (assignInOrder ((assignEach tgs X.env).map (·.2)) us) (fun _ s' => ∃ σ' H', Inv X pins σ' H' s' ∧ Q σ' H') X.xe s
def XGs (tgs : List Expr) (ns : List Nat) (ds : List D) (ρ ρ' : En) : Prop := ∀ (z : Γ.Z) (σ : L2.St) (B H : Hp) (vs : List V) (Q : L2.St → Hp → Prop), Sat X.K Γ ρ z σ B H → RepAll X.K B vs ds →
  (∀ σ', Sat X.K Γ ρ' z σ' B H → Sets ns σ σ' → Q σ' H) → semGs X tgs vs σ H Q
/-- it yields n items, item 0, item 1, .. -/
def XI (tg it : Expr) (ρ : En) (z : Γ.Z) (n : Nat) (item : Nat → D) (z1 : Γ.Z) : Prop := ∀ (σ : L2.St) (B H : Hp) (R : It → Hp → Prop), Sat X.K Γ ρ z σ B H →
  (∀ J B1 H1, StpM Γ.M B H B1 H1 → Γ.zp z1 B1 H1 → (∀ B2 H2, Ex B1 B2 → Ex B2 H2 → J.stop n H2) → (∀ i B2 H2, i < n → Ex B1 B2 → Ex B2 H2 → J.go i H2) →
    (∀ i B2 H2 x H3, i < n → Ex B1 B2 → Ex B2 H2 → J.yld i H2 x H3 → ∃ B3, Stp B2 H2 B3 H3 ∧ Rep X.K B3 x (item i)) → R J H1) → semI X tg it σ H R
end

structure Cxd (X : Cx) (N : List Str) (sc : Scope) (P : Program) (w : World) (K : PySem.W.Frag) (mg : Str → Option Value) (base : Heap) (k : Nat) : Prop extends Cxt X N sc P w K mg base k where
  fn : ∀ x, X.fn x = true
def locC (sc : Scope) (x : Str) : Bool := match sc.names.lookup x with
  | some .local => true | some .cell => true | _ => false
theorem loc_of {sc : Scope} {x : Str} (h : locC sc x = true) : L2.Loc sc x := by
  unfold locC at h
  unfold L2.Loc
  split at h
  · exact .inl (by assumption)
  · exact .inr (by assumption)
  · cases h

section
variable {X : Cx} {Γ : G} {N : List Str} {sc : Scope} {P : Program} {w : World} {K : PySem.W.Frag} {mg : Str → Option Value} {base : Heap} {k : Nat}
variable {e a b c tg it : Expr} {es tgs : List Expr} {st : Stmt} {sts body : List Stmt} {ρ ρ' ρ1 ρ2 : En} {z z1 z2 z3 : Γ.Z} {d d1 d2 d3 : D} {ds ds1 ds2 : List D} {pos : Pos} {i j : Int} {Po : Post Γ} {t : Bool}

/-! ### blocks -/
theorem xss_nil (q : Po.nx ρ z) : XSs X Γ [] ρ z Po := fun σ B H E S l => ssOf pss_nil (l.nx ρ z σ B H (Ex.refl _) S q)
theorem xss_cons (h : XS X Γ st ρ z { Po with nx := fun ρ' z' => XSs X Γ sts ρ' z' Po }) : XSs X Γ (st :: sts) ρ z Po := fun σ B H E S l =>
  ssOf (pss_cons psS pssS) (h σ B H _ S ⟨fun ρ' z' σ' B' H' e S' q => q σ' B' H' E S' (l.ex e), l.rt, l.bk, l.ct⟩)
theorem xss_one (h : XS X Γ st ρ z Po) : XSs X Γ [st] ρ z Po := fun σ B H E S l => ssOf (pss_one psS) (h σ B H _ S l)
/-- a list of one's own is data from here on -/
theorem xss_freeze (n : Nat) (ho : ρ[n]? = some (.own ds)) (h : XSs X Γ sts (ρ.set n (.dat (.lst ds))) z Po) : XSs X Γ sts ρ z Po := fun σ B H E S l => by
  obtain ⟨B', e, S'⟩ := S.freeze ho
  exact h σ B' H E S' (l.ex e)
theorem xs_freeze (n : Nat) (ho : ρ[n]? = some (.own ds)) (h : XS X Γ st (ρ.set n (.dat (.lst ds))) z Po) : XS X Γ st ρ z Po := fun σ B H E S l => by
  obtain ⟨B', e, S'⟩ := S.freeze ho
  exact h σ B' H E S' (l.ex e)
/-- the environment's other form, known or forgotten -/
theorem xss_env (e : ρ = ρ') (h : XSs X Γ sts ρ' z Po) : XSs X Γ sts ρ z Po := e ▸ h
theorem xss_weak (hl : ρ'.length = ρ.length) (hw : ∀ (i : Nat) (x : Sl), ρ'[i]? = some x → x = .no ∨ ρ[i]? = some x) (h : XSs X Γ sts ρ' z Po) : XSs X Γ sts ρ z Po := fun σ B H E S l =>
  h σ B H E (S.weak (by rw [S.len, hl]) fun i x q => (hw i x q).imp id fun q => ⟨q, rfl⟩) l

/-! ### targets -/
theorem xg_name (n : Nat) {x : Str} (C : Cxt X N sc P w K mg base k) (hN : N[n]? = some x) (hl : sc.names.lookup x = some .local) : XG X Γ (.Name x pos) [n] d ρ (ρ.set n (.dat d)) := fun z σ B H v Q S r q =>
  gOf (pg_name (i := n) (by rw [C.hN]; exact C.nd) (by rw [C.hN]; exact hN) (by rw [C.hsc]; exact .inl hl) (.inr (by rw [C.hsc]; exact hl))) (q _ (S.setDat n r) .one)
theorem xg_nameD (n : Nat) {x : Str} (C : Cxd X N sc P w K mg base k) (hN : N[n]? = some x) (hl : locC sc x = true) : XG X Γ (.Name x pos) [n] d ρ (ρ.set n (.dat d)) := fun z σ B H v Q S r q =>
  gOf (pg_name (i := n) (by rw [C.hN]; exact C.nd) (by rw [C.hN]; exact hN) (by rw [C.hsc]; exact loc_of hl) (.inl (C.fn _))) (q _ (S.setDat n r) .one)
theorem xgs_nil : XGs X Γ [] [] [] ρ ρ := fun z σ B H vs Q S r q pins s us I rv => by
  cases r
  exact pgs_nil.run pins s σ H [] us Q I rv ⟨rfl, q σ S .refl⟩
theorem xgs_cons {ns ms : List Nat} (h1 : XG X Γ tg ns d ρ ρ1) (h2 : XGs X Γ tgs ms ds ρ1 ρ2) (hs : (assignEach (tg :: tgs) X.env).map (·.2) = assign tg X.env :: (assignEach tgs X.env).map (·.2) := by rfl) : XGs X Γ (tg :: tgs) (ns ++ ms) (d :: ds) ρ ρ2 := fun z σ B H vs Q S r q pins s us I rv => by
  cases r with
  | cons r rr =>
    have hr : PGs X tgs (semGs X tgs) := ⟨fun pins s σ H vs us Q I r h => h pins s us I r⟩
    exact (pgs_cons pgS hr hs).run pins s σ H _ us Q I rv ⟨_, _, rfl, h1 z σ B H _ _ S r fun σ' S' w1 => h2 z σ' B H _ _ S' rr fun σ2 S2 w2 => q σ2 S2 (w1.trans w2)⟩
theorem xg_tup {ns : List Nat} {m : Nat} (C : Cxt X N sc P w K mg base k) (h : XGs X Γ es ns ds ρ ρ1) (hn : (assignEach es X.env).length = ds.length := by rfl) (hst : (assignEach es X.env).findIdx? (·.1) = none := by rfl) : XG X Γ (.Tuple es m pos) ns (.tup ds) ρ ρ1 := fun z σ B H v Q S r q => by
  have hr : PGs X es (semGs X es) := ⟨fun pins s σ H vs us Q I r h => h pins s us I r⟩
  cases r with
  | tup hl r => exact gOf (pg_tup (n := ds.length) C.calm hr hn hst) ⟨_, _, rfl, S.wf.sub.sqE hl, r.len, h z σ B H _ _ S r q⟩

/-! ### assignments -/
theorem xs_set (n : Nat) {x : Str} {p2 : Pos} (C : Cxd X N sc P w K mg base k) (hN : N[n]? = some x) (hl : locC sc x = true) (h : XE X Γ e ρ z d z1) (q : Po.nx (ρ.set n (.dat d)) z1)
    (hs : swapsWith e (some (.Name x p2)) pos.line X.env = pure false := by rfl) : XS X Γ (.Assign [.Name x p2] e pos) ρ z Po := fun σ B H E S l => by
  refine sOf (ps_set (i := n) (by rw [C.hN]; exact C.nd) (by rw [C.hN]; exact hN) (by rw [C.hsc]; exact loc_of hl) peS hs (.inl (C.fn _))) (h σ B H _ S fun v B1 H1 t1 p1 r1 => ?_)
  exact l.nx _ _ _ B1 H1 t1.eB ((S.stepM t1 p1).setDat n r1) q
theorem Sat.fresh {σ : L2.St} {B H : Hp} (S : Sat K Γ ρ z σ B H) {p : Addr} (hp : H p = none) : ∀ (j : Nat) (es : Ob), ρ[j]? = some (.ob es) → σ[j]? ≠ some (some (.ref p)) := fun j es hj e => by
  obtain ⟨a, vs, e', _, _, hh, _⟩ := S.ob hj
  rw [e'] at e
  cases e
  rw [hp] at hh
  cases hh
theorem Sat.h0 {σ : L2.St} {B H : Hp} (S : Sat K Γ ρ z σ B H) {p : Addr} (hp : H p = none) : Γ.H0 p = none := by
  cases q : Γ.H0 p with
  | none => rfl
  | some o => exact absurd hp (S.wf.eM p (some_ne q))
/-- a new list, one's own -/
theorem xs_setO (n : Nat) {x : Str} {p2 : Pos} (C : Cxd X N sc P w K mg base k) (hN : N[n]? = some x) (hl : locC sc x = true) (h : XL X Γ e ρ z ds z1) (q : Po.nx (ρ.set n (.own ds)) z1)
    (hs : swapsWith e (some (.Name x p2)) pos.line X.env = pure false := by rfl) : XS X Γ (.Assign [.Name x p2] e pos) ρ z Po := fun σ B H E S l => by
  refine sOf (ps_set (i := n) (by rw [C.hN]; exact C.nd) (by rw [C.hN]; exact hN) (by rw [C.hsc]; exact loc_of hl) peS hs (.inl (C.fn _))) (h σ B H _ S fun p vs B1 H1 t1 p1 h0 hb hp r1 => ?_)
  exact l.nx _ _ _ B1 H1 t1.eB ((S.stepM t1 p1).setOwn n (S.h0 h0) hb hp r1 (fun j es hj => S.fresh h0 j es hj)) q
/-- a target of any form -/
theorem xs_asg {ns : List Nat} (C : Cxd X N sc P w K mg base k) (h : XE X Γ e ρ z d z1) (g : XG X Γ tg ns d ρ ρ1) (q : Po.nx ρ1 z1) (hs : swapsWithSole [tg] e pos.line X.env = pure false := by rfl) (hw : swappedStores [tg] e X.env = pure none := by rfl)
    (h1 : (assignEach [tg] X.env).map (·.2) = [assign tg X.env] := by rfl) : XS X Γ (.Assign [tg] e pos) ρ z Po := fun σ B H E S l => by
  refine sOf (ps_asg peS pgS hs hw h1) (h σ B H _ S fun v B1 H1 t1 p1 r1 => ?_)
  exact g _ σ B1 H1 v _ (S.stepM t1 p1) r1 fun σ' S' _ => l.nx _ _ _ B1 H1 t1.eB S' q
theorem xs_par {n m : Nat} {x y : Str} {px py pt : Pos} {kt k2 pt2} (C : Cxd X N sc P w K mg base k) (hn : N[n]? = some x) (hm : N[m]? = some y) (hnm : n ≠ m) (hx : sc.names.lookup x = some .local) (hy : sc.names.lookup y = some .local) (h : XA X Γ [a, b] ρ z [d1, d2] z1)
    (q : Po.nx ((ρ.set n (.dat d1)).set m (.dat d2)) z1)
    (hw : swOk [.Name x px, .Name y py] [a, b] sc [x, y] = true)
    (hs : swapsWithSole [.Tuple [.Name x px, .Name y py] kt pt] (.Tuple [a, b] k2 pt2) pos.line X.env = pure false := by rfl) :
    XS X Γ (.Assign [.Tuple [.Name x px, .Name y py] kt pt] (.Tuple [a, b] k2 pt2) pos) ρ z Po := fun σ B H E S l => by
  refine sOf (ps_par (i := n) (j := m) C.calm (by rw [C.hN]; exact C.nd) (by rw [C.hN]; exact hn) (by rw [C.hN]; exact hm) hnm (by rw [C.hsc]; exact hx) (by rw [C.hsc]; exact hy) paS (by rw [swap_env C.hsc]; exact sw_of hw) hs) (h σ B H _ S fun vs B1 H1 t1 p1 r1 => ?_)
  cases r1 with
  | cons r r1 => cases r1 with
    | cons r' r1 =>
      cases r1
      exact ⟨_, _, rfl, l.nx _ _ _ B1 H1 t1.eB (((S.stepM t1 p1).setDat n r).setDat m r') q⟩
theorem xs_par3 {n m o : Nat} {x y y2 : Str} {px py pz pt : Pos} {kt k2 pt2} (C : Cxd X N sc P w K mg base k) (hn : N[n]? = some x) (hm : N[m]? = some y) (ho : N[o]? = some y2) (hnm : n ≠ m) (hno : n ≠ o) (hmo : m ≠ o)
    (hx : sc.names.lookup x = some .local) (hy : sc.names.lookup y = some .local) (hz : sc.names.lookup y2 = some .local) (h : XA X Γ [a, b, c] ρ z [d1, d2, d3] z1)
    (q : Po.nx (((ρ.set n (.dat d1)).set m (.dat d2)).set o (.dat d3)) z1)
    (hw : swOk [.Name x px, .Name y py, .Name y2 pz] [a, b, c] sc [x, y, y2] = true)
    (hs : swapsWithSole [.Tuple [.Name x px, .Name y py, .Name y2 pz] kt pt] (.Tuple [a, b, c] k2 pt2) pos.line X.env = pure false := by rfl) :
    XS X Γ (.Assign [.Tuple [.Name x px, .Name y py, .Name y2 pz] kt pt] (.Tuple [a, b, c] k2 pt2) pos) ρ z Po := fun σ B H E S l => by
  refine sOf (ps_par3 (i := n) (j := m) (l := o) C.calm (by rw [C.hN]; exact C.nd) (by rw [C.hN]; exact hn) (by rw [C.hN]; exact hm) (by rw [C.hN]; exact ho) hnm hno hmo (by rw [C.hsc]; exact hx) (by rw [C.hsc]; exact hy) (by rw [C.hsc]; exact hz) paS (by rw [swap_env C.hsc]; exact sw_of hw) hs) (h σ B H _ S fun vs B1 H1 t1 p1 r1 => ?_)
  cases r1 with
  | cons r r1 => cases r1 with
    | cons r' r1 => cases r1 with
      | cons r'' r1 =>
        cases r1
        exact ⟨_, _, _, rfl, l.nx _ _ _ B1 H1 t1.eB ((((S.stepM t1 p1).setDat n r).setDat m r').setDat o r'') q⟩

/-! ### other small statements -/
theorem xs_ret (h : XE X Γ e ρ z d z1) (q : Po.rt d z1) : XS X Γ (.Return (some e) pos) ρ z Po := fun σ B H E S l =>
  sOf (ps_ret peS) (h σ B H _ S fun v B1 H1 t1 p1 r1 => l.rt v d z1 B1 H1 t1.eB (S.stepM t1 p1).wf r1 q)
theorem xs_retN (q : Po.rt .non z) : XS X Γ (.Return none pos) ρ z Po := fun σ B H E S l => sOf ps_retN (l.rt _ _ z B H (Ex.refl _) S.wf .non q)
theorem xs_drop (h : XE X Γ e ρ z d z1) (q : Po.nx ρ z1) (hs : swapsWith e none pos.line X.env = pure false := by rfl) : XS X Γ (.Expr e pos) ρ z Po := fun σ B H E S l =>
  sOf (ps_expr peS hs) (h σ B H _ S fun v B1 H1 t1 p1 r1 => l.nx _ _ _ B1 H1 t1.eB (S.stepM t1 p1) q)
theorem xs_if {s1 s2 : List Stmt} (hc : XT X Γ c ρ z t z1) (h1 : t = true → XSs X Γ s1 ρ z1 Po) (h2 : t = false → XSs X Γ s2 ρ z1 Po) : XS X Γ (.If c s1 s2 pos) ρ z Po := fun σ B H E S l => by
  refine sOf (ps_if ptS pssS pssS) (hc σ B H _ S fun B1 H1 t1 p1 => ?_)
  cases t with
  | true =>
    rw [if_pos rfl]
    exact h1 rfl σ B1 H1 E (S.stepM t1 p1) (l.ex t1.eB)
  | false =>
    rw [if_neg Bool.false_ne_true]
    exact h2 rfl σ B1 H1 E (S.stepM t1 p1) (l.ex t1.eB)
theorem xs_pass (q : Po.nx ρ z) : XS X Γ (.Pass pos) ρ z Po := fun σ B H E S l => sOf ps_pass (l.nx _ _ _ B H (Ex.refl _) S q)
theorem xs_break (q : Po.bk ρ z) : XS X Γ (.Break pos) ρ z Po := fun σ B H E S l => sOf ps_break (l.bk _ _ _ B H (Ex.refl _) S q)
theorem xs_cont (q : Po.ct ρ z) : XS X Γ (.Continue pos) ρ z Po := fun σ B H E S l => sOf ps_continue (l.ct _ _ _ B H (Ex.refl _) S q)
theorem xs_aug (n : Nat) {x : Str} {p2 : Pos} {op : Operator} {ti : TIp} {d' : D} (C : Cxd X N sc P w K mg base k) (hN : N[n]? = some x) (hl : locC sc x = true) (ho : PIp X op ti) (hx : ρ[n]? = some (.dat d)) (h : XE X Γ e ρ z d1 z1)
    (hr : ∀ x y B H (Q : VK), Ex B H → Rep X.K B x d → Rep X.K B y d1 → (∀ v B' H', Stp B H B' H' → Rep X.K B' v d' → Q v H') → ti x y H Q) (q : Po.nx (ρ.set n (.dat d')) z1) : XS X Γ (.AugAssign (.Name x p2) op e pos) ρ z Po := fun σ B H E S l => by
  obtain ⟨v, ev, rv⟩ := S.dat hx
  refine sOf (ps_aug (i := n) (by rw [C.hN]; exact C.nd) (by rw [C.hN]; exact hN) (by rw [C.hsc]; exact loc_of hl) peS ho (.inl (C.fn _))) ⟨v, ev, h σ B H _ S fun y B1 H1 t1 p1 r1 => ?_⟩
  refine hr v y B1 H1 _ t1.sub (rv.mono t1.eB) r1 fun u B2 H2 t2 r2 => ?_
  exact l.nx _ _ _ B2 H2 (t1.eB.trans t2.eB) (((S.stepM t1 p1).step t2).setDat n r2) q
theorem xs_incr (n : Nat) {x : Str} {p2 : Pos} (C : Cxd X N sc P w K mg base k) (hN : N[n]? = some x) (hl : locC sc x = true) (hx : ρ[n]? = some (.dat (.int i))) (h : XE X Γ e ρ z (.int j) z1) (q : Po.nx (ρ.set n (.dat (.int (i + j)))) z1) :
    XS X Γ (.AugAssign (.Name x p2) .Add e pos) ρ z Po := xs_aug n C hN hl iop_add hx h (rI0_r fun _ => .int _) q

/-! ### lists of one's own -/
theorem xs_append (n : Nat) {x : Str} {p2 p3 p4 : Pos} (C : Cxd X N sc P w K mg base k) (hN : N[n]? = some x) (hv : visC sc x = true) (ho : ρ[n]? = some (.own ds)) (h : XE X Γ e ρ z d z1) (hlen : ds.length < sizeLine) (q : Po.nx (ρ.set n (.own (ds ++ [d]))) z1)
    (hse : starEach [e] X.env = (false, eval e X.env) :: starEach [] X.env := by rfl)
    (hd : (x == ("__debug__" : Str)) = false := by decide) (hcd : (x == ("__classdict__" : Str)) = false := by decide)
    (hbase : attributeBase (.Name x p2) "append" X.env (eval (.Name x p2) X.env) = eval (.Name x p2) X.env := by rfl)
    (hfew : ((backTo p4 (starEach [e] X.env)).all (fun x => !x.1) && (backToKw p4 (keywordEach [] X.env)).all (fun x => x.1.isSome)
      && decide (([e] : List Expr).length + ([] : List Keyword).length + (if ([] : List Keyword).isEmpty then 0 else 1) < 30)) = true := by rfl)
    (hline : (p3.endLine == p4.line) = true := by rfl)
    (hs : swapsWith (.Call (.Attribute (.Name x p2) "append" p3) [e] [] p4) none pos.line X.env = pure false := by rfl) :
    XS X Γ (.Expr (.Call (.Attribute (.Name x p2) "append" p3) [e] [] p4) pos) ρ z Po := fun σ B H E S l => by
  obtain ⟨a, vs, ea, h0, hb, hh, r⟩ := S.own ho
  have hpe : PE X (.Call (.Attribute (.Name x p2) "append" p3) [e] [] p4) (tBM X.K "list" rAppend (tVar n) (tCons (semE X e) tNil)) :=
    pe_bm PySem.F.plainAttrs_list PySem.F.slot_list_append PySem.F.type_list_append mt_append (pe_var (by rw [C.hN]; exact hN) (by rw [C.hsc]; exact vis_of hv) hd hcd) (pa_cons peS pa_nil hse) hbase hfew hline hse rfl
  refine sOf (ps_expr hpe hs) ⟨_, ea, .inl ⟨rfl, _, .inl (.inl hh)⟩, h σ B H _ S fun v B1 H1 t1 p1 r1 => ?_⟩
  have hh1 : H1 a = some (.lst vs) := t1.eH a _ (fun m => Γ.m0 a m h0) hh
  refine ⟨a, vs, v, rfl, rfl, hh1, by rw [r.len]; exact hlen, ?_⟩
  exact l.nx _ _ _ B1 _ t1.eB ((S.stepM t1 p1).mutOwn ho ea ((r.mono t1.eB).app (.cons r1 .nil))) q
theorem xs_setItem (n : Nat) {x : Str} {p2 p3 : Pos} {m : Nat} (C : Cxd X N sc P w K mg base k) (hN : N[n]? = some x) (hv : visC sc x = true) (ho : ρ[n]? = some (.own ds)) (h : XE X Γ e ρ z d z1) (hi : XE X Γ b ρ z1 (.int i) z2) (hx : ixN ds.length i = some m) (q : Po.nx (ρ.set n (.own (ds.set m d))) z2)
    (hd : (x == ("__debug__" : Str)) = false := by decide) (hcd : (x == ("__classdict__" : Str)) = false := by decide)
    (ha : ∀ v, assign (.Subscript (.Name x p2) b p3) X.env v = (do
      let ov ← holding [v] (eval (.Name x p2) X.env)
      let iv ← holding [v, ov] (eval b X.env)
      standAt p3
      holding [v, ov, iv] (setItem ov iv v)
      release [v, ov, iv] []) := by intro _; rfl)
    (hs : swapsWithSole [.Subscript (.Name x p2) b p3] e pos.line X.env = pure false := by rfl) (hw : swappedStores [.Subscript (.Name x p2) b p3] e X.env = pure none := by rfl)
    (h1 : (assignEach [.Subscript (.Name x p2) b p3] X.env).map (·.2) = [assign (.Subscript (.Name x p2) b p3) X.env] := by rfl) :
    XS X Γ (.Assign [.Subscript (.Name x p2) b p3] e pos) ρ z Po := fun σ B H E S l => by
  obtain ⟨a, vs, ea, h0, hb, hh, r⟩ := S.own ho
  refine sOf (ps_asg peS (pg_sub (pe_var (i := n) (by rw [C.hN]; exact hN) (by rw [C.hsc]; exact vis_of hv) hd hcd) peS set_list ha) hs hw h1) (h σ B H _ S fun v B1 H1 t1 p1 r1 => ?_)
  refine ⟨_, ea, hi σ B1 H1 _ (S.stepM t1 p1) fun y B2 H2 t2 p2 r2 => ?_⟩
  cases r2
  have hh2 : H2 a = some (.lst vs) := t2.eH a _ (fun m => Γ.m0 a m h0) (t1.eH a _ (fun m => Γ.m0 a m h0) hh)
  refine ⟨a, vs, i, m, rfl, rfl, hh2, by rw [r.len]; exact hx, ?_⟩
  exact l.nx _ _ _ B2 _ (t1.eB.trans t2.eB) (((S.stepM t1 p1).stepM t2 p2).mutOwn ho ea (((r.mono t1.eB).mono t2.eB).set (r1.mono t2.eB) m)) q

/-! ### loops -/
theorem xs_for {n : Nat} {item : Nat → D} (I : Nat → En → Γ.Z → Prop) (C : Cxd X N sc P w K mg base k) (hi : XI X Γ tg it ρ z n item z1) (h0 : I 0 ρ z1)
    (hs : ∀ m ρ' z', m < n → I m ρ' z' → ∃ ns ρ2, XG X Γ tg ns (item m) ρ' ρ2 ∧ XSs X Γ body ρ2 z' { nx := I (m + 1), ct := I (m + 1), bk := Po.nx, rt := Po.rt })
    (hd : ∀ ρ' z', I n ρ' z' → Po.nx ρ' z') (hf : ∀ x, foldedSetIterable it X.env x = pure x := by intro _; rfl) : XS X Γ (.For tg it body [] pos) ρ z Po := fun σ B H E S l => by
  refine sOf (ps_for C.pass C.calm piS pgS pssS hf) (hi σ B H _ S fun J B1 H1 t1 p1 hstop hgo hyld => ?_)
  refine ⟨fun i m σ' H' => m = n - i ∧ i ≤ n ∧ ∃ ρ' z' B', Ex B1 B' ∧ Sat X.K Γ ρ' z' σ' B' H' ∧ I i ρ' z', ⟨n, by simp, Nat.zero_le _, ρ, z1, B1, Ex.refl _, S.stepM t1 p1, h0⟩, ?_⟩
  rintro i m σ' H' ⟨rfl, hin, ρ', z', B', eb, S', hI⟩
  by_cases hlt : i < n
  · refine .inr ⟨hgo i B' H' hlt eb S'.wf.sub, fun σ2 H2 => ∃ ρ' z' B', Ex B1 B' ∧ Sat X.K Γ ρ' z' σ2 B' H2 ∧ I (i + 1) ρ' z', fun σ2 H2 q => ⟨n - (i + 1), by omega, rfl, hlt, q⟩, fun x H2 y => ?_⟩
    obtain ⟨B3, t3, r3⟩ := hyld i B' H' x H2 hlt eb S'.wf.sub y
    obtain ⟨ns, ρ2, g, bd⟩ := hs i ρ' z' hlt hI
    refine g z' σ' B3 H2 x _ (S'.step t3) r3 fun σ4 S4 _ => ?_
    refine bd σ4 B3 H2 _ S4 ⟨fun ρ5 z5 σ5 B5 H5 e5 S5 q5 => ⟨ρ5, z5, B5, (eb.trans t3.eB).trans e5, S5, q5⟩, fun v d z5 B5 H5 e5 w5 r5 q5 => ?_, fun ρ5 z5 σ5 B5 H5 e5 S5 q5 => ?_, fun ρ5 z5 σ5 B5 H5 e5 S5 q5 => ⟨ρ5, z5, B5, (eb.trans t3.eB).trans e5, S5, q5⟩⟩
    · exact l.rt v d z5 B5 H5 (((t1.eB.trans eb).trans t3.eB).trans e5) w5 r5 q5
    · exact l.nx _ _ _ B5 H5 (((t1.eB.trans eb).trans t3.eB).trans e5) S5 q5
  · have e : i = n := by omega
    subst e
    exact .inl ⟨hstop B' H' eb S'.wf.sub, l.nx _ _ _ B' H' (t1.eB.trans eb) S' (hd ρ' z' hI)⟩
theorem xs_while (I : Nat → En → Γ.Z → Prop) (m0 : Nat) (C : Cxd X N sc P w K mg base k) (h0 : I m0 ρ z)
    (hs : ∀ m ρ' z', I m ρ' z' → ∃ (b : Bool) (z2 : Γ.Z), XT X Γ c ρ' z' b z2 ∧ (b = true → XSs X Γ body ρ' z2 { nx := fun ρ2 z3 => ∃ m', m' < m ∧ I m' ρ2 z3, ct := fun ρ2 z3 => ∃ m', m' < m ∧ I m' ρ2 z3, bk := Po.nx, rt := Po.rt }) ∧ (b = false → Po.nx ρ' z2)) :
    XS X Γ (.While c body [] pos) ρ z Po := fun σ B H E S l => by
  refine sOf (ps_while C.pass ptS pssS) ⟨fun m σ' H' => ∃ ρ' z' B', Ex B B' ∧ Sat X.K Γ ρ' z' σ' B' H' ∧ I m ρ' z', ⟨m0, ρ, z, B, Ex.refl _, S, h0⟩, ?_⟩
  rintro m σ' H' ⟨ρ', z', B', eb, S', hI⟩
  obtain ⟨b, z2, hc, h1, h2⟩ := hs m ρ' z' hI
  refine hc σ' B' H' _ S' fun B1 H1 t1 p1 => ?_
  cases b with
  | true =>
    rw [if_pos rfl]
    refine ⟨fun σ2 H2 => ∃ m', m' < m ∧ ∃ ρ' z' B', Ex B B' ∧ Sat X.K Γ ρ' z' σ2 B' H2 ∧ I m' ρ' z', fun σ2 H2 ⟨m', a, b⟩ => ⟨m', a, b⟩, ?_⟩
    refine h1 rfl σ' B1 H1 _ (S'.stepM t1 p1) ⟨fun ρ5 z5 σ5 B5 H5 e5 S5 ⟨m', a5, q5⟩ => ⟨m', a5, ρ5, z5, B5, (eb.trans t1.eB).trans e5, S5, q5⟩, fun v d z5 B5 H5 e5 w5 r5 q5 => l.rt v d z5 B5 H5 ((eb.trans t1.eB).trans e5) w5 r5 q5,
      fun ρ5 z5 σ5 B5 H5 e5 S5 q5 => l.nx _ _ _ B5 H5 ((eb.trans t1.eB).trans e5) S5 q5, fun ρ5 z5 σ5 B5 H5 e5 S5 ⟨m', a5, q5⟩ => ⟨m', a5, ρ5, z5, B5, (eb.trans t1.eB).trans e5, S5, q5⟩⟩
  | false =>
    rw [if_neg Bool.false_ne_true]
    exact l.nx _ _ _ B1 H1 (eb.trans t1.eB) (S'.stepM t1 p1) (h2 rfl)

/-! ### what is walked -/
theorem xi_list (h : XE X Γ it ρ z (.lst ds) z1) : XI X Γ tg it ρ z ds.length (fun m => ds.getD m .non) z1 := fun σ B H R S q => by
  refine iOf (pi_list peS) (h σ B H _ S fun v B1 H1 t1 p1 r1 => ?_)
  cases r1 with
  | @lst a vs _ hl r =>
    refine ⟨a, rfl, ⟨vs, t1.sub.sqL hl⟩, q (Itl X.K a) B1 H1 t1 p1 (fun B2 H2 e1 e2 => ⟨vs, (e1.trans e2).sqL hl, by rw [r.len]; exact Nat.le_refl _⟩) (fun m B2 H2 hm e1 e2 => ?_) (fun m B2 H2 x H3 hm e1 e2 y => ?_)⟩
    · have hv : m < vs.length := by rw [r.len]; exact hm
      exact ⟨vs, vs[m], (e1.trans e2).sqL hl, List.getElem?_eq_getElem hv⟩
    · obtain ⟨rfl, y⟩ := y
      have hx := y vs ((e1.trans e2).sqL hl)
      obtain ⟨d, hd, rd⟩ := r.getV hx
      refine ⟨B2, .refl e2, ?_⟩
      show Rep X.K B2 x (ds.getD m .non)
      rw [getD_of hd]
      exact rd.mono e1
theorem xi_tup (h : XE X Γ it ρ z (.tup ds) z1) : XI X Γ tg it ρ z ds.length (fun m => ds.getD m .non) z1 := fun σ B H R S q => by
  refine iOf (pi_tup peS) (h σ B H _ S fun v B1 H1 t1 p1 r1 => ?_)
  cases r1 with
  | @tup a vs _ hl r =>
    refine ⟨a, rfl, ⟨vs, t1.sub.sqE hl⟩, q (Itt X.K a) B1 H1 t1 p1 (fun B2 H2 e1 e2 => ⟨vs, (e1.trans e2).sqE hl, by rw [r.len]; exact Nat.le_refl _⟩) (fun m B2 H2 hm e1 e2 => ?_) (fun m B2 H2 x H3 hm e1 e2 y => ?_)⟩
    · have hv : m < vs.length := by rw [r.len]; exact hm
      exact ⟨vs, vs[m], (e1.trans e2).sqE hl, List.getElem?_eq_getElem hv⟩
    · obtain ⟨rfl, y⟩ := y
      have hx := y vs ((e1.trans e2).sqE hl)
      obtain ⟨d, hd, rd⟩ := r.getV hx
      refine ⟨B2, .refl e2, ?_⟩
      show Rep X.K B2 x (ds.getD m .non)
      rw [getD_of hd]
      exact rd.mono e1
theorem xi_range1 {p : Pos} (C : Cxt X N sc P w K mg base k) (hg : GlS sc "range") (hm : mg "range" = none) (h : XE X Γ a ρ z (.int j) z1) (hb : -(2 ^ 62) ≤ j ∧ j < 2 ^ 62)
    (hs : starEach [a] X.env = [(false, eval a X.env)] := by rfl) : XI X Γ tg (.Call (.Name "range" p) [a] [] pos) ρ z j.toNat (fun m => .int (m : Int)) z1 := fun σ B H R S q => by
  refine iOf (pi_range1 (C.gl hg) (by rw [C.hmg]; exact hm) paS hs) (a_cons h a_nil hs σ B H _ S fun vs B1 H1 t1 p1 r1 => ?_)
  cases r1 with
  | cons r r1 =>
    cases r1
    cases r
    refine ⟨j, rfl, hb.1, hb.2, q _ B1 H1 t1 p1 (fun _ _ _ _ => Nat.le_refl _) (fun _ _ _ hm _ _ => hm) (fun m B2 H2 x H3 hm e1 e2 y => ?_)⟩
    obtain ⟨rfl, rfl⟩ := y
    refine ⟨B2, .refl e2, ?_⟩
    rw [Int.zero_add]
    exact .int _
theorem xi_range2 {p : Pos} (C : Cxt X N sc P w K mg base k) (hg : GlS sc "range") (hm : mg "range" = none) (ha : XE X Γ a ρ z (.int i) z1) (h : XE X Γ b ρ z1 (.int j) z2) (hb : (-(2 ^ 62) ≤ i ∧ i < 2 ^ 62) ∧ -(2 ^ 62) ≤ j ∧ j < 2 ^ 62)
    (hs : starEach [a, b] X.env = [(false, eval a X.env), (false, eval b X.env)] := by rfl) (hs2 : starEach [b] X.env = [(false, eval b X.env)] := by rfl) : XI X Γ tg (.Call (.Name "range" p) [a, b] [] pos) ρ z (j - i).toNat (fun m => .int (i + (m : Int))) z2 := fun σ B H R S q => by
  refine iOf (pi_range2 (C.gl hg) (by rw [C.hmg]; exact hm) paS hs hs2) (a_cons ha (a_cons h a_nil hs2) (by rw [hs, hs2]) σ B H _ S fun vs B1 H1 t1 p1 r1 => ?_)
  cases r1 with
  | cons r r1 => cases r1 with
    | cons r' r1 =>
      cases r1
      cases r
      cases r'
      refine ⟨i, j, rfl, ⟨hb.1.1, hb.1.2, hb.2.1, hb.2.2⟩, q _ B1 H1 t1 p1 (fun _ _ _ _ => Nat.le_refl _) (fun _ _ _ hm _ _ => hm) (fun m B2 H2 x H3 hm e1 e2 y => ?_)⟩
      obtain ⟨rfl, rfl⟩ := y
      exact ⟨B2, .refl e2, .int _⟩
theorem xi_enum {p : Pos} {kk : Nat} {tpos : Pos} (C : Cxt X N sc P w K mg base k) (hg : GlS sc "enumerate") (hm : mg "enumerate" = none) (h : XE X Γ a ρ z (.lst ds) z1)
    (hs : starEach [a] X.env = [(false, eval a X.env)] := by rfl) : XI X Γ (.Tuple tgs kk tpos) (.Call (.Name "enumerate" p) [a] [] pos) ρ z ds.length (fun m => .tup [.int (m : Int), ds.getD m .non]) z1 := fun σ B H R S q => by
  refine iOf (pi_enum (C.gl hg) (by rw [C.hmg]; exact hm) paS hs) (a_cons h a_nil hs σ B H _ S fun vs B1 H1 t1 p1 r1 => ?_)
  cases r1 with
  | cons r1 r0 =>
    cases r0
    cases r1 with
    | @lst a vs _ hl r =>
      refine ⟨a, vs, rfl, t1.sub.sqL hl, q (Ite X.K a) B1 H1 t1 p1 (fun B2 H2 e1 e2 => ⟨vs, (e1.trans e2).sqL hl, by rw [r.len]; exact Nat.le_refl _⟩) (fun m B2 H2 hm e1 e2 => ?_) (fun m B2 H2 x H3 hm e1 e2 y => ?_)⟩
      · have hv : m < vs.length := by rw [r.len]; exact hm
        exact ⟨vs, vs[m], (e1.trans e2).sqL hl, List.getElem?_eq_getElem hv⟩
      · obtain ⟨T, x, rfl, hT, rfl, y⟩ := y
        have hx := y vs ((e1.trans e2).sqL hl)
        obtain ⟨d, hd, rd⟩ := r.getV hx
        have st : Stp B2 H2 _ _ := .new (o := .tup [.int (m : Nat), x]) e2 hT
        refine ⟨_, st, ?_⟩
        show Rep X.K _ _ (.tup [.int (m : Int), ds.getD m .non])
        rw [getD_of hd]
        exact .tup upd_same (.cons (.int _) (.cons ((rd.mono e1).mono st.eB) .nil))
theorem xi_zip {p : Pos} {kk : Nat} {tpos : Pos} (C : Cxt X N sc P w K mg base k) (hg : GlS sc "zip") (hm : mg "zip" = none) (ha : XE X Γ a ρ z (.lst ds1) z1) (h : XE X Γ b ρ z1 (.lst ds2) z2)
    (hs : starEach [a, b] X.env = (false, eval a X.env) :: starEach [b] X.env := by rfl) (hpl : (backTo pos (starEach [b] X.env)).any (·.1) = false := by rfl) (hs2 : starEach [b] X.env = (false, eval b X.env) :: starEach [] X.env := by rfl) :
    XI X Γ (.Tuple tgs kk tpos) (.Call (.Name "zip" p) [a, b] [] pos) ρ z (min ds1.length ds2.length) (fun m => .tup [ds1.getD m .non, ds2.getD m .non]) z2 := fun σ B H R S q => by
  refine iOf (pi_zip (C.gl hg) (by rw [C.hmg]; exact hm) paS hs hpl) (a_cons ha (a_cons h a_nil hs2) hs σ B H _ S fun vs B1 H1 t1 p1 r1 => ?_)
  cases r1 with
  | cons r1 r0 => cases r0 with
    | cons r2 r0 =>
      cases r0
      cases r1 with
      | @lst a vs _ hl r => cases r2 with
        | @lst b us _ hl2 r2 =>
          refine ⟨a, b, vs, us, rfl, t1.sub.sqL hl, t1.sub.sqL hl2, q (Itz X.K a b) B1 H1 t1 p1 (fun B2 H2 e1 e2 => ⟨vs, us, (e1.trans e2).sqL hl, (e1.trans e2).sqL hl2, by rw [r.len, r2.len]; omega⟩) (fun m B2 H2 hm e1 e2 => ?_) (fun m B2 H2 x H3 hm e1 e2 y => ?_)⟩
          · have hv : m < vs.length := by rw [r.len]; omega
            have hu : m < us.length := by rw [r2.len]; omega
            exact ⟨vs, us, vs[m], us[m], (e1.trans e2).sqL hl, (e1.trans e2).sqL hl2, List.getElem?_eq_getElem hv, List.getElem?_eq_getElem hu⟩
          · obtain ⟨T, x, y', rfl, hT, rfl, y1, y2⟩ := y
            obtain ⟨d, hd, rd⟩ := r.getV (y1 vs ((e1.trans e2).sqL hl))
            obtain ⟨d', hd', rd'⟩ := r2.getV (y2 us ((e1.trans e2).sqL hl2))
            have st : Stp B2 H2 _ _ := .new (o := .tup [x, y']) e2 hT
            refine ⟨_, st, ?_⟩
            show Rep X.K _ _ (.tup [ds1.getD m .non, ds2.getD m .non])
            rw [getD_of hd, getD_of hd']
            exact .tup upd_same (.cons ((rd.mono e1).mono st.eB) (.cons ((rd'.mono e1).mono st.eB) .nil))
end
end DL

namespace DL
open PySem PySem.Spec PyProof.Rows L2
variable [TB]

/-! ### comprehensions -/
theorem wipe_get (σ : L2.St) : ∀ (vs : List Nat) (i : Nat), (wipe σ vs)[i]? = if i ∈ vs ∧ i < σ.length then some none else σ[i]?
  | [], i => by simp [wipe]
  | v :: vs, i => by
    show ((wipe σ vs).set v none)[i]? = _
    by_cases h : v = i
    · subst h
      by_cases hl : v < σ.length
      · rw [List.getElem?_set_self (by rw [wipe_length]; exact hl), if_pos ⟨List.mem_cons_self, hl⟩]
      · rw [if_neg (fun q => hl q.2), List.getElem?_eq_none (by simp [wipe_length]; omega), List.getElem?_eq_none (by omega)]
    · rw [List.getElem?_set_ne h, wipe_get σ vs i]
      have : (i ∈ v :: vs ∧ i < σ.length) ↔ (i ∈ vs ∧ i < σ.length) := by
        rw [List.mem_cons]
        exact ⟨fun ⟨a, b⟩ => ⟨a.resolve_left (fun q => h q.symm), b⟩, fun ⟨a, b⟩ => ⟨.inr a, b⟩⟩
      simp only [this]
theorem wipe_sets {σ σ' : L2.St} {ns vs : List Nat} (h : Sets ns (wipe σ vs) σ') (hs : ∀ n ∈ ns, n ∈ vs) : wipe σ' vs = wipe σ vs := by
  have hl : σ'.length = σ.length := by rw [h.1, wipe_length]
  apply List.ext_getElem?
  intro i
  rw [wipe_get, wipe_get, hl]
  by_cases q : i ∈ vs ∧ i < σ.length
  · rw [if_pos q, if_pos q]
  · rw [if_neg q, if_neg q]
    by_cases hi : i ∈ ns
    · have : ¬ i < σ.length := fun z => q ⟨hs i hi, z⟩
      rw [List.getElem?_eq_none (by omega), List.getElem?_eq_none (by omega)]
    · rw [h.2 i hi, wipe_get, if_neg q]
def wipeE (ρ : En) : List Nat → En
  | [] => ρ
  | v :: vs => (wipeE ρ vs).set v .no
theorem wipeE_length (ρ : En) : ∀ vs, (wipeE ρ vs).length = ρ.length
  | [] => rfl
  | v :: vs => by unfold wipeE; rw [List.length_set, wipeE_length ρ vs]
theorem wipeE_get {ρ : En} : ∀ {vs : List Nat} {i : Nat} {x : Sl}, (wipeE ρ vs)[i]? = some x → x = .no ∨ (ρ[i]? = some x ∧ i ∉ vs)
  | [], i, x, h => .inr ⟨h, by simp⟩
  | v :: vs, i, x, h => by
    have h : ((wipeE ρ vs).set v .no)[i]? = some x := h
    by_cases q : v = i
    · subst q
      have hl : v < (wipeE ρ vs).length := by have := lt_of_get? h; simpa using this
      rw [List.getElem?_set_self hl] at h
      cases h
      exact .inl rfl
    · rw [List.getElem?_set_ne q] at h
      rcases wipeE_get h with h | ⟨h1, h2⟩
      · exact .inl h
      · exact .inr ⟨h1, by rw [List.mem_cons]; exact fun z => z.elim (fun z => q z.symm) h2⟩
theorem Sat.wipe {K : PySem.W.Frag} {Γ : G} {ρ : En} {z : Γ.Z} {σ : L2.St} {B H : Hp} (S : Sat K Γ ρ z σ B H) (vs : List Nat) : Sat K Γ (wipeE ρ vs) z (L2.wipe σ vs) B H :=
  S.weak (by rw [wipe_length, wipeE_length, S.len]) fun i x h => (wipeE_get h).imp id fun ⟨h1, h2⟩ => ⟨h1, by rw [wipe_get, if_neg (fun q => h2 q.1)]⟩

section
variable (X : Cx) (Γ : G)
def semTs (ifs : List Expr) : TT := fun σ H Q => ∀ pins s, Inv X pins σ H s →
    wpAny (model X.prog X.w) X.A (forIn ifs true fun c r => if r = true then do let ok ← isTrue c X.env (eval c X.env); pure (ForInStep.yield ok) else pure (ForInStep.yield r)) (TP X pins σ Q) X.xe s
theorem ptsS {X : Cx} {ifs : List Expr} : PTs X ifs (semTs X ifs) := ⟨fun pins s σ H Q I h => h pins s I⟩
def XTs (ifs : List Expr) (ρ : En) (z : Γ.Z) (b : Bool) (z' : Γ.Z) : Prop := ∀ (σ : L2.St) (B H : Hp) (Q : Bool → Hp → Prop), Sat X.K Γ ρ z σ B H →
  (∀ B' H', StpM Γ.M B H B' H' → Γ.zp z' B' H' → Q b H') → semTs X ifs σ H Q
end
section
variable {X : Cx} {Γ : G} {N : List Str} {sc : Scope} {P : Program} {w : World} {K : PySem.W.Frag} {mg : Str → Option Value} {base : Heap} {k : Nat}
variable {e a b c tg it elt iter : Expr} {es tgs ifs : List Expr} {st : Stmt} {sts body : List Stmt} {ρ ρ' ρ1 ρ2 : En} {z z1 z2 z3 : Γ.Z} {d d1 d2 d3 : D} {ds ds1 ds2 : List D} {pos : Pos} {i j : Int} {Po : Post Γ} {t : Bool}
theorem ts_nil : XTs X Γ [] ρ z true z := fun σ B H Q S q pins s I => (pts_nil).run pins s σ H Q I (q B H (.refl S.wf.sub) S.wf.z)
theorem ts_one (h : XT X Γ c ρ z t z1) : XTs X Γ [c] ρ z t z1 := fun σ B H Q S q pins s I => (pts_one ptS).run pins s σ H Q I (h σ B H Q S q)

/-- the block of a comprehension -/
theorem Cxt.blk (C : Cxt X N sc P w K mg base k) {s : Shared} {H : Hp} {scope : Scope} {cl : List (Str × Addr)} {Ca : Addr} {fp : List Addr} :
    Cxt (X.blk s H scope (compEnvC scope cl Ca X.env) fp) N (relS scope sc) P w K mg base k where
  hP := C.hP
  hw := C.hw
  hK := C.hK
  hmg := C.hmg
  hb := C.hb
  hN := C.hN
  hsc := by
    show relabel scope X.env = _
    rw [← C.hsc]
    rfl
  calm := C.calm
  nd := C.nd
  pass := PassesOwn.never
  room := C.room
/-- what a comprehension's turn does: in every block -/
structure LcStep (N : List Str) (sc : Scope) (P : Program) (w : World) (K : PySem.W.Frag) (mg : Str → Option Value) (base : Heap) (k : Nat) (Γ : G) (tg elt : Expr) (ifs : List Expr) (vs : List Nat) (ρ : En) (d : D) (z z' : Γ.Z) (A A' : List D) : Prop where
  ex : ∃ (ns : List Nat) (ρ2 : En) (t : Bool) (zt : Γ.Z) (y : D), (∀ n ∈ ns, n ∈ vs) ∧ (∀ Xb : Cx, Cxt Xb N sc P w K mg base k → XG Xb Γ tg ns d (wipeE ρ vs) ρ2 ∧ XTs Xb Γ ifs ρ2 z t zt ∧ (t = true → XE Xb Γ elt ρ2 zt y z')) ∧
    (t = true → A' = A ++ [y]) ∧ (t = false → A' = A ∧ z' = zt)
theorem lcStep {ns vs : List Nat} {z' : Γ.Z} {A : List D} {y : D} (hn : ∀ n ∈ ns, n ∈ vs) (h : ∀ Xb : Cx, Cxt Xb N sc P w K mg base k → XG Xb Γ tg ns d (wipeE ρ vs) ρ2 ∧ XE Xb Γ elt ρ2 z y z') :
    LcStep N sc P w K mg base k Γ tg elt [] vs ρ d z z' A (A ++ [y]) := ⟨ns, ρ2, true, z, y, hn, fun Xb C => ⟨(h Xb C).1, ts_nil, fun _ => (h Xb C).2⟩, fun _ => rfl, fun q => nomatch q⟩
theorem lcStepIf {ns vs : List Nat} {z' zt : Γ.Z} {A : List D} {y : D} (hn : ∀ n ∈ ns, n ∈ vs) (h : ∀ Xb : Cx, Cxt Xb N sc P w K mg base k → XG Xb Γ tg ns d (wipeE ρ vs) ρ2 ∧ XT Xb Γ c ρ2 z t zt ∧ (t = true → XE Xb Γ elt ρ2 zt y z')) (h0 : t = false → z' = zt) :
    LcStep N sc P w K mg base k Γ tg elt [c] vs ρ d z z' A (if t = true then A ++ [y] else A) := ⟨ns, ρ2, t, zt, y, hn, fun Xb C => ⟨(h Xb C).1, ts_one (h Xb C).2.1, (h Xb C).2.2⟩, fun q => by rw [if_pos q], fun q => ⟨by rw [if_neg (by rw [q]; decide)], h0 q⟩⟩

theorem lc_read {scope : Scope} {own : List (Str × Nat)} {n : Nat} {item : Nat → D} {pos : Pos} (C : Cxt X N sc P w K mg base k) (hi : XI X Γ tg iter ρ z n item z1) (A : Nat → List D) (zs : Nat → Γ.Z) (hA : A 0 = []) (hz : zs 0 = z1)
    (step : ∀ m, m < n → LcStep N (relS scope sc) P w K mg base k Γ tg elt ifs (own.map (·.2)) ρ (item m) (zs m) (zs (m + 1)) (A m) (A (m + 1))) (hlen : ∀ m, m < n → (A m).length < sizeLine)
    (σ : L2.St) (B H : Hp) (Q : VK) (S : Sat X.K Γ ρ z σ B H)
    (q : ∀ p vs B' H', StpM Γ.M B H B' H' → Γ.zp (zs n) B' H' → H p = none → B' p = none → H' p = some (.lst vs) → RepAll X.K B' vs (A n) → Q (.ref p) H') :
    tLc (semI X tg iter) (fun v σ H Q => ∀ s H0 Ca cl fp, semG (X.blk s H0 scope (compEnvC scope cl Ca X.env) fp) tg v σ H Q) (fun σ H Q => ∀ s H0 Ca cl fp, semTs (X.blk s H0 scope (compEnvC scope cl Ca X.env) fp) ifs σ H Q)
      (fun σ H Q => ∀ s H0 Ca cl fp, semE (X.blk s H0 scope (compEnvC scope cl Ca X.env) fp) elt σ H Q) (own.map (·.2)) σ H Q := by
  refine hi σ B H _ S fun J B1 H1 t1 p1 hstop hgo hyld => fun D hD => ?_
  have S1 := S.stepM t1 p1
  have nM : ¬ Γ.M D := fun m => (Γ.znb _ _ _ p1 D m).2 hD
  have h0 : H D = none := by
    cases q : H D with
    | none => rfl
    | some u => exact absurd hD (t1.eM D (some_ne q))
  have hb1 : B1 D = none := by
    cases q : B1 D with
    | none => rfl
    | some u => rw [t1.sub D u q] at hD; cases hD
  refine ⟨fun i m H' => m = n - i ∧ i ≤ n ∧ ∃ B' vs, StpM Γ.M B1 H1 B' H' ∧ Γ.zp (zs i) B' H' ∧ B' D = none ∧ H' D = some (.lst vs) ∧ RepAll X.K B' vs (A i), ⟨n, by simp, Nat.zero_le _, B1, [], .of (.newO t1.sub hD), by rw [hz]; exact S1.zp (.newO t1.sub hD), hb1, upd_same, by rw [hA]; exact .nil⟩, ?_⟩
  rintro i m H' ⟨rfl, hin, B', vs, t2, p2, hb, hh, r⟩
  by_cases hlt : i < n
  · refine .inr ⟨hgo i B' H' hlt t2.eB t2.sub, fun H2 => ∃ B' vs, StpM Γ.M B1 H1 B' H2 ∧ Γ.zp (zs (i + 1)) B' H2 ∧ B' D = none ∧ H2 D = some (.lst vs) ∧ RepAll X.K B' vs (A (i + 1)), fun H2 q => ⟨n - (i + 1), by omega, rfl, hlt, q⟩, fun x H2 y => ?_⟩
    obtain ⟨B3, t3, r3⟩ := hyld i B' H' x H2 hlt t2.eB t2.sub y
    have S3 : Sat X.K Γ ρ (zs i) σ B3 H2 := (S1.stepM t2 p2).step t3
    have hh2 : H2 D = some (.lst vs) := t3.eH D _ hh
    have hb3 : B3 D = none := (t3.fr D (some_ne hh)).trans hb
    obtain ⟨ns, ρ2, t, zt, yd, hns, hx, ht, hf⟩ := (step i hlt).ex
    intro s H0 Ca cl fp
    have hx0 := hx _ (C.blk (s := s) (H := H0) (scope := scope) (cl := cl) (Ca := Ca) (fp := fp))
    refine hx0.1 (zs i) _ B3 H2 x _ (S3.wipe _) r3 fun σ2 S2 w2 => ⟨wipe_sets w2 hns, ?_⟩
    intro s H0 Ca cl fp
    have hx1 := hx _ (C.blk (s := s) (H := H0) (scope := scope) (cl := cl) (Ca := Ca) (fp := fp))
    refine hx1.2.1 σ2 B3 H2 _ S2 fun B4 H4 t4 p4 => ?_
    have hh4 : H4 D = some (.lst vs) := t4.eH D _ nM hh2
    have hb4 : B4 D = none := (t4.fr D (some_ne hh2)).trans hb3
    cases t with
    | false =>
      rw [if_neg Bool.false_ne_true]
      obtain ⟨e1, e2⟩ := hf rfl
      refine ⟨B4, vs, (t2.trans (.of t3)).trans t4, by rw [e2]; exact p4, hb4, hh4, ?_⟩
      rw [e1]
      exact (r.mono t3.eB).mono t4.eB
    | true =>
      rw [if_pos rfl]
      intro s H0 Ca cl fp
      have hx2 := hx _ (C.blk (s := s) (H := H0) (scope := scope) (cl := cl) (Ca := Ca) (fp := fp))
      refine hx2.2.2 rfl σ2 B4 H4 _ (S2.stepM t4 p4) fun y B5 H5 t5 p5 r5 => ?_
      have hh5 : H5 D = some (.lst vs) := t5.eH D _ nM hh4
      have hb5 : B5 D = none := (t5.fr D (some_ne hh4)).trans hb4
      have tt : StpM Γ.M B1 H1 B5 H5 := ((t2.trans (.of t3)).trans t4).trans t5
      refine ⟨vs, hh5, by rw [r.len]; exact hlen i hlt, B5, vs ++ [y], ⟨tt.eB, fun a o m h n => ?_, fun a h => ?_, fun a o h => ?_, tt.fr, fun g => (tt.gd g).chg hh5 rfl⟩, ?_, hb5, upd_same, ?_⟩
      · rw [upd_ne (fun q : a = D => by rw [q, hD] at h; cases h)]
        exact tt.eH a o m h n
      · rw [upd_ne (fun q : a = D => h (by rw [q]; exact hD))]
        exact tt.eM a h
      · rw [upd_ne (fun q : a = D => by rw [q, hb5] at h; cases h)]
        exact tt.sub a o h
      · exact Γ.zfr _ _ _ _ _ p5 (Ex.refl _) (fun a o m h _ => by rw [upd_ne (fun q : a = D => nM (by rw [← q]; exact m))]; exact h) fun a m => (Γ.znb _ _ _ p5 a m).1
      · rw [ht rfl]
        exact (((r.mono t3.eB).mono t4.eB).mono t5.eB).app (.cons r5 .nil)
  · have e : i = n := by omega
    subst e
    exact .inl ⟨hstop B' H' t2.eB t2.sub, q D vs B' H' (t1.trans t2) p2 h0 hb hh r⟩
theorem l_lc {scope : Scope} (own : List (Str × Nat)) {n : Nat} {item : Nat → D} (C : Cxt X N sc P w K mg base k) (hok : blkC N sc scope own = true) (hi : XI X Γ tg iter ρ z n item z1) (A : Nat → List D) (zs : Nat → Γ.Z) (hA : A 0 = []) (hz : zs 0 = z1)
    (step : ∀ m, m < n → LcStep N (relS scope sc) P w K mg base k Γ tg elt ifs (own.map (·.2)) ρ (item m) (zs m) (zs (m + 1)) (A m) (A (m + 1))) (hlen : ∀ m, m < n → (A m).length < sizeLine)
    (hs : ∀ x, foldedSetIterable iter X.env x = pure x := by intro _; rfl) : XL X Γ (.ListComp elt [⟨tg, iter, ifs, 0⟩] scope pos) ρ z (A n) (zs n) := fun σ B H Q S q =>
  eOf (pe_lc (own := own) C.calm (by rw [C.hN]; exact C.nd) piS (blkOk_by (by rw [C.hN, C.hsc]; exact hok)) (fun s H Ca cl fp => ⟨fun pins s σ H v u Q I r h => h _ _ _ _ _ pins s u I r⟩) (fun s H Ca cl fp => ⟨fun pins s σ H Q I h => h _ _ _ _ _ pins s I⟩)
    (fun s H Ca cl fp => ⟨fun pins s σ H Q I h => h _ _ _ _ _ pins s I⟩) hs) (lc_read (pos := pos) C hi A zs hA hz step hlen σ B H Q S q)
theorem xs_setLc {scope : Scope} (o : Nat) (own : List (Str × Nat)) {n : Nat} {item : Nat → D} {y : Str} {py spos : Pos} (C : Cxd X N sc P w K mg base k) (hy : N[o]? = some y) (hyl : sc.names.lookup y = some .local) (hok : blkC N sc scope own = true) (hi : XI X Γ tg iter ρ z n item z1) (A : Nat → List D) (zs : Nat → Γ.Z) (hA : A 0 = []) (hz : zs 0 = z1)
    (step : ∀ m, m < n → LcStep N (relS scope sc) P w K mg base k Γ tg elt ifs (own.map (·.2)) ρ (item m) (zs m) (zs (m + 1)) (A m) (A (m + 1))) (hlen : ∀ m, m < n → (A m).length < sizeLine) (q : Po.nx (ρ.set o (.own (A n))) (zs n))
    (hk : sc.kind = .function := by rfl) (hl : (py.line == pos.line) = true := by rfl) (ha : (scope.names.any fun (n, k) => n == y && (k == .local || k == .cell)) = false := by rfl)
    (hs : ∀ x, foldedSetIterable iter X.env x = pure x := by intro _; rfl) : XS X Γ (.Assign [.Name y py] (.ListComp elt [⟨tg, iter, ifs, 0⟩] scope pos) spos) ρ z Po := fun σ B H E S l => by
  refine sOf (ps_setLc (i := o) (own := own) C.calm (by rw [C.hN]; exact C.nd) (by rw [C.hN]; exact hy) (by rw [C.hsc]; exact hyl) ?hsw piS (blkOk_by (by rw [C.hN, C.hsc]; exact hok)) (fun s H Ca cl fp => ⟨fun pins s σ H v u Q I r h => h _ _ _ _ _ pins s u I r⟩) (fun s H Ca cl fp => ⟨fun pins s σ H Q I h => h _ _ _ _ _ pins s I⟩)
    (fun s H Ca cl fp => ⟨fun pins s σ H Q I h => h _ _ _ _ _ pins s I⟩) hs) (lc_read (pos := pos) C.toCxt hi A zs hA hz step hlen σ B H _ S fun p vs B1 H1 t1 p1 h0 hb hp r => ?_)
  case hsw => exact sw_true (by rw [C.hsc]; exact hk) (by rw [C.hsc]; exact hyl) hl ha
  exact l.nx _ _ _ B1 H1 t1.eB ((S.stepM t1 p1).setOwn o (S.h0 h0) hb hp r (fun j es hj => S.fresh h0 j es hj)) q
end
end DL

namespace DL
open PySem PySem.Spec PyProof.Rows L2
variable [TB]

/-! ### defs and their promises -/
/-- a def of data: to arguments ds it answers d, where f ds d -/
def spD (K : PySem.W.Frag) (n : Nat) (f : List D → D → Prop) : Sp := fun vs H Q _ => vs.length = n ∧ ∃ ds d B, f ds d ∧ Ex B H ∧ Good B H ∧ RepAll K B vs ds ∧ ∀ v B' H', Stp B H B' H' → Rep K B' v d → Q v H'
def gD (B H : Hp) : G where
  B0 := B
  H0 := H
  M := fun _ => False
  Z := Unit
  zp := fun _ _ _ => True
  hd := fun _ => .non
  zfr := fun _ _ _ _ _ _ _ _ _ => trivial
  znb := fun _ _ _ _ _ h => h.elim
  m0 := fun _ h => h.elim
/-- the law's state: a list of the cells left, and a seed -/
def StP (sa sc : Addr) (z : List Int × Int) (B H : Hp) : Prop := sa ≠ sc ∧ B sa = none ∧ B sc = none ∧ H sa = some (.lst [.ref sc, .int z.2]) ∧ H sc = some (.lst (z.1.map V.int))
def gZ (sa sc : Addr) (B H : Hp) (h : H sa ≠ none ∧ H sc ≠ none) : G where
  B0 := B
  H0 := H
  M := fun a => a = sa ∨ a = sc
  Z := List Int × Int
  zp := StP sa sc
  hd := fun _ => .ref sa
  zfr := fun z B H B' H' h e m b => ⟨h.1, b sa (.inl rfl), b sc (.inr rfl), m sa _ (.inl rfl) h.2.2.2.1 rfl, m sc _ (.inr rfl) h.2.2.2.2 rfl⟩
  znb := fun z B H h a m => by
    rcases m with rfl | rfl
    · exact ⟨h.2.1, some_ne h.2.2.2.1⟩
    · exact ⟨h.2.2.1, some_ne h.2.2.2.2⟩
  m0 := fun a m => by
    rcases m with rfl | rfl
    · exact h.1
    · exact h.2
/-- a def that is handed the state first, and may change it -/
def spZ (K : PySem.W.Frag) (n : Nat) (f : List D → List Int × Int → D → List Int × Int → Prop) : Sp := fun vs H Q _ => vs.length = n + 1 ∧ ∃ sa sc vs' ds z d z' B, vs = .ref sa :: vs' ∧ f ds z d z' ∧ Ex B H ∧ Good B H ∧ StP sa sc z B H ∧ RepAll K B vs' ds ∧
  ∀ v B' H', StpM (fun a => a = sa ∨ a = sc) B H B' H' → StP sa sc z' B' H' → Rep K B' v d → Q v H'

/-- a def of the module, called by its name -/
def Fnc (P : Program) (w : World) (K : PySem.W.Frag) (mg : Str → Option Value) (base : Heap) (x : Str) (j : Nat) (sp : Sp) : Prop :=
  ∃ fA fd ps, FnOk P w K mg base CX0 j fA fd ps sp ∧ mg x = some (.ref fA) ∧ PySem.W.keepIn K (.ref fA) = true ∧ Binds K fd ps []

section
variable {P : Program} {w : World} {K : PySem.W.Frag} {mg : Str → Option Value} {base : Heap}
/-- the environment at the entry -/
def envD (n : Nat) (ds : List D) : En := ds.map .dat ++ List.replicate (n - ds.length) .no
def envZ (n : Nat) (ds : List D) : En := .hdl 0 :: (ds.map .dat ++ List.replicate (n - (ds.length + 1)) .no)
theorem start_get {N : List Str} {vs : List V} {i : Nat} {v : V} (h : vs[i]? = some v) : (L2.start N vs)[i]? = some (some v) := by
  have hi := lt_of_get? h
  unfold L2.start
  rw [List.getElem?_append_left (by simpa using hi), List.getElem?_map, h]
  rfl
theorem start_len {N : List Str} {vs : List V} (h : vs.length ≤ N.length) : (L2.start N vs).length = N.length := by
  unfold L2.start
  simp
  omega
theorem sat_start {Γ : G} {z : Γ.Z} {B H : Hp} {vs : List V} {ds : List D} {N : List Str} (w : Wf Γ z B H) (r : RepAll K B vs ds) (hl : ds.length ≤ N.length) : Sat K Γ (envD N.length ds) z (L2.start N vs) B H := by
  refine ⟨w, ?_, fun i s h => ?_, fun i j es fs a _ hi _ _ => ?_⟩
  · rw [start_len (by rw [r.len]; exact hl)]
    unfold envD
    simp
    omega
  · unfold envD at h
    by_cases hi : i < ds.length
    · rw [List.getElem?_append_left (by simpa using hi), List.getElem?_map] at h
      rw [List.getElem?_eq_getElem hi] at h
      cases h
      obtain ⟨v, hv, rv⟩ := r.get (List.getElem?_eq_getElem hi)
      exact ⟨some v, start_get hv, v, rfl, rv⟩
    · rw [List.getElem?_append_right (by simpa using hi), List.getElem?_replicate] at h
      split at h
      · cases h
        refine ⟨none, ?_, trivial⟩
        have hv : vs.length = ds.length := r.len
        unfold L2.start
        rw [List.getElem?_append_right (by simp; omega), List.getElem?_replicate]
        simp at *
        omega
      · cases h
  · unfold envD at hi
    by_cases q : i < ds.length
    · rw [List.getElem?_append_left (by simpa using q), List.getElem?_map, List.getElem?_eq_getElem q] at hi
      cases hi
    · rw [List.getElem?_append_right (by simpa using q), List.getElem?_replicate] at hi
      split at hi <;> cases hi
theorem sat_startZ {sa sc : Addr} {B0 H0 : Hp} {h : H0 sa ≠ none ∧ H0 sc ≠ none} {z : List Int × Int} {B H : Hp} {vs : List V} {ds : List D} {N : List Str} (w : Wf (gZ sa sc B0 H0 h) z B H) (r : RepAll K B vs ds) (hl : ds.length + 1 ≤ N.length) :
    Sat K (gZ sa sc B0 H0 h) (envZ N.length ds) z (L2.start N (.ref sa :: vs)) B H := by
  have hv : vs.length = ds.length := r.len
  refine ⟨w, ?_, fun i s h => ?_, fun i j es fs a _ hi _ _ => ?_⟩
  · rw [start_len (by simp; omega)]
    unfold envZ
    simp
    omega
  · cases i with
    | zero =>
      cases h
      exact ⟨some (.ref sa), rfl, rfl⟩
    | succ i =>
      have h : (ds.map Sl.dat ++ List.replicate (N.length - (ds.length + 1)) Sl.no)[i]? = some s := h
      by_cases hi : i < ds.length
      · rw [List.getElem?_append_left (by simpa using hi), List.getElem?_map, List.getElem?_eq_getElem hi] at h
        cases h
        obtain ⟨v, hv, rv⟩ := r.get (List.getElem?_eq_getElem hi)
        exact ⟨some v, start_get (by simpa using hv), v, rfl, rv⟩
      · rw [List.getElem?_append_right (by simpa using hi), List.getElem?_replicate] at h
        split at h
        · cases h
          refine ⟨none, ?_, trivial⟩
          unfold L2.start
          rw [List.getElem?_append_right (by simp; omega), List.getElem?_replicate]
          simp at *
          omega
        · cases h
  · cases i with
    | zero => cases hi
    | succ i =>
      have hi : (ds.map Sl.dat ++ List.replicate (N.length - (ds.length + 1)) Sl.no)[i]? = some (.ob es) := hi
      by_cases q : i < ds.length
      · rw [List.getElem?_append_left (by simpa using q), List.getElem?_map, List.getElem?_eq_getElem q] at hi
        cases hi
      · rw [List.getElem?_append_right (by simpa using q), List.getElem?_replicate] at hi
        split at hi <;> cases hi

variable {x qual : Str} {st : Stmt} {f : Addr} {fd : FuncData} {N ps : List Str} {k n : Nat}
theorem cxd_of {A : Around} {outer : List Env} {s : Shared} {H : Hp} {E : XK} {cdv : Value} {sc : Scope} (hnd : N.Nodup) (hr : Room k (A.deeper (envOfC qual sc s.heap.objs.size f cdv))) :
    Cxd (cxOf CX0 P w K mg base N qual sc f cdv A outer s H E).nox N sc P w K mg base k where
  hP := rfl
  hw := rfl
  hK := rfl
  hmg := rfl
  hb := rfl
  hN := rfl
  hsc := rfl
  calm := rfl
  nd := hnd
  pass := PassesOwn.never
  room := hr
  fn := fun _ => rfl
/-- a def of data -/
theorem fn_D {fr : List D → D → Prop} (F : Fun K x qual st f fd) (S : FnScope N ps (defScope st)) (hn : ps.length = n)
    (body : ∀ (X : Cx), Cxd X N (defScope st) P w K mg base k → ∀ (B0 H0 : Hp) (ds : List D) (d : D), ds.length = n → fr ds d → XSs X (gD B0 H0) (defBody st) (envD N.length ds) () { nx := fun _ _ => d = .non, rt := fun d' _ => d' = d }) :
    FnOk P w K mg base CX0 (k + 1) f fd ps (spD K n fr) := by
  refine F.ok S (fun vs H Q E h => h.1.trans hn.symm) (fun cdv A outer s H vs Q E hr h => ?_)
  obtain ⟨hl, ds, d, B, hf, e, g, r, q⟩ := h
  have hpl : ps.length ≤ N.length := by have := congrArg List.length S.pre; rw [List.length_take] at this; omega
  have hds : ds.length = n := by rw [← r.len]; exact hl
  refine ⟨_, pssS, ?_⟩
  refine body _ (cxd_of S.nd hr) B H ds d hds hf (L2.start N vs) B H _ (sat_start ⟨e, Ex.refl _, fun _ _ _ h _ => h, fun _ h => h, fun _ _ => rfl, trivial, g⟩ r (by omega)) ⟨fun ρ z σ B' H' _ S' e' => ?_, fun v d' z B' H' _ w' r' e' => ?_, fun _ _ _ _ _ _ _ h => h.elim, fun _ _ _ _ _ _ _ h => h.elim⟩
  · have st : Stp B H B' H' := ⟨S'.wf.eB, fun a o h n => S'.wf.eH a o (fun z => z) h n, S'.wf.eM, S'.wf.sub, S'.wf.fr, fun _ => S'.wf.gd⟩
    exact q _ B' H' st (by rw [e']; exact .non)
  · have st : Stp B H B' H' := ⟨w'.eB, fun a o h n => w'.eH a o (fun z => z) h n, w'.eM, w'.sub, w'.fr, fun _ => w'.gd⟩
    exact q _ B' H' st (by rw [← e']; exact r')
/-- a def that is handed the state -/
theorem fn_Z {fr : List D → List Int × Int → D → List Int × Int → Prop} (F : Fun K x qual st f fd) (S : FnScope N ps (defScope st)) (hn : ps.length = n + 1)
    (body : ∀ (X : Cx), Cxd X N (defScope st) P w K mg base k → ∀ (sa sc : Addr) (B0 H0 : Hp) (h : H0 sa ≠ none ∧ H0 sc ≠ none) (ds : List D) (z : List Int × Int) (d : D) (z' : List Int × Int), ds.length = n → fr ds z d z' →
      XSs X (gZ sa sc B0 H0 h) (defBody st) (envZ N.length ds) z { nx := fun _ z1 => d = .non ∧ z1 = z', rt := fun d' z1 => d' = d ∧ z1 = z' }) :
    FnOk P w K mg base CX0 (k + 1) f fd ps (spZ K n fr) := by
  refine F.ok S (fun vs H Q E h => h.1.trans hn.symm) (fun cdv A outer s H vs Q E hr h => ?_)
  obtain ⟨hl, sa, sc, vs', ds, z, d, z', B, rfl, hf, e, g, hz, r, q⟩ := h
  have hpl : ps.length ≤ N.length := by have := congrArg List.length S.pre; rw [List.length_take] at this; omega
  have hds : ds.length = n := by rw [← r.len]; simpa using hl
  have h0 : H sa ≠ none ∧ H sc ≠ none := ⟨some_ne hz.2.2.2.1, some_ne hz.2.2.2.2⟩
  refine ⟨_, pssS, ?_⟩
  refine body _ (cxd_of S.nd hr) sa sc B H h0 ds z d z' hds hf (L2.start N _) B H _ (sat_startZ ⟨e, Ex.refl _, fun _ _ _ h _ => h, fun _ h => h, fun _ _ => rfl, hz, g⟩ r (by omega)) ⟨fun ρ z1 σ B' H' _ S' e' => ?_, fun v d' z1 B' H' _ w' r' e' => ?_, fun _ _ _ _ _ _ _ h => h.elim, fun _ _ _ _ _ _ _ h => h.elim⟩
  · obtain ⟨e1, e2⟩ := e'
    have st : StpM (fun a => a = sa ∨ a = sc) B H B' H' := ⟨S'.wf.eB, fun a o m h n => S'.wf.eH a o m h n, S'.wf.eM, S'.wf.sub, S'.wf.fr, fun _ => S'.wf.gd⟩
    subst e2
    exact q _ B' H' st S'.wf.z (by rw [e1]; exact .non)
  · obtain ⟨e1, e2⟩ := e'
    have st : StpM (fun a => a = sa ∨ a = sc) B H B' H' := ⟨w'.eB, fun a o m h n => w'.eH a o m h n, w'.eM, w'.sub, w'.fr, fun _ => w'.gd⟩
    subst e2
    exact q _ B' H' st w'.z (by rw [← e1]; exact r')
theorem fnc {sp : Sp} {j : Nat} (h : FnOk P w K mg base CX0 j f fd ps sp) (g : mg x = some (.ref f)) (F : Fun K x qual st f fd) (b : Binds K fd ps []) : Fnc P w K mg base x j sp := ⟨f, fd, ps, h, g, F.kp, b⟩
end

section
variable {X : Cx} {Γ : G} {N : List Str} {sc : Scope} {P : Program} {w : World} {K : PySem.W.Frag} {mg : Str → Option Value} {base : Heap} {k : Nat}
variable {e a b c : Expr} {es : List Expr} {ρ : En} {z z1 z2 : Γ.Z} {d : D} {ds : List D} {pos p : Pos} {i j : Int} {x : Str}
theorem x_call {n jl : Nat} {f : List D → D → Prop} (F : Fnc P w K mg base x jl (spD K n f)) (C : Cxt X N sc P w K mg base k) (hg : GlS sc x) (ha : XA X Γ (e :: es) ρ z ds z1) (hf : f ds d) (hn : ds.length = n := by rfl) (hj : jl ≤ k := by decide)
    (hdb : (x == ("__debug__" : Str)) = false := by decide) (he : starEach (e :: es) X.env = (false, eval e X.env) :: starEach es X.env := by rfl) (hpl : (backTo pos (starEach es X.env)).any (·.1) = false := by rfl) :
    XE X Γ (.Call (.Name x p) (e :: es) [] pos) ρ z d z1 := fun σ B H Q S q => by
  obtain ⟨fA, fd, ps, ok, hm, hk, hb⟩ := F
  have C' := C
  obtain ⟨hP, hw, hK, hmg, hbs, _, _, _, _, _, room⟩ := C'
  subst hP hw hK hmg hbs
  refine eOf (pe_call (ok.mono hj) room (C.gl hg) hm hk hb .nil pass0 paS hdb he hpl) (ha σ B H _ S fun vs B1 H1 t1 p1 r1 => ?_)
  have r2 : RepAll X.K B1 (vs ++ []) ds := by rw [List.append_nil]; exact r1
  exact ⟨by rw [r2.len]; exact hn, ds, d, B1, hf, t1.sub, (S.stepM t1 p1).wf.gd, r2, fun v B2 H2 t2 r3 => q v B2 H2 (t1.trans (.of t2)) ((S.stepM t1 p1).zp t2) r3⟩
theorem x_callZ {n jl : Nat} {sa sb : Addr} {B0 H0 : Hp} {h0 : H0 sa ≠ none ∧ H0 sb ≠ none} {z z1 z2 : List Int × Int} {f : List D → List Int × Int → D → List Int × Int → Prop} (F : Fnc P w K mg base x jl (spZ K n f)) (C : Cxt X N sc P w K mg base k) (hg : GlS sc x)
    (ha : XA X (gZ sa sb B0 H0 h0) (e :: es) ρ z (.raw (.ref sa) :: ds) z1) (hf : f ds z1 d z2) (hn : ds.length = n := by rfl) (hj : jl ≤ k := by decide)
    (hdb : (x == ("__debug__" : Str)) = false := by decide) (he : starEach (e :: es) X.env = (false, eval e X.env) :: starEach es X.env := by rfl) (hpl : (backTo pos (starEach es X.env)).any (·.1) = false := by rfl) :
    XE X (gZ sa sb B0 H0 h0) (.Call (.Name x p) (e :: es) [] pos) ρ z d z2 := fun σ B H Q S q => by
  obtain ⟨fA, fd, ps, ok, hm, hk, hb⟩ := F
  have C' := C
  obtain ⟨hP, hw, hK, hmg, hbs, _, _, _, _, _, room⟩ := C'
  subst hP hw hK hmg hbs
  refine eOf (pe_call (ok.mono hj) room (C.gl hg) hm hk hb .nil pass0 paS hdb he hpl) (ha σ B H _ S fun vs B1 H1 t1 p1 r1 => ?_)
  cases r1 with
  | @cons v0 vs _ _ r0 r1 =>
    cases r0
    have hl : (V.ref sa :: vs ++ []).length = n + 1 := by rw [List.append_nil, List.length_cons, r1.len, hn]
    exact ⟨hl, sa, sb, vs, ds, z1, d, z2, B1, by rw [List.append_nil], hf, t1.sub, (S.stepM t1 p1).wf.gd, p1, r1, fun v B2 H2 t2 p2 r3 => q v B2 H2 (t1.trans t2) p2 r3⟩

/-! ### built-in functions -/
theorem x_cb {id : String} {r : List V → Hp → VK → Prop} (C : Cxt X N sc P w K mg base k) (hc : CallR X (.builtin id) r) (hg : GlS sc x) (hm : mg x = none) (hv : bootBuiltins x = some (.builtin id)) (ha : XA X Γ (e :: es) ρ z ds z1)
    (hr : ∀ vs B H (Q : VK), Ex B H → RepAll X.K B vs ds → (∀ v B' H', Stp B H B' H' → Rep X.K B' v d → Q v H') → r vs H Q)
    (hn : x ≠ "__name__" := by decide) (hdb : (x == ("__debug__" : Str)) = false := by decide) (he : starEach (e :: es) X.env = (false, eval e X.env) :: starEach es X.env := by rfl) (hpl : (backTo pos (starEach es X.env)).any (·.1) = false := by rfl) :
    XE X Γ (.Call (.Name x p) (e :: es) [] pos) ρ z d z1 := fun σ B H Q S q =>
  eOf (pe_callB hc (C.gl hg) (by rw [C.hmg]; exact hm) hv paS hn hdb he hpl) (ha σ B H _ S fun vs B1 H1 t1 p1 r1 => hr vs B1 H1 Q t1.sub r1 fun v B2 H2 t2 r2 => q v B2 H2 (t1.trans (.of t2)) ((S.stepM t1 p1).zp t2) r2)
theorem x_ct {T : String} {r : List V → Hp → VK → Prop} (C : Cxt X N sc P w K mg base k) (hc : CallR X (.type T) r) (hg : GlS sc x) (hm : mg x = none) (hv : bootBuiltins x = some (.type T)) (ha : XA X Γ (e :: es) ρ z ds z1)
    (hr : ∀ vs B H (Q : VK), Ex B H → RepAll X.K B vs ds → (∀ v B' H', Stp B H B' H' → Rep X.K B' v d → Q v H') → r vs H Q)
    (hn : x ≠ "__name__" := by decide) (hdb : (x == ("__debug__" : Str)) = false := by decide) (he : starEach (e :: es) X.env = (false, eval e X.env) :: starEach es X.env := by rfl) (hpl : (backTo pos (starEach es X.env)).any (·.1) = false := by rfl) :
    XE X Γ (.Call (.Name x p) (e :: es) [] pos) ρ z d z1 := fun σ B H Q S q =>
  eOf (pe_callTy hc (C.gl hg) (by rw [C.hmg]; exact hm) hv paS hn hdb he hpl) (ha σ B H _ S fun vs B1 H1 t1 p1 r1 => hr vs B1 H1 Q t1.sub r1 fun v B2 H2 t2 r2 => q v B2 H2 (t1.trans (.of t2)) ((S.stepM t1 p1).zp t2) r2)
theorem rep1 {B : Hp} {vs : List V} {d : D} (r : RepAll K B vs [d]) : ∃ v, vs = [v] ∧ Rep K B v d := by
  cases r with
  | cons a r => cases r; exact ⟨_, rfl, a⟩
theorem rep2 {B : Hp} {vs : List V} {d e : D} (r : RepAll K B vs [d, e]) : ∃ v u, vs = [v, u] ∧ Rep K B v d ∧ Rep K B u e := by
  cases r with
  | cons a r => cases r with
    | cons b r => cases r; exact ⟨_, _, rfl, a, b⟩
theorem x_lenL (C : Cxt X N sc P w K mg base k) (hg : GlS sc "len") (hm : mg "len" = none) (ha : XE X Γ a ρ z (.lst ds) z1) (hs : starEach [a] X.env = (false, eval a X.env) :: starEach [] X.env := by rfl) :
    XE X Γ (.Call (.Name "len" p) [a] [] pos) ρ z (.int ds.length) z1 := x_cb C call_len_seq hg hm PySem.boot_len (he := hs) (ha := a_cons ha a_nil hs) (hr := fun vs B H Q e r q => by
  obtain ⟨v, hvs, r1⟩ := rep1 r
  subst hvs
  cases r1 with
  | lst hl r => exact ⟨_, _, rfl, .inl (e.sqL hl), by rw [r.len]; exact q _ B H (.refl e) (.int _)⟩)
theorem x_lenT (C : Cxt X N sc P w K mg base k) (hg : GlS sc "len") (hm : mg "len" = none) (ha : XE X Γ a ρ z (.tup ds) z1) (hs : starEach [a] X.env = (false, eval a X.env) :: starEach [] X.env := by rfl) :
    XE X Γ (.Call (.Name "len" p) [a] [] pos) ρ z (.int ds.length) z1 := x_cb C call_len_seq hg hm PySem.boot_len (he := hs) (ha := a_cons ha a_nil hs) (hr := fun vs B H Q e r q => by
  obtain ⟨v, hvs, r1⟩ := rep1 r
  subst hvs
  cases r1 with
  | tup hl r => exact ⟨_, _, rfl, .inr (e.sqE hl), by rw [r.len]; exact q _ B H (.refl e) (.int _)⟩)
theorem x_abs (C : Cxt X N sc P w K mg base k) (hg : GlS sc "abs") (hm : mg "abs" = none) (ha : XE X Γ a ρ z (.int i) z1) (hv : bootBuiltins "abs" = some (.builtin "abs") := by decide +kernel) (hs : starEach [a] X.env = (false, eval a X.env) :: starEach [] X.env := by rfl) :
    XE X Γ (.Call (.Name "abs" p) [a] [] pos) ρ z (.int (if i < 0 then -i else i)) z1 := x_cb C call_abs hg hm hv (he := hs) (ha := a_cons ha a_nil hs) (hr := fun vs B H Q e r q => by
  obtain ⟨v, hvs, r1⟩ := rep1 r
  subst hvs
  cases r1
  exact ⟨i, rfl, q _ B H (.refl e) (.int _)⟩)
theorem x_int1 (C : Cxt X N sc P w K mg base k) (hg : GlS sc "int") (hm : mg "int" = none) (ha : XE X Γ a ρ z (.int i) z1) (hv : bootBuiltins "int" = some (.type "int") := by decide +kernel) (hs : starEach [a] X.env = (false, eval a X.env) :: starEach [] X.env := by rfl) :
    XE X Γ (.Call (.Name "int" p) [a] [] pos) ρ z (.int i) z1 := x_ct C call_int1 hg hm hv (he := hs) (ha := a_cons ha a_nil hs) (hr := fun vs B H Q e r q => by
  obtain ⟨v, hvs, r1⟩ := rep1 r
  subst hvs
  cases r1
  exact .inl ⟨i, rfl, q _ B H (.refl e) (.int _)⟩)
theorem x_max2 (C : Cxt X N sc P w K mg base k) (hg : GlS sc "max") (hm : mg "max" = none) (ha : XE X Γ a ρ z (.int i) z1) (hb : XE X Γ b ρ z1 (.int j) z2) (hv : bootBuiltins "max" = some (.builtin "max") := by decide +kernel)
    (hs : starEach [a, b] X.env = (false, eval a X.env) :: starEach [b] X.env := by rfl) (hs2 : starEach [b] X.env = (false, eval b X.env) :: starEach [] X.env := by rfl) (hpl : (backTo pos (starEach [b] X.env)).any (·.1) = false := by rfl) :
    XE X Γ (.Call (.Name "max" p) [a, b] [] pos) ρ z (.int (if j > i then j else i)) z2 := x_cb C (call_max2 C.calm) hg hm hv (a_cons ha (a_cons hb a_nil hs2) hs) (fun vs B H Q e r q => by
  obtain ⟨v, u, hvs, r1, r2⟩ := rep2 r
  subst hvs
  cases r1; cases r2
  exact ⟨i, j, rfl, q _ B H (.refl e) (.int _)⟩) (by decide) (by decide) hs hpl
theorem x_min2 (C : Cxt X N sc P w K mg base k) (hg : GlS sc "min") (hm : mg "min" = none) (ha : XE X Γ a ρ z (.int i) z1) (hb : XE X Γ b ρ z1 (.int j) z2) (hv : bootBuiltins "min" = some (.builtin "min") := by decide +kernel)
    (hs : starEach [a, b] X.env = (false, eval a X.env) :: starEach [b] X.env := by rfl) (hs2 : starEach [b] X.env = (false, eval b X.env) :: starEach [] X.env := by rfl) (hpl : (backTo pos (starEach [b] X.env)).any (·.1) = false := by rfl) :
    XE X Γ (.Call (.Name "min" p) [a, b] [] pos) ρ z (.int (if j < i then j else i)) z2 := x_cb C (call_min2 C.calm) hg hm hv (a_cons ha (a_cons hb a_nil hs2) hs) (fun vs B H Q e r q => by
  obtain ⟨v, u, hvs, r1, r2⟩ := rep2 r
  subst hvs
  cases r1; cases r2
  exact ⟨i, j, rfl, q _ B H (.refl e) (.int _)⟩) (by decide) (by decide) hs hpl
/-- tuple(a list) -/
theorem x_tupleL (C : Cxt X N sc P w K mg base k) (hg : GlS sc "tuple") (hm : mg "tuple" = none) (ha : XE X Γ a ρ z (.lst ds) z1) (hv : bootBuiltins "tuple" = some (.type "tuple") := by decide +kernel) (hs : starEach [a] X.env = (false, eval a X.env) :: starEach [] X.env := by rfl) :
    XE X Γ (.Call (.Name "tuple" p) [a] [] pos) ρ z (.tup ds) z1 := x_ct C call_tuple_of hg hm hv (he := hs) (ha := a_cons ha a_nil hs) (hr := fun vs B H Q e r q => by
  obtain ⟨v, hvs, r1⟩ := rep1 r
  subst hvs
  cases r1 with
  | @lst a us _ hl r =>
    refine ⟨_, us, rfl, .inl ⟨e.sqL hl, fun l hl' => ?_⟩⟩
    have st : Stp B H _ _ := .new (o := .tup us) e hl'
    exact q _ _ _ st (.tup upd_same (r.mono st.eB)))
/-- list(a list), list(a tuple) -/
theorem x_listL (C : Cxt X N sc P w K mg base k) (hg : GlS sc "list") (hm : mg "list" = none) (ha : XE X Γ a ρ z (.lst ds) z1) (hv : bootBuiltins "list" = some (.type "list") := by decide +kernel) (hs : starEach [a] X.env = (false, eval a X.env) :: starEach [] X.env := by rfl) :
    XE X Γ (.Call (.Name "list" p) [a] [] pos) ρ z (.lst ds) z1 := x_ct C call_list_of hg hm hv (he := hs) (ha := a_cons ha a_nil hs) (hr := fun vs B H Q e r q => by
  obtain ⟨v, hvs, r1⟩ := rep1 r
  subst hvs
  cases r1 with
  | @lst a us _ hl r =>
    refine ⟨_, us, rfl, .inl (e.sqL hl), fun l hl' => ?_⟩
    have st : Stp B H _ _ := .new (o := .lst us) e hl'
    exact q _ _ _ st (.lst (.of upd_same) (r.mono st.eB)))
/-- isinstance(x, a built-in type) -/
def tyD : D → Option String
  | .non => some "NoneType"
  | .bl _ => some "bool"
  | .int _ => some "int"
  | .str _ => some "str"
  | .lst _ => some "list"
  | .tup _ => some "tuple"
  | _ => none
theorem rep_ty {B H : Hp} {v : V} {d : D} {T : String} (r : Rep K B v d) (e : Ex B H) (h : tyD d = some T) : TyX K H v (.type T) := by
  cases r with
  | non => cases h; exact .base .non
  | bl b => cases h; exact .base (.bl _)
  | int b => cases h; exact .base (.int _)
  | str b => cases h; exact .base (.str _)
  | raw v => cases h
  | ins _ _ => cases h
  | rng _ => cases h
  | dK _ _ => cases h
  | dT _ _ => cases h
  | lst hl r =>
    cases h
    rcases hl with (h | ⟨o, h⟩) | ⟨o, its, n, h, c, _⟩
    · exact .base (.lst (e _ _ h))
    · exact .base (.frz (e _ _ h))
    · exact .kList h c
  | tup hl r =>
    cases h
    exact .base (.tup (e _ _ hl))
theorem x_ty {n : String} (C : Cxt X N sc P w K mg base k) (hg : GlS sc x) (hm : mg x = none) (hv : bootBuiltins x = some (.type n)) (hn : x ≠ "__name__" := by decide) (hdb : (x == ("__debug__" : Str)) = false := by decide) : XE X Γ (.Name x p) ρ z (.raw (.ty n)) z := fun σ B H Q S q =>
  eOf (pe_bltn (v := .ty n) (C.gl hg) (by rw [C.hmg]; exact hm) hv rfl hn hdb) (q _ B H (.refl S.wf.sub) S.wf.z (.raw _))
theorem x_isi {n T : String} {t : Bool} (C : Cxt X N sc P w K mg base k) (hg : GlS sc "isinstance") (hm : mg "isinstance" = none) (ha : XE X Γ a ρ z d z1) (hb : XE X Γ b ρ z1 (.raw (.ty n)) z2) (hT : tyD d = some T) (ht : kitB T n = some t) (hv : bootBuiltins "isinstance" = some (.builtin "isinstance") := by decide +kernel)
    (hs : starEach [a, b] X.env = (false, eval a X.env) :: starEach [b] X.env := by rfl) (hs2 : starEach [b] X.env = (false, eval b X.env) :: starEach [] X.env := by rfl) (hpl : (backTo pos (starEach [b] X.env)).any (·.1) = false := by rfl) :
    XE X Γ (.Call (.Name "isinstance" p) [a, b] [] pos) ρ z (.bl t) z2 := x_cb C call_isi hg hm hv (a_cons ha (a_cons hb a_nil hs2) hs) (fun vs B H Q e r q => by
  obtain ⟨v, u, hvs, r1, r2⟩ := rep2 r
  subst hvs
  cases r2
  exact ⟨v, .ty n, .type T, .type n, t, rfl, .ty n, rep_ty r1 e hT, kit_ty ht, q _ B H (.refl e) (.bl _)⟩) (by decide) (by decide) hs hpl
end
end DL
namespace DL
open PySem PySem.Spec PyProof.Rows L2
variable [TB]
/-! ### a list or a tuple -/
def sqD : D → Option (List D)
  | .lst ds => some ds
  | .tup ds => some ds
  | _ => none
section
variable {X : Cx} {Γ : G} {N : List Str} {sc : Scope} {P : Program} {w : World} {K : PySem.W.Frag} {mg : Str → Option Value} {base : Heap} {k : Nat}
variable {e a b c : Expr} {es : List Expr} {ρ : En} {z z1 z2 : Γ.Z} {d d0 d1 d2 : D} {ds : List D} {pos p p2 : Pos} {i j : Int} {x : Str}
theorem x_ix (ha : XE X Γ a ρ z d0 z1) (hb : XE X Γ b ρ z1 (.int i) z2) (hq : sqD d0 = some ds) (h : atI ds i = some d) (hs : PlainIx b := by exact fun _ _ => rfl) : XE X Γ (.Subscript a b pos) ρ z d z2 := by
  cases d0 <;> first | cases hq | skip
  · exact x_ixL ha hb h hs
  · exact x_ixT ha hb h hs
theorem atI_k {n : Nat} {ds : List D} (h : ds[n]? = some d) : atI ds ((n : Nat) : Int) = some d := atI_nat h
/-- an item at a written place -/
theorem x_ixk (n : Nat) {m : Nat} (ha : XE X Γ a ρ z d0 z1) (hq : sqD d0 = some ds) (h : ds[n]? = some d) : XE X Γ (.Subscript a (.Constant (.int (n : Int)) m p2) pos) ρ z d z1 := x_ix ha x_int hq (atI_nat h)
theorem x_len (C : Cxt X N sc P w K mg base k) (hg : GlS sc "len") (hm : mg "len" = none) (ha : XE X Γ a ρ z d0 z1) (hq : sqD d0 = some ds) (hs : starEach [a] X.env = (false, eval a X.env) :: starEach [] X.env := by rfl) :
    XE X Γ (.Call (.Name "len" p) [a] [] pos) ρ z (.int ds.length) z1 := by
  cases d0 <;> first | cases hq | skip
  · exact x_lenL C hg hm ha hs
  · exact x_lenT C hg hm ha hs
theorem x_lenO (n : Nat) {x : Str} (C : Cxt X N sc P w K mg base k) (hg : GlS sc "len") (hm : mg "len" = none) (hN : N[n]? = some x) (hv : visC sc x = true) (ho : ρ[n]? = some (.own ds))
    (hd : (x == ("__debug__" : Str)) = false := by decide) (hcd : (x == ("__classdict__" : Str)) = false := by decide) (hs : starEach [.Name x p2] X.env = (false, eval (.Name x p2) X.env) :: starEach [] X.env := by rfl) :
    XE X Γ (.Call (.Name "len" p) [.Name x p2] [] pos) ρ z (.int ds.length) z := fun σ B H Q S q => by
  obtain ⟨a, vs, e, h0, hb0, hh, r⟩ := S.own ho
  refine eOf (pe_callB call_len_seq (C.gl hg) (by rw [C.hmg]; exact hm) PySem.boot_len (pa_cons (pe_var (i := n) (by rw [C.hN]; exact hN) (by rw [C.hsc]; exact vis_of hv) hd hcd) pa_nil hs) (by decide) (by decide) hs rfl) ⟨_, e, _, vs, rfl, .inl (.of hh), ?_⟩
  rw [r.len]
  exact q _ B H (.refl S.wf.sub) S.wf.z (.int _)
end
/-! ### how great a number may be -/
def NB (a : Nat) (i : Int) : Prop := i.natAbs < 2 ^ a
theorem NB.mul {a b : Nat} {i j : Int} (h : NB a i) (g : NB b j) : NB (a + b) (i * j) := wide_lt h g
theorem NB.up {a b : Nat} {i : Int} (h : NB a i) (l : a ≤ b) : NB b i := Nat.lt_of_lt_of_le h (Nat.pow_le_pow_right (by decide) l)
theorem NB.add {a b : Nat} {i j : Int} (h : NB a i) (g : NB b j) : NB (max a b + 1) (i + j) := by
  have h1 : i.natAbs < 2 ^ max a b := h.up (Nat.le_max_left _ _)
  have h2 : j.natAbs < 2 ^ max a b := g.up (Nat.le_max_right _ _)
  show (i + j).natAbs < 2 ^ (max a b + 1)
  rw [Nat.pow_succ]
  omega
theorem NB.neg {a : Nat} {i : Int} (h : NB a i) : NB a (-i) := by
  have h : i.natAbs < 2 ^ a := h
  show (-i).natAbs < 2 ^ a
  omega
theorem NB.sub {a b : Nat} {i j : Int} (h : NB a i) (g : NB b j) : NB (max a b + 1) (i - j) := by
  rw [Int.sub_eq_add_neg]
  exact h.add g.neg
theorem NB.of {a : Nat} {i : Int} (l : -(2 ^ a : Int) < i) (u : i < 2 ^ a) : NB a i := by
  have e : ((2 ^ a : Nat) : Int) = (2 : Int) ^ a := by push_cast; rfl
  show i.natAbs < 2 ^ a
  omega
theorem NB.cmul {a b : Nat} {i j : Int} (h : NB a i) (g : NB b j) (l : a + b + 2 ≤ 1000000) : CMulW i j := wide_mul (h.up (Nat.le_succ a)) (g.up (Nat.le_succ b)) (Nat.succ_pos _) (Nat.succ_pos _) (by omega)
end DL

namespace DL
open PySem PySem.Spec PyProof.Rows L2
variable [TB]

/-! ### the law's drawing -/
@[irreducible] def drawZ (z : List Int × Int) (m : Int) : Int × (List Int × Int) :=
  match z.1.dropWhile (· == 0) with
  | c :: cs => (c % m, (c / m :: cs, z.2))
  | [] => ((z.2 * 48271 + 12345) % 2147483647 / 64 % m, ([], (z.2 * 48271 + 12345) % 2147483647))
theorem drawZ_lo (z : List Int × Int) {m : Int} (h : 0 < m) : 0 ≤ (drawZ z m).1 := by
  unfold drawZ
  split
  · exact Int.emod_nonneg _ (by omega)
  · exact Int.emod_nonneg _ (by omega)
theorem drawZ_hi (z : List Int × Int) {m : Int} (h : 0 < m) : (drawZ z m).1 < m := by
  unfold drawZ
  split
  · exact Int.emod_lt_of_pos _ h
  · exact Int.emod_lt_of_pos _ h
/-- what _law_draw answers -/
def frDraw (ds : List D) (z : List Int × Int) (d : D) (z' : List Int × Int) : Prop := ∃ m : Int, ds = [.int m] ∧ 0 < m ∧ m.natAbs.log2 < 9000 ∧ d = .int (drawZ z m).1 ∧ z' = (drawZ z m).2
def seedOf (ns : List Int) : Int := ns.foldl (fun s c => (s * 31 + c) % 1000003) 7
def absI (i : Int) : Int := if i < 0 then -i else i
/-- what _law_state answers: a new list of a new list and a seed -/
def spState (K : PySem.W.Frag) : Sp := fun vs H Q _ => ∃ (a : Addr) (ns : List Int), vs = [.ref a] ∧ SqL K H a (ns.map V.int) ∧ ns.length ≤ 63 ∧
  ∀ p c H', Ex H H' → p ≠ c → H p = none → H c = none → H' p = some (.lst [.ref c, .int (seedOf ns + 1)]) → H' c = some (.lst ((ns.map absI).map V.int)) → Q (.ref p) H'
/-- H without its tables -/
def noTab (H : Hp) : Hp := fun a => match H a with
  | some (.tbl _) => none
  | x => x
theorem noTab_some {H : Hp} {a : Addr} {o : HO} (h : noTab H a = some o) : H a = some o ∧ nt o = true := by
  unfold noTab at h
  split at h
  · cases h
  · rename_i x q
    refine ⟨h, ?_⟩
    cases o <;> first | rfl | exact absurd h (q _)
theorem noTab_none {H : Hp} {a : Addr} (h : H a = none) : noTab H a = none := by
  unfold noTab
  rw [h]
/-- what the law answers: True -/
def spLaw (K : PySem.W.Frag) : Sp := fun vs H Q _ => LamX.Tabs TB.T H ∧ ∃ (a : Addr) (ns : List Int), vs = [.ref a] ∧ SqL K H a (ns.map V.int) ∧ ns.length ≤ 63 ∧ ∀ H', Q (.bl true) H'
/-- the environment behind the law's first statement -/
def envL (n : Nat) : En := .no :: .hdl 0 :: List.replicate (n - 2) .no
section
variable {P : Program} {w : World} {K : PySem.W.Frag} {mg : Str → Option Value} {base : Heap}
variable {qual : Str} {st : Stmt} {f : Addr} {fd : FuncData} {N : List Str} {k j : Nat}
/-- the law: its first statement makes the state, the rest is walked with the state in hand -/
theorem law_mk {rest : List Stmt} {p1 p2 p3 p4 p5 : Pos} {s0 s1 : Str} {N' : List Str} (F : Fun K "law" qual st f fd) (S : FnScope (s0 :: s1 :: N') [s0] (defScope st)) (FS : Fnc P w K mg base "_law_state" j (spState K)) (hj : j ≤ k)
    (hb : defBody st = .Assign [.Name s1 p1] (.Call (.Name "_law_state" p2) [.Name s0 p3] [] p4) p5 :: rest)
    (hg : GlS (defScope st) "_law_state") (hv : visC (defScope st) s0 = true) (hl : locC (defScope st) s1 = true)
    (hd : (s0 == ("__debug__" : Str)) = false) (hcd : (s0 == ("__classdict__" : Str)) = false)
    (body : ∀ (X : Cx), Cxd X (s0 :: s1 :: N') (defScope st) P w K mg base k → ∀ (sa sc : Addr) (B0 H0 : Hp) (h : H0 sa ≠ none ∧ H0 sc ≠ none) (z : List Int × Int),
      XSs X (gZ sa sc B0 H0 h) rest (envL (N'.length + 2)) z { nx := fun _ _ => False, rt := fun d _ => d = .bl true }) :
    FnOk P w K mg base CX0 (k + 1) f fd [s0] (spLaw K) := by
  refine F.ok S (fun vs H Q E h => ?_) (fun cdv A outer s H vs Q E hr h => ?_)
  · obtain ⟨_, a, ns, rfl, _⟩ := h; rfl
  · obtain ⟨hT, a, ns, rfl, hS, hlen, q⟩ := h
    have C : Cxd (cxOf CX0 P w K mg base (s0 :: s1 :: N') qual (defScope st) f cdv A outer s H E).nox (s0 :: s1 :: N') (defScope st) P w K mg base k := cxd_of S.nd hr
    obtain ⟨fA, fdS, ps, ok, hm, hk, hbd⟩ := FS
    rw [hb]
    refine ⟨_, pss_cons (ps_set (i := 1) S.nd rfl (loc_of hl) (pe_call (ok.mono hj) C.room (C.gl hg) hm hk hbd .nil pass0 (pa_cons (pe_var (i := 0) rfl (vis_of hv) hd hcd) pa_nil)) rfl (.inl rfl)) pssS, ?_⟩
    refine ⟨.ref a, rfl, a, ns, rfl, hS, hlen, fun p c H' e hpc hp hc hp' hc' => ?_⟩
    -- from here on: nothing of what stands now but the state may change
    have h0 : H' p ≠ none ∧ H' c ≠ none := ⟨some_ne hp', some_ne hc'⟩
    have wf : Wf (gZ p c (noTab H) H' h0) (ns.map absI, seedOf ns + 1) (noTab H) H' := ⟨fun a o h => e a o (noTab_some h).1, Ex.refl _, fun _ _ _ h _ => h, fun _ h => h, fun _ _ => rfl, ⟨hpc, noTab_none hp, noTab_none hc, hp', hc'⟩, ⟨hT.ext e, fun a o h => (noTab_some h).2⟩⟩
    refine body _ C p c (noTab H) H' h0 _ _ (noTab H) H' _ ⟨wf, ?_, fun i s h => ?_, fun i j es fs a' _ hi _ _ => ?_⟩ ⟨fun _ _ _ _ _ _ _ h => h.elim, fun v d z B' H2 _ w' r' e' => ?_, fun _ _ _ _ _ _ _ h => h.elim, fun _ _ _ _ _ _ _ h => h.elim⟩
    · simp [L2.start, envL]
    · unfold envL at h
      match i, h with
      | 0, h => cases h; exact ⟨_, rfl, trivial⟩
      | 1, h => cases h; exact ⟨_, rfl, rfl⟩
      | i + 2, h =>
        have h : (List.replicate (N'.length + 2 - 2) Sl.no)[i]? = some s := h
        rw [List.getElem?_replicate] at h
        split at h
        · cases h
          refine ⟨none, ?_, trivial⟩
          rw [List.getElem?_set_ne (by omega)]
          show (some (V.ref a) :: List.replicate ((s0 :: s1 :: N').length - [V.ref a].length) none)[i + 2]? = _
          rw [List.getElem?_cons_succ, List.getElem?_replicate]
          have : i + 1 < (s0 :: s1 :: N').length - [V.ref a].length := by simp; omega
          rw [if_pos this]
        · cases h
    · unfold envL at hi
      match i, hi with
      | 0, h => cases h
      | 1, h => cases h
      | i + 2, h =>
        have h : (List.replicate (N'.length + 2 - 2) Sl.no)[i]? = some (.ob es) := h
        rw [List.getElem?_replicate] at h
        split at h <;> cases h
    · have e' : d = .bl true := e'
      subst e'
      cases r'
      exact q H2
end
end DL

namespace DL
open PySem PySem.Spec PyProof.Rows L2
variable [TB]
section
variable {X : Cx} {Γ : G} {N : List Str} {sc : Scope} {P : Program} {w : World} {K : PySem.W.Frag} {mg : Str → Option Value} {base : Heap} {k : Nat}
variable {e a b c tg it elt iter : Expr} {es tgs ifs : List Expr} {st : Stmt} {sts body : List Stmt} {ρ ρ' ρ1 ρ2 : En} {z z1 z2 z3 : Γ.Z} {d d0 d1 d2 d3 : D} {ds ds1 ds2 : List D} {pos p p2 : Pos} {i j : Int} {Po : Post Γ} {s t : Bool} {x : Str}
/-- a statement, then the rest, with a word between them -/
theorem xss_cut (Mid : En → Γ.Z → Prop) (h : XS X Γ st ρ z { Po with nx := Mid }) (q : ∀ ρ' z', Mid ρ' z' → XSs X Γ sts ρ' z' Po) : XSs X Γ (st :: sts) ρ z Po :=
  xss_cons fun σ B H E S l => h σ B H E S ⟨fun ρ' z' σ' B' H' e S' m => l.nx ρ' z' σ' B' H' e S' (q ρ' z' m), l.rt, l.bk, l.ct⟩
theorem xs_imp {Po' : Post Γ} (h : XS X Γ st ρ z Po') (h1 : ∀ ρ' z', Po'.nx ρ' z' → Po.nx ρ' z') (h2 : ∀ d z', Po'.rt d z' → Po.rt d z') (h3 : ∀ ρ' z', Po'.bk ρ' z' → Po.bk ρ' z') (h4 : ∀ ρ' z', Po'.ct ρ' z' → Po.ct ρ' z') : XS X Γ st ρ z Po := fun σ B H E S l =>
  h σ B H E S ⟨fun ρ' z' σ' B' H' e S' m => l.nx ρ' z' σ' B' H' e S' (h1 _ _ m), fun v d z' B' H' e w r m => l.rt v d z' B' H' e w r (h2 _ _ m), fun ρ' z' σ' B' H' e S' m => l.bk ρ' z' σ' B' H' e S' (h3 _ _ m), fun ρ' z' σ' B' H' e S' m => l.ct ρ' z' σ' B' H' e S' (h4 _ _ m)⟩
theorem xss_imp {Po' : Post Γ} (h : XSs X Γ sts ρ z Po') (h1 : ∀ ρ' z', Po'.nx ρ' z' → Po.nx ρ' z') (h2 : ∀ d z', Po'.rt d z' → Po.rt d z') (h3 : ∀ ρ' z', Po'.bk ρ' z' → Po.bk ρ' z') (h4 : ∀ ρ' z', Po'.ct ρ' z' → Po.ct ρ' z') : XSs X Γ sts ρ z Po := fun σ B H E S l =>
  h σ B H E S ⟨fun ρ' z' σ' B' H' e S' m => l.nx ρ' z' σ' B' H' e S' (h1 _ _ m), fun v d z' B' H' e w r m => l.rt v d z' B' H' e w r (h2 _ _ m), fun ρ' z' σ' B' H' e S' m => l.bk ρ' z' σ' B' H' e S' (h3 _ _ m), fun ρ' z' σ' B' H' e S' m => l.ct ρ' z' σ' B' H' e S' (h4 _ _ m)⟩
/-- (a, b, ..) = a list -/
theorem xg_lst {ns : List Nat} {m : Nat} (C : Cxt X N sc P w K mg base k) (h : XGs X Γ es ns ds ρ ρ1) (hn : (assignEach es X.env).length = ds.length := by rfl) (hst : (assignEach es X.env).findIdx? (·.1) = none := by rfl) : XG X Γ (.Tuple es m pos) ns (.lst ds) ρ ρ1 := fun z σ B H v Q S r q => by
  have hr : PGs X es (semGs X es) := ⟨fun pins s σ H vs us Q I r h => h pins s us I r⟩
  cases r with
  | lst hl r => exact gOf (pg_unl (n := ds.length) C.calm hr hn hst) ⟨_, _, rfl, S.wf.sub.sqL hl, r.len, h z σ B H _ _ S r q⟩
theorem decB : decide (V.bl s = V.bl t) = (s == t) := by cases s <;> cases t <;> rfl
theorem x_eqB (ha : XE X Γ a ρ z (.bl s) z1) (hb : XE X Γ b ρ z1 (.bl t) z2) : XE X Γ (.Compare a [.Eq] [b] pos) ρ z (.bl (s == t)) z2 := by
  rw [← decB]
  exact x_cmp op_eq (nomark _) ha hb (rEq_r rfl rfl rfl)
theorem x_neB (ha : XE X Γ a ρ z (.bl s) z1) (hb : XE X Γ b ρ z1 (.bl t) z2) : XE X Γ (.Compare a [.NotEq] [b] pos) ρ z (.bl (!(s == t))) z2 := by
  rw [← decB]
  exact x_cmp op_ne (nomark _) ha hb (rNe_r rfl rfl rfl)
theorem t_eqB (ha : XE X Γ a ρ z (.bl s) z1) (hb : XE X Γ b ρ z1 (.bl t) z2) : XT X Γ (.Compare a [.Eq] [b] pos) ρ z (s == t) z2 := by
  rw [← decB]
  exact t_cmp op_eq (nomark _) ha hb (rEq_r rfl rfl rfl)
theorem t_neB (ha : XE X Γ a ρ z (.bl s) z1) (hb : XE X Γ b ρ z1 (.bl t) z2) : XT X Γ (.Compare a [.NotEq] [b] pos) ρ z (!(s == t)) z2 := by
  rw [← decB]
  exact t_cmp op_ne (nomark _) ha hb (rNe_r rfl rfl rfl)
/-- a truth value of a list, a tuple -/
theorem t_seq (ha : XE X Γ a ρ z d0 z1) (hq : sqD d0 = some ds) (he : ∀ whole, isTrue a X.env whole = (do let v ← whole; standAt a.pos; holding [v] (truthy v)) := by intro _; rfl) : XT X Γ a ρ z (!ds.isEmpty) z1 := fun σ B H Q S q => by
  refine tOf (pt_truth peS he) (ha σ B H _ S fun v B1 H1 t1 p1 r1 => ?_)
  have ie : ∀ {vs : List V} {ds : List D}, RepAll X.K B1 vs ds → (!vs.isEmpty) = !ds.isEmpty := fun r => by cases r <;> rfl
  cases r1 with
  | lst hl r => cases hq; exact ⟨_, .inl ⟨_, t1.sub.sqL hl, rfl⟩, by rw [ie r]; exact q B1 H1 t1 p1⟩
  | tup hl r => cases hq; exact ⟨_, .inr (.inl ⟨_, t1.sub.sqE hl, rfl⟩), by rw [ie r]; exact q B1 H1 t1 p1⟩
  | _ => cases hq
/-- in every block of this kind e evaluates to one and the same thing, of which R holds -/
def XEx (N : List Str) (scB : Scope) (P : Program) (w : World) (K : PySem.W.Frag) (mg : Str → Option Value) (base : Heap) (k : Nat) (Γ : G) (e : Expr) (ρ : En) (z : Γ.Z) (R : D → Prop) : Prop :=
  ∃ y z', R y ∧ ∀ Xb : Cx, Cxt Xb N scB P w K mg base k → XE Xb Γ e ρ z y z'
def XLx (N : List Str) (scB : Scope) (P : Program) (w : World) (K : PySem.W.Frag) (mg : Str → Option Value) (base : Heap) (k : Nat) (Γ : G) (e : Expr) (ρ : En) (z : Γ.Z) (R : List D → Prop) : Prop :=
  ∃ ds z', R ds ∧ ∀ Xb : Cx, Cxt Xb N scB P w K mg base k → XL Xb Γ e ρ z ds z'
section
variable {scB : Scope} {R : D → Prop} {RL : List D → Prop}
theorem ex_of {y : D} {z' : Γ.Z} (h : ∀ Xb : Cx, Cxt Xb N scB P w K mg base k → XE Xb Γ e ρ z y z') (r : R y) : XEx N scB P w K mg base k Γ e ρ z R := ⟨y, z', r, h⟩
theorem ex_tuple (hg : GlS scB "tuple") (hm : mg "tuple" = none) (h : XLx N scB P w K mg base k Γ a ρ z RL) (hr : ∀ ds, RL ds → R (.tup ds)) (hv : bootBuiltins "tuple" = some (.type "tuple") := by decide +kernel)
    (hs : ∀ Xb : Cx, starEach [a] Xb.env = (false, eval a Xb.env) :: starEach [] Xb.env := by intro _; rfl) : XEx N scB P w K mg base k Γ (.Call (.Name "tuple" p) [a] [] pos) ρ z R := by
  obtain ⟨ds, z', r, h⟩ := h
  exact ⟨_, z', hr ds r, fun Xb C => x_tupleL C hg hm (x_ofL (h Xb C)) hv (hs Xb)⟩
theorem ex_lst (h : XLx N scB P w K mg base k Γ a ρ z RL) (hr : ∀ ds, RL ds → R (.lst ds)) : XEx N scB P w K mg base k Γ a ρ z R := by
  obtain ⟨ds, z', r, h⟩ := h
  exact ⟨_, z', hr ds r, fun Xb C => x_ofL (h Xb C)⟩
end
/-- a comprehension whose every item is of one sort; the state turns as it may -/
theorem lc_some {vs : List Nat} {n : Nat} {item : Nat → D} {scB : Scope} (R : D → Prop) (hz : n ≤ 1000)
    (step : ∀ m (z : Γ.Z), m < n → ∃ ns ρ2, (∀ n ∈ ns, n ∈ vs) ∧ (∀ Xb : Cx, Cxt Xb N scB P w K mg base k → XG Xb Γ tg ns (item m) (wipeE ρ vs) ρ2) ∧ XEx N scB P w K mg base k Γ elt ρ2 z R) (z1 : Γ.Z) :
    ∃ (A : Nat → List D) (zs : Nat → Γ.Z), A 0 = [] ∧ zs 0 = z1 ∧ (∀ m, m < n → LcStep N scB P w K mg base k Γ tg elt [] vs ρ (item m) (zs m) (zs (m + 1)) (A m) (A (m + 1))) ∧ (∀ m, m < n → (A m).length < sizeLine) ∧ (A n).length = n ∧ ∀ d ∈ A n, R d := by
  have ch : ∃ f : Nat → Γ.Z → D × Γ.Z, ∀ m z, m < n → R (f m z).1 ∧ ∃ ns ρ2, (∀ n ∈ ns, n ∈ vs) ∧ ∀ Xb : Cx, Cxt Xb N scB P w K mg base k → XG Xb Γ tg ns (item m) (wipeE ρ vs) ρ2 ∧ XE Xb Γ elt ρ2 z (f m z).1 (f m z).2 := by
    have h : ∀ m (z : Γ.Z), ∃ yz : D × Γ.Z, m < n → R yz.1 ∧ ∃ ns ρ2, (∀ n ∈ ns, n ∈ vs) ∧ ∀ Xb : Cx, Cxt Xb N scB P w K mg base k → XG Xb Γ tg ns (item m) (wipeE ρ vs) ρ2 ∧ XE Xb Γ elt ρ2 z yz.1 yz.2 := fun m z => by
      by_cases hm : m < n
      · obtain ⟨ns, ρ2, h1, h2, y, z', r, h3⟩ := step m z hm
        exact ⟨(y, z'), fun _ => ⟨r, ns, ρ2, h1, fun Xb C => ⟨h2 Xb C, h3 Xb C⟩⟩⟩
      · exact ⟨(.non, z), fun q => absurd q hm⟩
    exact ⟨fun m z => Classical.choose (h m z), fun m z hm => Classical.choose_spec (h m z) hm⟩
  obtain ⟨f, hf⟩ := ch
  let zs : Nat → Γ.Z := fun m => Nat.rec z1 (fun m z => (f m z).2) m
  let A : Nat → List D := fun m => (List.range m).map fun i => (f i (zs i)).1
  have hA : ∀ m, (A m).length = m := fun m => by simp [A]
  refine ⟨A, zs, rfl, rfl, fun m hm => ?_, fun m hm => by rw [hA]; exact small1000 (by omega), hA n, fun d hd => ?_⟩
  · obtain ⟨h1, ns, ρ2, h2, h3⟩ := hf m (zs m) hm
    have e : A (m + 1) = A m ++ [(f m (zs m)).1] := by simp [A, List.range_succ]
    rw [e]
    exact lcStep h2 h3
  · obtain ⟨i, hi, rfl⟩ := List.mem_map.mp hd
    exact (hf i (zs i) (List.mem_range.mp hi)).1
theorem lx_some {scB scope : Scope} {n : Nat} {item : Nat → D} {RL : List D → Prop} (own : List (Str × Nat)) (R : D → Prop) (hok : blkC N scB scope own = true) (hi : ∀ Xb : Cx, Cxt Xb N scB P w K mg base k → XI Xb Γ tg iter ρ z n item z1) (hz : n ≤ 1000)
    (step : ∀ m (z : Γ.Z), m < n → ∃ ns ρ2, (∀ n ∈ ns, n ∈ own.map (·.2)) ∧ (∀ Xb : Cx, Cxt Xb N (relS scope scB) P w K mg base k → XG Xb Γ tg ns (item m) (wipeE ρ (own.map (·.2))) ρ2) ∧ XEx N (relS scope scB) P w K mg base k Γ elt ρ2 z R)
    (hr : ∀ ds : List D, ds.length = n → (∀ d ∈ ds, R d) → RL ds) (hs : ∀ (Xb : Cx) x, foldedSetIterable iter Xb.env x = pure x := by intro _ _; rfl) : XLx N scB P w K mg base k Γ (.ListComp elt [⟨tg, iter, [], 0⟩] scope pos) ρ z RL := by
  obtain ⟨A, zs, h1, h2, h3, h4, h5, h6⟩ := lc_some R hz step z1
  exact ⟨A n, zs n, hr _ h5 h6, fun Xb C => l_lc own C hok (hi Xb C) A zs h1 h2 h3 h4 (hs Xb)⟩
theorem xs_setSome {scope : Scope} (o : Nat) (own : List (Str × Nat)) {n : Nat} {item : Nat → D} {y : Str} {py spos : Pos} (R : D → Prop) (C : Cxd X N sc P w K mg base k) (hy : N[o]? = some y) (hyl : sc.names.lookup y = some .local) (hok : blkC N sc scope own = true) (hi : XI X Γ tg iter ρ z n item z1) (hz : n ≤ 1000)
    (step : ∀ m (z : Γ.Z), m < n → ∃ ns ρ2, (∀ n ∈ ns, n ∈ own.map (·.2)) ∧ (∀ Xb : Cx, Cxt Xb N (relS scope sc) P w K mg base k → XG Xb Γ tg ns (item m) (wipeE ρ (own.map (·.2))) ρ2) ∧ XEx N (relS scope sc) P w K mg base k Γ elt ρ2 z R)
    (q : ∀ ds z', ds.length = n → (∀ d ∈ ds, R d) → Po.nx (ρ.set o (.own ds)) z')
    (hk : sc.kind = .function := by rfl) (hl : (py.line == pos.line) = true := by rfl) (ha : (scope.names.any fun (n, k) => n == y && (k == .local || k == .cell)) = false := by rfl)
    (hs : ∀ x, foldedSetIterable iter X.env x = pure x := by intro _; rfl) : XS X Γ (.Assign [.Name y py] (.ListComp elt [⟨tg, iter, [], 0⟩] scope pos) spos) ρ z Po := by
  obtain ⟨A, zs, h1, h2, h3, h4, h5, h6⟩ := lc_some R hz step z1
  exact xs_setLc o own C hy hyl hok hi A zs h1 h2 h3 h4 (q _ _ h5 h6) hk hl ha hs
/-- the answer is a function of the item; the state stays -/
theorem lc_map {vs : List Nat} {n : Nat} {item : Nat → D} {scB : Scope} (f : Nat → D) (z1 : Γ.Z) (hz : n ≤ 1000)
    (step : ∀ m, m < n → ∃ ns ρ2, (∀ n ∈ ns, n ∈ vs) ∧ ∀ Xb : Cx, Cxt Xb N scB P w K mg base k → XG Xb Γ tg ns (item m) (wipeE ρ vs) ρ2 ∧ XE Xb Γ elt ρ2 z1 (f m) z1) :
    (∀ m, m < n → LcStep N scB P w K mg base k Γ tg elt [] vs ρ (item m) z1 z1 ((List.range m).map f) ((List.range (m + 1)).map f)) ∧ (∀ m, m < n → ((List.range m).map f).length < sizeLine) := by
  refine ⟨fun m hm => ?_, fun m hm => by simp; exact small1000 (by omega)⟩
  obtain ⟨ns, ρ2, h1, h2⟩ := step m hm
  have e : (List.range (m + 1)).map f = (List.range m).map f ++ [f m] := by simp [List.range_succ]
  rw [e]
  exact lcStep h1 h2
theorem l_map {scope : Scope} (own : List (Str × Nat)) {n : Nat} {item : Nat → D} (f : Nat → D) (C : Cxt X N sc P w K mg base k) (hok : blkC N sc scope own = true) (hi : XI X Γ tg iter ρ z n item z1) (hz : n ≤ 1000)
    (step : ∀ m, m < n → ∃ ns ρ2, (∀ n ∈ ns, n ∈ own.map (·.2)) ∧ ∀ Xb : Cx, Cxt Xb N (relS scope sc) P w K mg base k → XG Xb Γ tg ns (item m) (wipeE ρ (own.map (·.2))) ρ2 ∧ XE Xb Γ elt ρ2 z1 (f m) z1)
    (hs : ∀ x, foldedSetIterable iter X.env x = pure x := by intro _; rfl) : XL X Γ (.ListComp elt [⟨tg, iter, [], 0⟩] scope pos) ρ z ((List.range n).map f) z1 :=
  l_lc own C hok hi (fun m => (List.range m).map f) (fun _ => z1) rfl rfl (lc_map f z1 hz step).1 (lc_map f z1 hz step).2 hs
theorem xs_setMap {scope : Scope} (o : Nat) (own : List (Str × Nat)) {n : Nat} {item : Nat → D} {y : Str} {py spos : Pos} (f : Nat → D) (C : Cxd X N sc P w K mg base k) (hy : N[o]? = some y) (hyl : sc.names.lookup y = some .local) (hok : blkC N sc scope own = true) (hi : XI X Γ tg iter ρ z n item z1) (hz : n ≤ 1000)
    (step : ∀ m, m < n → ∃ ns ρ2, (∀ n ∈ ns, n ∈ own.map (·.2)) ∧ ∀ Xb : Cx, Cxt Xb N (relS scope sc) P w K mg base k → XG Xb Γ tg ns (item m) (wipeE ρ (own.map (·.2))) ρ2 ∧ XE Xb Γ elt ρ2 z1 (f m) z1) (q : Po.nx (ρ.set o (.own ((List.range n).map f))) z1)
    (hk : sc.kind = .function := by rfl) (hl : (py.line == pos.line) = true := by rfl) (ha : (scope.names.any fun (n, k) => n == y && (k == .local || k == .cell)) = false := by rfl)
    (hs : ∀ x, foldedSetIterable iter X.env x = pure x := by intro _; rfl) : XS X Γ (.Assign [.Name y py] (.ListComp elt [⟨tg, iter, [], 0⟩] scope pos) spos) ρ z Po :=
  xs_setLc o own C hy hyl hok hi (fun m => (List.range m).map f) (fun _ => z1) rfl rfl (lc_map f z1 hz step).1 (lc_map f z1 hz step).2 q hk hl ha hs
theorem sw_cell {elt : Expr} {gs : List Comprehension} {scope : Scope} {pos py : Pos} {y : Str} {l : Nat} {env : Env} (hy : env.scope.names.lookup y = some .cell) : swapsWith (.ListComp elt gs scope pos) (some (.Name y py)) l env = pure false := by
  have ky : env.kindOf y = some .cell := hy
  unfold swapsWith
  simp only [ky]
  have e : ((some NameKind.cell : Option NameKind) == some .local) = false := rfl
  simp only [e, Bool.and_false, Bool.false_and] <;> rfl
/-- the same to a name that a block captures -/
theorem xs_setSomeC {scope : Scope} (o : Nat) (own : List (Str × Nat)) {n : Nat} {item : Nat → D} {y : Str} {py spos : Pos} (R : D → Prop) (C : Cxd X N sc P w K mg base k) (hy : N[o]? = some y) (hyl : sc.names.lookup y = some .cell) (hok : blkC N sc scope own = true) (hi : XI X Γ tg iter ρ z n item z1) (hz : n ≤ 1000)
    (step : ∀ m (z : Γ.Z), m < n → ∃ ns ρ2, (∀ n ∈ ns, n ∈ own.map (·.2)) ∧ (∀ Xb : Cx, Cxt Xb N (relS scope sc) P w K mg base k → XG Xb Γ tg ns (item m) (wipeE ρ (own.map (·.2))) ρ2) ∧ XEx N (relS scope sc) P w K mg base k Γ elt ρ2 z R)
    (q : ∀ ds z', ds.length = n → (∀ d ∈ ds, R d) → Po.nx (ρ.set o (.own ds)) z')
    (hs : ∀ x, foldedSetIterable iter X.env x = pure x := by intro _; rfl) : XS X Γ (.Assign [.Name y py] (.ListComp elt [⟨tg, iter, [], 0⟩] scope pos) spos) ρ z Po := by
  obtain ⟨A, zs, h1, h2, h3, h4, h5, h6⟩ := lc_some R hz step z1
  exact xs_setO o C hy (by unfold locC; rw [hyl]) (l_lc own C.toCxt hok hi A zs h1 h2 h3 h4 hs) (q _ _ h5 h6) (sw_cell (by rw [C.hsc]; exact hyl))
theorem xs_setMapC {scope : Scope} (o : Nat) (own : List (Str × Nat)) {n : Nat} {item : Nat → D} {y : Str} {py spos : Pos} (f : Nat → D) (C : Cxd X N sc P w K mg base k) (hy : N[o]? = some y) (hyl : sc.names.lookup y = some .cell) (hok : blkC N sc scope own = true) (hi : XI X Γ tg iter ρ z n item z1) (hz : n ≤ 1000)
    (step : ∀ m, m < n → ∃ ns ρ2, (∀ n ∈ ns, n ∈ own.map (·.2)) ∧ ∀ Xb : Cx, Cxt Xb N (relS scope sc) P w K mg base k → XG Xb Γ tg ns (item m) (wipeE ρ (own.map (·.2))) ρ2 ∧ XE Xb Γ elt ρ2 z1 (f m) z1) (q : Po.nx (ρ.set o (.own ((List.range n).map f))) z1)
    (hs : ∀ x, foldedSetIterable iter X.env x = pure x := by intro _; rfl) : XS X Γ (.Assign [.Name y py] (.ListComp elt [⟨tg, iter, [], 0⟩] scope pos) spos) ρ z Po :=
  xs_setO o C hy (by unfold locC; rw [hyl]) (l_map own f C.toCxt hok hi hz step hs) q (sw_cell (by rw [C.hsc]; exact hyl))
/-- a number below n at a written list of n -/
theorem at_menu {ds : List D} {i : Int} (h0 : 0 ≤ i) (h1 : i < ds.length) : atI ds i = some (ds.getD i.toNat .non) := by
  obtain ⟨n, rfl⟩ : ∃ n : Nat, i = n := ⟨i.toNat, by omega⟩
  have hn : n < ds.length := by omega
  refine atI_nat ?_
  rw [List.getElem?_eq_getElem hn, List.getD_eq_getElem?_getD, Int.toNat_natCast, List.getElem?_eq_getElem hn]
  rfl
theorem log_ok {m : Int} (h : 0 < m) (h2 : m < 2 ^ 64) : m.natAbs.log2 < 9000 := by
  have : m.natAbs < 2 ^ 64 := by omega
  exact Nat.lt_of_lt_of_le (PySem.Flt.log2_lt_of (by decide) this) (by decide)
end
/-- the draw, whatever comes -/
theorem x_draw {X : Cx} {N : List Str} {sc : Scope} {P : Program} {w : World} {K : PySem.W.Frag} {mg : Str → Option Value} {base : Heap} {k jl : Nat} {e : Expr} {es : List Expr} {pos p : Pos} {sa sb : Addr} {B0 H0 : Hp} {h0 : H0 sa ≠ none ∧ H0 sb ≠ none} {ρ : En} {z z1 : List Int × Int} {m : Int}
    (F : Fnc P w K mg base "_law_draw" jl (spZ K 1 frDraw)) (C : Cxt X N sc P w K mg base k) (hg : GlS sc "_law_draw") (ha : XA X (gZ sa sb B0 H0 h0) (e :: es) ρ z [.raw (.ref sa), .int m] z1) (hm : 0 < m) (hm2 : m < 2 ^ 64) (hj : jl ≤ k := by decide)
    (he : starEach (e :: es) X.env = (false, eval e X.env) :: starEach es X.env := by rfl) (hpl : (backTo pos (starEach es X.env)).any (·.1) = false := by rfl) :
    XE X (gZ sa sb B0 H0 h0) (.Call (.Name "_law_draw" p) (e :: es) [] pos) ρ z (.int (drawZ z1 m).1) (drawZ z1 m).2 := x_callZ F C hg ha ⟨m, rfl, hm, log_ok hm hm2, rfl, rfl⟩ rfl hj (by decide) he hpl
end DL

namespace DL
open PySem PySem.Spec PyProof.Rows L2
variable [TB]
section
variable {X : Cx} {Γ : G} {N : List Str} {sc : Scope} {P : Program} {w : World} {K : PySem.W.Frag} {mg : Str → Option Value} {base : Heap} {k : Nat}
variable {e a b c tg it elt iter : Expr} {es tgs ifs : List Expr} {st : Stmt} {sts body : List Stmt} {ρ ρ' ρ1 ρ2 : En} {z z1 z2 z3 : Γ.Z} {d d0 d1 d2 d3 : D} {ds ds1 ds2 : List D} {pos p p2 : Pos} {i j : Int} {Po : Post Γ} {s t : Bool} {x : Str}
/-- zip of two tuples -/
theorem xi_zipT {kk : Nat} {tpos : Pos} (C : Cxt X N sc P w K mg base k) (hg : GlS sc "zip") (hm : mg "zip" = none) (ha : XE X Γ a ρ z (.tup ds1) z1) (h : XE X Γ b ρ z1 (.tup ds2) z2)
    (hs : starEach [a, b] X.env = (false, eval a X.env) :: starEach [b] X.env := by rfl) (hpl : (backTo pos (starEach [b] X.env)).any (·.1) = false := by rfl) (hs2 : starEach [b] X.env = (false, eval b X.env) :: starEach [] X.env := by rfl) :
    XI X Γ (.Tuple tgs kk tpos) (.Call (.Name "zip" p) [a, b] [] pos) ρ z (min ds1.length ds2.length) (fun m => .tup [ds1.getD m .non, ds2.getD m .non]) z2 := fun σ B H R S q => by
  refine iOf (RZ.pi_zipA (C.gl hg) (by rw [C.hmg]; exact hm) paS hs hpl) (a_cons ha (a_cons h a_nil hs2) hs σ B H _ S fun vs B1 H1 t1 p1 r1 => ?_)
  cases r1 with
  | cons r1 r0 => cases r0 with
    | cons r2 r0 =>
      cases r0
      cases r1 with
      | @tup a vs _ hl r => cases r2 with
        | @tup b us _ hl2 r2 =>
          refine ⟨a, b, vs, us, rfl, .inr ⟨t1.sub.sqE hl, t1.sub.sqE hl2, q (RZ.ItzT X.K a b) B1 H1 t1 p1 (fun B2 H2 e1 e2 => ⟨vs, us, (e1.trans e2).sqE hl, (e1.trans e2).sqE hl2, by rw [r.len, r2.len]; omega⟩) (fun m B2 H2 hm e1 e2 => ?_) (fun m B2 H2 x H3 hm e1 e2 y => ?_)⟩⟩
          · have hv : m < vs.length := by rw [r.len]; omega
            have hu : m < us.length := by rw [r2.len]; omega
            exact ⟨vs, us, vs[m], us[m], (e1.trans e2).sqE hl, (e1.trans e2).sqE hl2, List.getElem?_eq_getElem hv, List.getElem?_eq_getElem hu⟩
          · obtain ⟨T, x, y', rfl, hT, rfl, y1, y2⟩ := y
            obtain ⟨d, hd, rd⟩ := r.getV (y1 vs ((e1.trans e2).sqE hl))
            obtain ⟨d', hd', rd'⟩ := r2.getV (y2 us ((e1.trans e2).sqE hl2))
            have st : Stp B2 H2 _ _ := .new (o := .tup [x, y']) e2 hT
            refine ⟨_, st, ?_⟩
            show Rep X.K _ _ (.tup [ds1.getD m .non, ds2.getD m .non])
            rw [getD_of hd, getD_of hd']
            exact .tup upd_same (.cons ((rd.mono e1).mono st.eB) (.cons ((rd'.mono e1).mono st.eB) .nil))
/-- a = b = e -/
theorem xs_asg2 {tg2 : Expr} {ns ms : List Nat} (C : Cxd X N sc P w K mg base k) (h : XE X Γ e ρ z d z1) (g : XG X Γ tg ns d ρ ρ1) (g2 : XG X Γ tg2 ms d ρ1 ρ2) (q : Po.nx ρ2 z1) (ha : (assignEach [tg, tg2] X.env).map (·.2) = [assign tg X.env, assign tg2 X.env] := by rfl) (hw : swappedStores [tg, tg2] e X.env = pure none := by rfl) :
    XS X Γ (.Assign [tg, tg2] e pos) ρ z Po := fun σ B H E S l => by
  refine sOf (ps_asg2 peS pgS pgS ha hw) (h σ B H _ S fun v B1 H1 t1 p1 r1 => ?_)
  exact g _ σ B1 H1 v _ (S.stepM t1 p1) r1 fun σ' S' _ => g2 _ σ' B1 H1 v _ S' r1 fun σ2 S2 _ => l.nx _ _ _ B1 H1 t1.eB S2 q
/-- names that are not all plain locals are not stored in the other order -/
def swNo (ts vs : List Expr) (sc : Scope) : Bool :=
  !(!(ts.length == 2 || ts.length == 3) || vs.length != ts.length || (envS sc).blockKind != .function) && (!(vs.any fun | .Starred .. => true | _ => false) &&
  ((ts.filterMap fun
    | .Name id pos => if (envS sc).kindOf id == some .local && pos.line == (ts.head?.map (·.pos.line)).getD 0 then some id else none
    | _ => none).length != ts.length))
theorem sw_no {ts vs : List Expr} {k k2 : Nat} {p p2 : Pos} {sc : Scope} (h : swNo ts vs sc = true) : swappedStores [.Tuple ts k p] (.Tuple vs k2 p2) (envS sc) = pure none := by
  unfold swNo at h
  rw [Bool.and_eq_true, Bool.and_eq_true] at h
  obtain ⟨h1, h4, h5⟩ := h
  have e1 := (Bool.not_eq_true' _).mp h1
  have h4 := (Bool.not_eq_true' _).mp h4
  show (if (!(ts.length == 2 || ts.length == 3) || vs.length != ts.length || (envS sc).blockKind != .function) = true then pure none else
    if (vs.any fun | .Starred .. => true | _ => false) = true then pure none else
    if ((ts.filterMap fun
      | .Name id pos => if (envS sc).kindOf id == some .local && pos.line == (ts.head?.map (·.pos.line)).getD 0 then some id else none
      | _ => none).length != ts.length || (ts.filterMap fun
      | .Name id pos => if (envS sc).kindOf id == some .local && pos.line == (ts.head?.map (·.pos.line)).getD 0 then some id else none
      | _ => none).eraseDups.length != (ts.filterMap fun
      | .Name id pos => if (envS sc).kindOf id == some .local && pos.line == (ts.head?.map (·.pos.line)).getD 0 then some id else none
      | _ => none).length) = true then pure none else _) = _
  rw [e1, h4, h5]
  rfl
/-- a, b = x, y by way of the pair -/
theorem xs_pair {ts vs : List Expr} {ns : List Nat} {k1 k2 : Nat} {p1 p2 : Pos} (C : Cxd X N sc P w K mg base k) (h : XE X Γ (.Tuple vs k2 p2) ρ z d z1) (g : XG X Γ (.Tuple ts k1 p1) ns d ρ ρ1) (q : Po.nx ρ1 z1) (hw : swNo ts vs sc = true)
    (hs : swapsWithSole [.Tuple ts k1 p1] (.Tuple vs k2 p2) pos.line X.env = pure false := by rfl)
    (h1 : (assignEach [.Tuple ts k1 p1] X.env).map (·.2) = [assign (.Tuple ts k1 p1) X.env] := by rfl) : XS X Γ (.Assign [.Tuple ts k1 p1] (.Tuple vs k2 p2) pos) ρ z Po := xs_asg C h g q hs (by rw [swap_env C.hsc]; exact sw_no hw) h1
theorem xg_to {ns : List Nat} {d' : D} (h : XG X Γ tg ns d ρ ρ') (e : d = d') : XG X Γ tg ns d' ρ ρ' := e ▸ h
end
end DL

namespace DL
open PySem PySem.Spec PyProof.Rows L2
variable [TB]

/-! ### an instance under way: its fields so far -/
def InP (K : PySem.W.Frag) (Ci x : Addr) (z : List (Str × D)) (B H : Hp) : Prop := B x = none ∧ ∃ dx vs, H x = some (.ins Ci dx vs) ∧ RepFs K B vs z
def gN (K : PySem.W.Frag) (Ci x : Addr) (B H : Hp) (h : H x ≠ none) : G where
  B0 := B
  H0 := H
  M := fun a => a = x
  Z := List (Str × D)
  zp := InP K Ci x
  hd := fun _ => .ref x
  zfr := fun z B H B' H' h e m b => by
    obtain ⟨_, dx, vs, e1, r⟩ := h
    exact ⟨b x rfl, dx, vs, m x _ rfl e1 rfl, r.mono e⟩
  znb := fun z B H h a m => by
    obtain ⟨h1, dx, vs, e1, _⟩ := h
    rw [m]
    exact ⟨h1, some_ne e1⟩
  m0 := fun a m => by rw [m]; exact h
def putD (f : Str) (d : D) : List (Str × D) → List (Str × D)
  | [] => [(f, d)]
  | (g, e) :: r => if g = f then (g, d) :: r else (g, e) :: putD f d r
section
variable {K : PySem.W.Frag} {B : Hp}
theorem RepFs.len : ∀ {vs : List (Str × V)} {fs : List (Str × D)}, RepFs K B vs fs → vs.length = fs.length
  | _, _, .nil => rfl
  | _, _, .cons _ r => congrArg (· + 1) r.len
theorem RepFs.put {f : Str} {v : V} {d : D} (h : Rep K B v d) : ∀ {vs : List (Str × V)} {fs : List (Str × D)}, RepFs K B vs fs → RepFs K B (putF f v vs) (putD f d fs)
  | _, _, .nil => .cons h .nil
  | (g, u) :: vs, (_, e) :: fs, .cons q r => by
    show RepFs K B (if g = f then (g, v) :: vs else (g, u) :: putF f v vs) (if g = f then (g, d) :: fs else (g, e) :: putD f d fs)
    split
    · exact .cons h r
    · exact .cons q (RepFs.put h r)
end
/-- an own def that makes an instance's fields -/
def spI (K : PySem.W.Frag) (Ci : Addr) (n : Nat) (f : List D → List (Str × D) → Prop) : Sp := fun vs H Q _ => vs.length = n + 1 ∧ ∃ x dx vs' ds fs B, vs = .ref x :: vs' ∧ f ds fs ∧ Ex B H ∧ Good B H ∧ B x = none ∧ H x = some (.ins Ci dx []) ∧ RepAll K B vs' ds ∧
  ∀ B' H', StpM (fun a => a = x) B H B' H' → InP K Ci x fs B' H' → Q .non H'

section
variable {P : Program} {w : World} {K : PySem.W.Frag} {mg : Str → Option Value} {base : Heap}
theorem sat_startH {Γ : G} {z : Γ.Z} {u : V} (hu : Γ.hd 0 = u) {B H : Hp} {vs : List V} {ds : List D} {N : List Str} (w : Wf Γ z B H) (r : RepAll K B vs ds) (hl : ds.length + 1 ≤ N.length) :
    Sat K Γ (envZ N.length ds) z (L2.start N (u :: vs)) B H := by
  have hv : vs.length = ds.length := r.len
  refine ⟨w, ?_, fun i s h => ?_, fun i j es fs a _ hi _ _ => ?_⟩
  · rw [start_len (by simp; omega)]
    unfold envZ
    simp
    omega
  · cases i with
    | zero =>
      cases h
      exact ⟨some u, rfl, congrArg some hu.symm⟩
    | succ i =>
      have h : (ds.map Sl.dat ++ List.replicate (N.length - (ds.length + 1)) Sl.no)[i]? = some s := h
      by_cases hi : i < ds.length
      · rw [List.getElem?_append_left (by simpa using hi), List.getElem?_map, List.getElem?_eq_getElem hi] at h
        cases h
        obtain ⟨v, hv, rv⟩ := r.get (List.getElem?_eq_getElem hi)
        exact ⟨some v, start_get (by simpa using hv), v, rfl, rv⟩
      · rw [List.getElem?_append_right (by simpa using hi), List.getElem?_replicate] at h
        split at h
        · cases h
          refine ⟨none, ?_, trivial⟩
          unfold L2.start
          rw [List.getElem?_append_right (by simp; omega), List.getElem?_replicate]
          simp at *
          omega
        · cases h
  · cases i with
    | zero => cases hi
    | succ i =>
      have hi : (ds.map Sl.dat ++ List.replicate (N.length - (ds.length + 1)) Sl.no)[i]? = some (.ob es) := hi
      by_cases q : i < ds.length
      · rw [List.getElem?_append_left (by simpa using q), List.getElem?_map, List.getElem?_eq_getElem q] at hi
        cases hi
      · rw [List.getElem?_append_right (by simpa using q), List.getElem?_replicate] at hi
        split at hi <;> cases hi
variable {x qual : Str} {st : Stmt} {f : Addr} {fd : FuncData} {N ps : List Str} {k n : Nat} {params : Arguments} {body : List Stmt} {scope : Scope} {dvs : List V} {kws : List (Str × V)}
/-- __init__ with defaults -/
theorem fn_I {fr : List D → List (Str × D) → Prop} {Ci : Addr} (F : FunD K x qual params body scope dvs kws f fd) (S : FnScope N ps scope) (hn : ps.length = n + 1)
    (hbody : ∀ (X : Cx), Cxd X N scope P w K mg base k → ∀ (y : Addr) (B0 H0 : Hp) (h : H0 y ≠ none) (ds : List D) (fs : List (Str × D)), ds.length = n → fr ds fs →
      XSs X (gN K Ci y B0 H0 h) body (envZ N.length ds) [] { nx := fun _ z1 => z1 = fs, rt := fun d z1 => d = .non ∧ z1 = fs }) :
    FnOk P w K mg base CX0 (k + 1) f fd ps (spI K Ci n fr) := by
  obtain ⟨oc, od, dV, kV, doc, pm, an, cdv, ct, osl, rfl, lk, hcd, _, _⟩ := F.ex
  refine fn_of lk hcd S (fun vs H Q E h => h.1.trans hn.symm) fun A outer s H vs Q E hr h => ?_
  obtain ⟨hl, y, dx, vs', ds, fs, B, rfl, hf, e, g, hb, hy, r, q⟩ := h
  have hpl : ps.length ≤ N.length := by have := congrArg List.length S.pre; rw [List.length_take] at this; omega
  have hds : ds.length = n := by rw [← r.len]; simpa using hl
  have h0 : H y ≠ none := some_ne hy
  have C := cxd_of (P := P) (w := w) (K := K) (mg := mg) (base := base) (s := s) (H := H) (E := E) (outer := outer) S.nd hr
  refine ⟨_, (pssS (X := (cxOf CX0 P w K mg base N qual scope f cdv A outer s H E).nox) (sts := body)).nox, ?_⟩
  refine hbody _ C y B H h0 ds fs hds hf (L2.start N _) B H _ (sat_startH rfl ⟨e, Ex.refl _, fun _ _ _ h _ => h, fun _ h => h, fun _ _ => rfl, ⟨hb, dx, [], hy, .nil⟩, g⟩ r (by omega)) ⟨fun ρ z1 σ B' H' _ S' e' => ?_, fun v d' z1 B' H' _ w' r' e' => ?_, fun _ _ _ _ _ _ _ h => h.elim, fun _ _ _ _ _ _ _ h => h.elim⟩
  · subst e'
    exact q B' H' ⟨S'.wf.eB, fun a o m h n => S'.wf.eH a o m h n, S'.wf.eM, S'.wf.sub, S'.wf.fr, fun _ => S'.wf.gd⟩ S'.wf.z
  · obtain ⟨e1, e2⟩ := e'
    subst e1 e2
    cases r'
    exact q B' H' ⟨w'.eB, fun a o m h n => w'.eH a o m h n, w'.eM, w'.sub, w'.fr, fun _ => w'.gd⟩ w'.z
end

def semK (X : Cx) (kws : List Keyword) : TA := fun σ H Q => ∀ pos pins s, Inv X pins σ H s → wpAny (model X.prog X.w) X.A (evalAll ((backToKw pos (keywordEach kws X.env)).map (·.2))) (AP X pins σ Q) X.xe s
theorem pkS {X : Cx} {kws : List Keyword} : PK X kws (semK X kws) := ⟨fun pos pins s σ H Q I h => h pos pins s I⟩
theorem kOf {X : Cx} {kws : List Keyword} {σ : L2.St} {H : Hp} {t : TA} {Q : List V → Hp → Prop} (h : PK X kws t) (q : t σ H Q) : semK X kws σ H Q := fun pos pins s I => h.run pos pins s σ H Q I q
/-- the keywords' values, from the left -/
def XKw (X : Cx) (Γ : G) (kws : List Keyword) (ρ : En) (z : Γ.Z) (ds : List D) (z' : Γ.Z) : Prop := ∀ (σ : L2.St) (B H : Hp) (Q : List V → Hp → Prop), Sat X.K Γ ρ z σ B H →
  (∀ vs B' H', StpM Γ.M B H B' H' → Γ.zp z' B' H' → RepAll X.K B' vs ds → Q vs H') → semK X kws σ H Q

section
variable {X : Cx} {Γ : G} {N : List Str} {sc : Scope} {P : Program} {w : World} {K : PySem.W.Frag} {mg : Str → Option Value} {base : Heap} {k : Nat}
variable {e a b o : Expr} {es : List Expr} {kws : List Keyword} {ρ : En} {z z1 z2 : Γ.Z} {d : D} {ds ds' : List D} {fs : List (Str × D)} {pos pos' p kpos apos : Pos} {x m : Str} {nm : Option Str} {Ci : Addr}
theorem k_nil : XKw X Γ [] ρ z [] z := fun σ B H Q S q => kOf pk_nil (q [] B H (.refl S.wf.sub) S.wf.z .nil)
theorem k_cons (ha : XE X Γ a ρ z d z1) (hr : XKw X Γ kws ρ z1 ds z2) : XKw X Γ (⟨nm, a, kpos⟩ :: kws) ρ z (d :: ds) z2 := fun σ B H Q S q => by
  refine kOf (pk_cons peS pkS) (ha σ B H _ S fun v B1 H1 t1 p1 r1 => ?_)
  exact hr σ B1 H1 _ (S.stepM t1 p1) fun vs B2 H2 t2 p2 r2 => q _ B2 H2 (t1.trans t2) p2 (.cons (r1.mono t2.eB) r2)
/-- e.f -/
theorem x_fld {f : Str} (C : Cxt X N sc P w K mg base k) (c : Cls K Ci) (n : NoAttr K Ci f) (h : XE X Γ e ρ z (.ins Ci fs) z1) (hf : fs.lookup f = some d)
    (hb : attributeBase e f X.env (eval e X.env) = eval e X.env := by rfl) : XE X Γ (.Attribute e f pos) ρ z d z1 := fun σ B H Q S q => by
  have hK := C.hK
  subst hK
  refine eOf (pe_fld peS hb) (h σ B H _ S fun v B1 H1 t1 p1 r1 => ?_)
  cases r1 with
  | ins e1 r =>
    obtain ⟨u, hu, ru⟩ := r.look hf
    exact ⟨_, _, _, _, u, rfl, t1.sub _ _ e1, c, n, hu, q u B1 H1 t1 p1 ru⟩
/-- o.m(e, ..) -/
theorem x_meth {jl n : Nat} {f : Addr} {fd : FuncData} {ps : List Str} {fr : List D → D → Prop} (C : Cxt X N sc P w K mg base k) (c : Cls K Ci) (hm : Meth K Ci m f) (ok : FnOk P w K mg base CX0 jl f fd ps (spD K n fr)) (hb : Binds K fd ps [])
    (ho : XE X Γ o ρ z (.ins Ci fs) z1) (ha : XA X Γ (e :: es) ρ z1 ds z2) (hno : fs.lookup m = none) (hf : fr (.ins Ci fs :: ds) d) (hn : ds.length + 1 = n := by rfl) (hj : jl ≤ k := by decide)
    (he : starEach (e :: es) X.env = (false, eval e X.env) :: starEach es X.env := by rfl) (hpl : (backTo pos (starEach es X.env)).any (·.1) = false := by rfl) {pl : Sem Bool}
    (ht : eval (.Call (.Attribute o m apos) (e :: es) [] pos) X.env = (do
      let ov ← eval o X.env
      standAt apos.atName
      let (f, first) ← holding [ov] (getMethod ov m pl)
      callWith pos f first (backTo pos (starEach (e :: es) X.env)) (backToKw pos (keywordEach [] X.env))) := by rfl) :
    XE X Γ (.Call (.Attribute o m apos) (e :: es) [] pos) ρ z d z2 := fun σ B H Q S q => by
  have C' := C
  obtain ⟨hP, hw, hK, hmg, hbs, _, _, _, _, _, room⟩ := C'
  subst hP hw hK hmg hbs
  refine eOf (pe_meth (pl := pl) peS c hm (ok.mono hj) room hb .nil pass0 paS he hpl ht) (ho σ B H _ S fun v B1 H1 t1 p1 r1 => ?_)
  cases r1 with
  | @ins y _ dy us _ e1 r =>
    refine ⟨_, _, _, rfl, t1.sub _ _ e1, r.lookN hno, ha σ B1 H1 _ (S.stepM t1 p1) fun vs B2 H2 t2 p2 r2 => ?_⟩
    have r3 : RepAll X.K B2 (.ref y :: (vs ++ [])) (.ins Ci fs :: ds) := by
      rw [List.append_nil]
      exact .cons (.ins (t2.eB _ _ e1) (RepFs.mono t2.eB r)) r2
    exact ⟨by rw [r3.len]; exact hn, _, d, B2, hf, t2.sub, ((S.stepM t1 p1).stepM t2 p2).wf.gd, r3, fun v B3 H3 t3 r4 => q v B3 H3 ((t1.trans t2).trans (.of t3)) (((S.stepM t1 p1).stepM t2 p2).zp t3) r4⟩
/-- o.m() -/
theorem x_meth0 {jl : Nat} {f : Addr} {fd : FuncData} {ps : List Str} {fr : List D → D → Prop} (C : Cxt X N sc P w K mg base k) (c : Cls K Ci) (hm : Meth K Ci m f) (ok : FnOk P w K mg base CX0 jl f fd ps (spD K 1 fr)) (hb : Binds K fd ps [])
    (ho : XE X Γ o ρ z (.ins Ci fs) z1) (hno : fs.lookup m = none) (hf : fr [.ins Ci fs] d) (hj : jl ≤ k := by decide) {pl : Sem Bool}
    (ht : eval (.Call (.Attribute o m apos) [] [] pos) X.env = (do
      let ov ← eval o X.env
      standAt apos.atName
      let (f, first) ← holding [ov] (getMethod ov m pl)
      callWith pos f first (backTo pos (starEach [] X.env)) (backToKw pos (keywordEach [] X.env))) := by rfl) :
    XE X Γ (.Call (.Attribute o m apos) [] [] pos) ρ z d z1 := fun σ B H Q S q => by
  have C' := C
  obtain ⟨hP, hw, hK, hmg, hbs, _, _, _, _, _, room⟩ := C'
  subst hP hw hK hmg hbs
  refine eOf (pe_meth0 (pl := pl) peS c hm (ok.mono hj) room hb .nil pass0 ht) (ho σ B H _ S fun v B1 H1 t1 p1 r1 => ?_)
  have r1' := r1
  cases r1 with
  | @ins y _ dy us _ e1 r =>
    refine ⟨_, _, _, rfl, t1.sub _ _ e1, r.lookN hno, ?_⟩
    have r3 : RepAll X.K B1 (.ref y :: ([] ++ [])) [.ins Ci fs] := .cons r1' .nil
    exact ⟨rfl, _, d, B1, hf, t1.sub, (S.stepM t1 p1).wf.gd, r3, fun v B3 H3 t3 r4 => q v B3 H3 (t1.trans (.of t3)) ((S.stepM t1 p1).zp t3) r4⟩
/-- C(k = e, ..): a new instance, which is data -/
theorem x_makeK {jl n : Nat} {fi : Addr} {fd : FuncData} {ps ks : List Str} {fr : List D → List (Str × D) → Prop} {g : List Value → List Value → List Value} {gV : List V → List V → List V} (C : Cxt X N sc P w K mg base (k + 1)) (M : Mk K Ci fi)
    (ok : FnOk P w K mg base CX0 jl fi fd ps (spI K Ci n fr)) (hm : mg x = some (.ref Ci)) (hb : KBn K fd ps 1 ks g gV) (hg : GlS sc x) (hk : XKw X Γ kws ρ z ds z1) (hf : fr ds' fs)
    (hgv : ∀ B y vs, RepAll K B vs ds → ∃ vs', gV [.ref y] vs = .ref y :: vs' ∧ RepAll K B vs' ds') (hl : ds.length = ks.length := by rfl) (hn : ds'.length = n := by rfl) (hj : jl ≤ k := by decide)
    (hall : (backToKw pos (keywordEach kws X.env)).all (·.1.isSome) = true := by rfl) (hks : (backToKw pos (keywordEach kws X.env)).filterMap (·.1) = ks := by rfl) (hdb : (x == ("__debug__" : Str)) = false := by decide)
    (hpl : ((backTo pos (starEach [] X.env)).any (·.1) || (backToKw pos (keywordEach kws X.env)).any (·.1.isNone)) = false := by rfl) :
    XE X Γ (.Call (.Name x p) [] kws pos) ρ z (.ins Ci fs) z1 := fun σ B H Q S q => by
  have C' := C
  obtain ⟨hP, hw, hK, hmg, hbs, _, _, _, _, _, room⟩ := C'
  subst hP hw hK hmg hbs
  refine eOf (pe_makeK0 M (ok.mono hj) room (C.gl hg) hm hb pass0 pkS hall hks hdb hpl) (hk σ B H _ S fun vs B2 H2 t2 p2 r2 => ?_)
  refine ⟨rfl, by rw [r2.len]; exact hl, fun y dx h1 h2 hne => ?_⟩
  obtain ⟨vs', e1, r3⟩ := hgv B2 y vs r2
  rw [e1]
  have S2 := S.stepM t2 p2
  have b1 : B2 y = none := by
    cases e : B2 y with
    | none => rfl
    | some o => rw [t2.sub _ _ e] at h1; cases h1
  have b2 : B2 dx = none := by
    cases e : B2 dx with
    | none => rfl
    | some o => rw [t2.sub _ _ e] at h2; cases h2
  have eE : Ex H2 (upd (upd H2 dx (.own y)) y (.ins Ci dx [])) := fun a o e => by
    rw [upd_ne (ne_of_none e h1), upd_ne (ne_of_none e h2)]; exact e
  refine ⟨by rw [List.length_cons, r3.len, hn], y, dx, vs', ds', fs, B2, rfl, hf, t2.sub.trans eE, S2.wf.gd.ext eE, b1, upd_same, r3, fun B3 H3 t3 q3 => ⟨rfl, ?_⟩⟩
  obtain ⟨b3, dx', ws, hy, rw_⟩ := q3
  have n1 : ∀ a, H2 a ≠ none → a ≠ y := fun a h e => h (by rw [e]; exact h1)
  have n2 : ∀ a, H2 a ≠ none → (upd (upd H2 dx (.own y)) y (.ins Ci dx [])) a ≠ none := fun a h => eE.ne h
  have t4 : Stp B2 H2 (upd B3 y (.ins Ci dx' ws)) H3 := ⟨t3.eB.trans (Ex.new b3), fun a o e n => t3.eH a o (n1 a (some_ne e)) (eE a o e) n, fun a h => t3.eM a (eE.ne h), fun a o e => by
      by_cases q : a = y
      · rw [q, upd_same] at e
        rw [q, hy, ← e]
      · rw [upd_ne q] at e
        exact t3.sub a o e, fun a h => by
      rw [upd_ne (n1 a h)]
      exact t3.fr a (n2 a h), fun g => (t3.gd (g.ext eE)).frz rfl⟩
  exact q (.ref y) _ H3 (t2.trans (.of t4)) (S2.zp t4) (.ins upd_same (RepFs.mono (Ex.new b3) rw_))
/-- self.f = e, in __init__ -/
theorem xs_fld {f : Str} {y : Addr} {B0 H0 : Hp} {h0 : H0 y ≠ none} {z z1 z2 : List (Str × D)} {Po : Post (gN K Ci y B0 H0 h0)} (C : Cxt X N sc P w K mg base k) (c : Cls K Ci) (n : NoAttr K Ci f)
    (he : XE X (gN K Ci y B0 H0 h0) e ρ z d z1) (ho : XE X (gN K Ci y B0 H0 h0) o ρ z1 (.raw (.ref y)) z2) (q : Po.nx ρ (putD f d z2)) (hl : z2.length < 1000 := by decide)
    (hs : swapsWith e (some (.Attribute o f pos')) pos.line X.env = pure false := by rfl) : XS X (gN K Ci y B0 H0 h0) (.Assign [.Attribute o f pos'] e pos) ρ z Po := fun σ B H E S l => by
  have hK := C.hK
  subst hK
  refine sOf (ps_fld peS peS hs) (he σ B H _ S fun v B1 H1 t1 p1 r1 => ?_)
  refine ho σ B1 H1 _ (S.stepM t1 p1) fun v2 B2 H2 t2 p2 r2 => ?_
  cases r2
  have S2 := (S.stepM t1 p1).stepM t2 p2
  obtain ⟨hb, dx, vs, e1, r⟩ := p2
  refine ⟨y, Ci, dx, vs, rfl, e1, c, n, by rw [r.len]; exact hl, ?_⟩
  have t3 : StpM (fun a => a = y) B2 H2 B2 (upd H2 y (.ins Ci dx (putF f v vs))) := ⟨Ex.refl _, fun a o m h _ => by rw [upd_ne m]; exact h, fun a h => by
      by_cases q : a = y
      · rw [q, upd_same]; simp
      · rw [upd_ne q]; exact h, fun a o h => by rw [upd_ne (ne_of_none h hb)]; exact S2.wf.sub a o h, fun _ _ => rfl, fun g => g.chg e1 rfl⟩
  exact l.nx _ _ _ B2 _ (t1.eB.trans t2.eB) (S2.stepM t3 ⟨hb, dx, _, upd_same, r.put (r1.mono t2.eB)⟩) q
end
end DL

namespace DL
open PySem PySem.Spec PyProof.Rows L2
variable [TB]
/-! ### chained comparisons of ints -/
section
variable {X : Cx} {a b c d : Expr} {op op' op2 : CmpOp} {r r' r2 : R2} {ta tb tc td : TE} {pos : Pos}
def tCh3 (r r' r2 : R2) (ta tb tc td : TE) : TE := fun σ H Q => ta σ H fun x H1 => tb σ H1 fun y H2 => r x y H2 fun z H3 => ∃ k, z = .bl k ∧
  (if k = true then tc σ H3 fun u H4 => r' y u H4 fun z' H5 => ∃ k', z' = .bl k' ∧ (if k' = true then td σ H5 fun v H6 => r2 u v H6 Q else Q (.bl false) H5) else Q (.bl false) H3)
theorem pe_ch3 (ho : OpR X (compareOp op) r) (ho' : OpR X (compareOp op') r') (ho2 : OpR X (compareOp op2) r2) (ha : PE X a ta) (hb : PE X b tb) (hc : PE X c tc) (hd : PE X d td)
    (hm : lastMarks [op, op', op2] [b, c, d] = false := by with_unfolding_all rfl) : PE X (.Compare a [op, op', op2] [b, c, d] pos) (tCh3 r r' r2 ta tb tc td) := by
  refine ⟨fun pins s σ H Q I h => ?_⟩
  refine Compare_chain (thn (ha.run pins s σ H _ I h) fun v s1 ⟨x, H1, I1, r1, q1⟩ => chain_link (thn (hb.run pins s1 σ H1 _ I1 q1) fun u s2 ⟨y, H2, I2, r2, q2⟩ =>
    thn (ho pins s2 σ H2 x y v u _ I2 r1 r2 q2) fun d s3 ⟨z, H3, I3, r3, k, e, q3⟩ => ?_)) hm
  subst e
  cases r3
  refine wpAny_truthy_bool ?_
  cases k with
  | false => exact ite_ff ⟨.bl false, H3, I3, rfl, q3⟩
  | true =>
    refine ite_tt (chain_link (thn (hc.run pins s3 σ H3 _ I3 q3) fun u4 s4 ⟨z4, H4, I4, r4, q4⟩ => thn (ho' pins s4 σ H4 y z4 u u4 _ I4 r2 r4 q4) fun d5 s5 ⟨z5, H5, I5, r5, k5, e5, q5⟩ => ?_))
    subst e5
    cases r5
    refine wpAny_truthy_bool ?_
    cases k5 with
    | false => exact ite_ff ⟨.bl false, H5, I5, rfl, q5⟩
    | true => exact ite_tt (chain_last (thn (hd.run pins s5 σ H5 _ I5 q5) fun u6 s6 ⟨z6, H6, I6, r6, q6⟩ => ho2 pins s6 σ H6 z4 z6 u4 u6 Q I6 r4 r6 q6))
end
section
variable {X : Cx} {Γ : G} {a b c e : Expr} {op op' op2 : CmpOp} {ρ : En} {z : Γ.Z} {pos : Pos} {i j l m : Int} {g g' g2 : Int → Int → Bool}
theorem x_ch2 (ho : OpR X (compareOp op) (rI0 fun i j => V.bl (g i j))) (ho' : OpR X (compareOp op') (rI0 fun i j => V.bl (g' i j))) (ha : XE X Γ a ρ z (.int i) z) (hb : XE X Γ b ρ z (.int j) z) (hc : XE X Γ c ρ z (.int l) z)
    (hm : lastMarks [op, op'] [b, c] = false := by with_unfolding_all rfl) : XE X Γ (.Compare a [op, op'] [b, c] pos) ρ z (.bl (g i j && g' j l)) z := fun σ B H Q S q => by
  refine eOf (pe_chain ho ho' peS peS peS hm) (ha σ B H _ S fun v B1 H1 t1 p1 r1 => ?_)
  have S1 := S.stepM t1 p1
  refine hb σ B1 H1 _ S1 fun u B2 H2 t2 p2 r2 => ?_
  have S2 := S1.stepM t2 p2
  cases r1; cases r2
  refine ⟨i, j, rfl, rfl, g i j, rfl, ?_⟩
  cases hg : g i j with
  | true =>
    rw [if_pos rfl]
    refine hc σ B2 H2 _ S2 fun w B3 H3 t3 p3 r3 => ?_
    cases r3
    exact ⟨j, l, rfl, rfl, q _ B3 H3 ((t1.trans t2).trans t3) p3 (by rw [hg, Bool.true_and]; exact .bl _)⟩
  | false =>
    rw [if_neg (by decide)]
    exact q _ B2 H2 (t1.trans t2) p2 (by rw [hg, Bool.false_and]; exact .bl _)
theorem x_ch3 (ho : OpR X (compareOp op) (rI0 fun i j => V.bl (g i j))) (ho' : OpR X (compareOp op') (rI0 fun i j => V.bl (g' i j))) (ho2 : OpR X (compareOp op2) (rI0 fun i j => V.bl (g2 i j)))
    (ha : XE X Γ a ρ z (.int i) z) (hb : XE X Γ b ρ z (.int j) z) (hc : XE X Γ c ρ z (.int l) z) (he : XE X Γ e ρ z (.int m) z)
    (hm : lastMarks [op, op', op2] [b, c, e] = false := by with_unfolding_all rfl) : XE X Γ (.Compare a [op, op', op2] [b, c, e] pos) ρ z (.bl (g i j && (g' j l && g2 l m))) z := fun σ B H Q S q => by
  refine eOf (pe_ch3 ho ho' ho2 peS peS peS peS hm) (ha σ B H _ S fun v B1 H1 t1 p1 r1 => ?_)
  have S1 := S.stepM t1 p1
  refine hb σ B1 H1 _ S1 fun u B2 H2 t2 p2 r2 => ?_
  have S2 := S1.stepM t2 p2
  cases r1; cases r2
  refine ⟨i, j, rfl, rfl, g i j, rfl, ?_⟩
  cases hg : g i j with
  | true =>
    rw [if_pos rfl]
    refine hc σ B2 H2 _ S2 fun w B3 H3 t3 p3 r3 => ?_
    have S3 := S2.stepM t3 p3
    cases r3
    refine ⟨j, l, rfl, rfl, g' j l, rfl, ?_⟩
    cases hg' : g' j l with
    | true =>
      rw [if_pos rfl]
      refine he σ B3 H3 _ S3 fun w B4 H4 t4 p4 r4 => ?_
      cases r4
      exact ⟨l, m, rfl, rfl, q _ B4 H4 (((t1.trans t2).trans t3).trans t4) p4 (by rw [hg, hg', Bool.true_and, Bool.true_and]; exact .bl _)⟩
    | false =>
      rw [if_neg (by decide)]
      exact q _ B3 H3 ((t1.trans t2).trans t3) p3 (by rw [hg, hg', Bool.true_and, Bool.false_and]; exact .bl _)
  | false =>
    rw [if_neg (by decide)]
    exact q _ B2 H2 (t1.trans t2) p2 (by rw [hg, Bool.false_and]; exact .bl _)
end

/-! ### numbers of 60 bits -/
theorem NB60 {i : Int} (l : -(2 ^ 60 : Int) < i) (u : i < 2 ^ 60) : NB 60 i := NB.of l u
theorem cmul_of {i j : Int} (l : -(2 ^ 60 : Int) < i) (u : i < 2 ^ 60) (l2 : -(2 ^ 60 : Int) < j) (u2 : j < 2 ^ 60) : CMulW i j := NB.cmul (NB60 l u) (NB60 l2 u2) (by decide)
theorem cdiv_of {i j : Int} (h : 0 < j) (u : j < 2 ^ 60) : CDivW i j := by
  refine ⟨h, Nat.lt_of_lt_of_le (m := 60) ((Nat.log2_lt (by omega)).mpr (by omega)) (by decide)⟩
/-! ### fields by their place -/
theorem putD_new {f : Str} {d : D} (ks : List Str) : ∀ {fs : List (Str × D)}, fs.map (·.1) = ks → ks.contains f = false → putD f d fs = fs ++ [(f, d)] := by
  intro fs hk h
  subst hk
  induction fs with
  | nil => rfl
  | cons p fs ih =>
    obtain ⟨g, e⟩ := p
    rw [List.map_cons, List.contains_cons, Bool.or_eq_false_iff] at h
    show (if g = f then (g, d) :: fs else (g, e) :: putD f d fs) = _
    rw [if_neg (fun q => by rw [q] at h; simp at h), ih h.2]
    rfl
theorem look_at {f : Str} {d : D} (ks : List Str) (n : Nat) : ∀ {fs : List (Str × D)}, fs.map (·.1) = ks → ks.findIdx? (· == f) = some n → (fs.map (·.2))[n]? = some d → fs.lookup f = some d := by
  intro fs hk h hv
  subst hk
  induction fs generalizing n with
  | nil => cases h
  | cons p fs ih =>
    obtain ⟨g, e⟩ := p
    rw [List.map_cons, List.findIdx?_cons] at h
    rw [List.lookup_cons]
    cases q : g == f with
    | true =>
      have h : (if (g == f) = true then some 0 else _) = some n := h
      rw [q, if_pos rfl] at h
      cases h
      have q' : (f == g) = true := by rw [beq_iff_eq] at q ⊢; exact q.symm
      rw [q']
      exact hv
    | false =>
      have h : (if (g == f) = true then some 0 else _) = some n := h
      rw [q, if_neg (by decide)] at h
      have q' : (f == g) = false := by
        cases r : f == g with
        | true => rw [beq_iff_eq] at r; rw [r] at q; simp at q
        | false => rfl
      rw [q']
      cases hm : (fs.map (·.1)).findIdx? (· == f) with
      | none => rw [hm] at h; cases h
      | some m =>
        rw [hm] at h
        cases h
        exact ih m (by simpa using hv) hm
theorem look_no {f : Str} (ks : List Str) : ∀ {fs : List (Str × D)}, fs.map (·.1) = ks → ks.contains f = false → fs.lookup f = none := by
  intro fs hk h
  subst hk
  induction fs with
  | nil => rfl
  | cons p fs ih =>
    obtain ⟨g, e⟩ := p
    rw [List.map_cons, List.contains_cons, Bool.or_eq_false_iff] at h
    rw [List.lookup_cons, h.1]
    exact ih h.2
section
variable {X : Cx} {N : List Str} {sc : Scope} {P : Program} {w : World} {K : PySem.W.Frag} {mg : Str → Option Value} {base : Heap} {k : Nat}
variable {e o : Expr} {ρ : En} {d : D} {pos pos' : Pos} {Ci : Addr}
/-- self.f = e, a new field -/
theorem xs_fldN {f : Str} {y : Addr} {B0 H0 : Hp} {h0 : H0 y ≠ none} {z z1 z2 : List (Str × D)} {Po : Post (gN K Ci y B0 H0 h0)} (ks : List Str) (C : Cxt X N sc P w K mg base k) (c : Cls K Ci) (n : NoAttr K Ci f)
    (he : XE X (gN K Ci y B0 H0 h0) e ρ z d z1) (ho : XE X (gN K Ci y B0 H0 h0) o ρ z1 (.raw (.ref y)) z2) (q : Po.nx ρ (z2 ++ [(f, d)])) (hk : z2.map (·.1) = ks := by rfl) (hc : ks.contains f = false := by decide +kernel) (hl : ks.length < 1000 := by decide +kernel)
    (hs : swapsWith e (some (.Attribute o f pos')) pos.line X.env = pure false := by rfl) : XS X (gN K Ci y B0 H0 h0) (.Assign [.Attribute o f pos'] e pos) ρ z Po := by
  refine xs_fld C c n he ho ?_ (by rw [← hk, List.length_map] at hl; exact hl) hs
  rw [putD_new ks hk hc]
  exact q
end
end DL

namespace DL
open PySem PySem.Spec PyProof.Rows L2
variable [TB]
/-! ### ranges as values -/
section
variable {X : Cx}
theorem cr_range1 : CallR X (.type "range") (fun vs H Q => ∃ j, vs = [V.int j] ∧ ∀ p, H p = none → Q (.ref p) (upd H p (.rng 0 j))) := by
  intro pins s σ H vs us Q I r h
  obtain ⟨j, rfl, q⟩ := h
  cases r with
  | cons r rr =>
    cases rr
    obtain ⟨t, rfl⟩ := r
    refine call_range_1 ⟨.ref s.heap.objs.size, upd H s.heap.objs.size (.rng 0 j), I.laid (t' := s.toks + 2) (fun b o e => Heap.get?_push_of_some _ e) (Nat.le_refl _) ?_, rfl, q _ (I.hok.fresh (Nat.le_refl _))⟩
    exact ⟨_, _, _, Heap.get?_push_size _ rfl⟩
def iRngV (ta : TE) : TI := fun σ H R => ta σ H fun x H1 => ∃ a lo hi, x = .ref a ∧ H1 a = some (.rng lo hi) ∧ (-(2 ^ 62) ≤ lo ∧ lo < 2 ^ 62 ∧ -(2 ^ 62) ≤ hi ∧ hi < 2 ^ 62) ∧ R (Itr lo (hi - lo).toNat) H1
theorem pi_rngV {tg l : Expr} {tl : TE} (hl : PE X l tl) : PI X tg l (iRngV tl) := by
  refine ⟨fun pins s σ H R I h => ?_⟩
  refine thn (hl.run pins s σ H _ I h) fun v s1 ⟨x, H1, I1, r1, q1⟩ => ?_
  obtain ⟨a, lo, hi, e, he, ⟨h1, h2, h3, h4⟩, q⟩ := q1
  subst e
  obtain rfl : v = Value.ref a := r1
  obtain ⟨t, u, w, ho⟩ := I1.hok a _ he
  refine wpAny_pyIter_range (show IsRange s1.heap a lo hi 1 t u w from ho) (small_one h1 h2 h3 h4) ?_
  refine ⟨s1.heap.objs.size, [s1.heap.objs.size], _, _, H1, rfl, I1.kept (t' := s1.toks) fun b o e => Heap.get?_push_of_some _ e, turn_range _ lo (hi - lo).toNat, ?_, fun b hb => ?_, q⟩
  · have e1 : lo + ((0 : Nat) : Int) * 1 = lo := by simp
    have e2 : (((hi - lo).toNat : Nat) : Int) - ((0 : Nat) : Int) = Builtin.Range.rangeSize lo hi 1 := by rw [rangeSize_one]; split <;> omega
    show IsRangeIter _ _ (lo + ((0 : Nat) : Int) * 1) ((((hi - lo).toNat : Nat) : Int) - ((0 : Nat) : Int)) 1
    rw [e1, e2]
    exact Heap.get?_push_size _ rfl
  · have e : b = s1.heap.objs.size := by simpa using hb
    subst e
    exact I1.fpOk (Nat.le_refl _) (I1.hok.fresh (Nat.le_refl _))
end
section
variable {X : Cx} {Γ : G} {N : List Str} {sc : Scope} {P : Program} {w : World} {K : PySem.W.Frag} {mg : Str → Option Value} {base : Heap} {k : Nat}
variable {a b tg e : Expr} {ρ : En} {z z1 z2 : Γ.Z} {pos p : Pos} {i j lo hi : Int}
theorem x_range1 (C : Cxt X N sc P w K mg base k) (hg : GlS sc "range") (hm : mg "range" = none) (ha : XE X Γ a ρ z (.int j) z1) (hs : starEach [a] X.env = (false, eval a X.env) :: starEach [] X.env := by rfl) :
    XE X Γ (.Call (.Name "range" p) [a] [] pos) ρ z (.rng 0 j) z1 := x_ct C cr_range1 hg hm boot_range (a_cons ha a_nil hs) (fun vs B H Q e r q => by
  obtain ⟨v, hvs, r1⟩ := rep1 r
  subst hvs
  cases r1
  exact ⟨j, rfl, fun p hp => q _ _ _ (.new (o := .rng 0 j) e hp) (.rng upd_same)⟩) (by decide) (by decide) hs
theorem x_range2 (C : Cxt X N sc P w K mg base k) (hg : GlS sc "range") (hm : mg "range" = none) (ha : XE X Γ a ρ z (.int i) z1) (hb : XE X Γ b ρ z1 (.int j) z2) (hs : starEach [a, b] X.env = (false, eval a X.env) :: starEach [b] X.env := by rfl)
    (hs2 : starEach [b] X.env = (false, eval b X.env) :: starEach [] X.env := by rfl) (hpl : (backTo pos (starEach [b] X.env)).any (·.1) = false := by rfl) :
    XE X Γ (.Call (.Name "range" p) [a, b] [] pos) ρ z (.rng i j) z2 := x_ct C cr_range2 hg hm boot_range (a_cons ha (a_cons hb a_nil hs2) hs) (fun vs B H Q e r q => by
  obtain ⟨v, u, hvs, r1, r2⟩ := rep2 r
  subst hvs
  cases r1; cases r2
  exact ⟨i, j, rfl, fun p hp => q _ _ _ (.new (o := .rng i j) e hp) (.rng upd_same)⟩) (by decide) (by decide) hs hpl
theorem xi_rng (h : XE X Γ e ρ z (.rng lo hi) z1) (hb : (-(2 ^ 62) ≤ lo ∧ lo < 2 ^ 62) ∧ -(2 ^ 62) ≤ hi ∧ hi < 2 ^ 62) : XI X Γ tg e ρ z (hi - lo).toNat (fun m => .int (lo + (m : Int))) z1 := fun σ B H R S q => by
  refine iOf (pi_rngV peS) (h σ B H _ S fun v B1 H1 t1 p1 r1 => ?_)
  cases r1 with
  | rng e1 =>
    refine ⟨_, lo, hi, rfl, t1.sub _ _ e1, ⟨hb.1.1, hb.1.2, hb.2.1, hb.2.2⟩, q _ B1 H1 t1 p1 (fun _ _ _ _ => Nat.le_refl _) (fun _ _ _ hm _ _ => hm) (fun m B2 H2 x H3 hm e1 e2 y => ?_)⟩
    obtain ⟨rfl, rfl⟩ := y
    exact ⟨B2, .refl e2, .int _⟩
/-- i in a range -/
theorem x_inR (ha : XE X Γ a ρ z (.int i) z1) (hb : XE X Γ b ρ z1 (.rng lo hi) z2) (hm : behindInMarks .In b = false := by with_unfolding_all rfl) : XE X Γ (.Compare a [.In] [b] pos) ρ z (.bl (decide (lo ≤ i ∧ i < hi))) z2 :=
  x_cmp op_in_rng hm ha hb fun x y B H Q e rx ry q => by
    cases rx
    cases ry with
    | rng e1 => exact ⟨i, _, lo, hi, rfl, rfl, e _ _ e1, q _ B H (.refl e) (.bl _)⟩
end

/-! ### a comprehension of two clauses -/
def ownFree : En → Bool
  | [] => true
  | .ob _ :: _ => false
  | _ :: r => ownFree r
theorem ownFree_no : ∀ {ρ : En} {i : Nat} {es : Ob}, ownFree ρ = true → ρ[i]? ≠ some (.ob es)
  | [], i, es, _ => by simp
  | .ob _ :: _, i, es, h => nomatch h
  | .no :: r, 0, es, _ => by simp
  | .dat _ :: r, 0, es, _ => by simp
  | .hdl _ :: r, 0, es, _ => by simp
  | .no :: r, i + 1, es, h => by simpa using ownFree_no (ρ := r) (i := i) (es := es) h
  | .dat _ :: r, i + 1, es, h => by simpa using ownFree_no (ρ := r) (i := i) (es := es) h
  | .hdl _ :: r, i + 1, es, h => by simpa using ownFree_no (ρ := r) (i := i) (es := es) h
theorem Sat.chg {K : PySem.W.Frag} {Γ : G} {ρ : En} {z : Γ.Z} {σ : L2.St} {B H : Hp} {D : Addr} {o : HO} (S : Sat K Γ ρ z σ B H) (hf : ownFree ρ = true) (hb : B D = none) (h0 : Γ.H0 D = none) (hm : ¬ Γ.M D) {u : HO} (hu : H D = some u) (hn : nt2 u = true) : Sat K Γ ρ z σ B (upd H D o) := by
  refine ⟨⟨fun a u h => ?_, S.wf.eB, fun a u m h n => ?_, fun a h => ?_, S.wf.fr, ?_, S.wf.gd.chg hu hn⟩, S.len, fun i s h => ?_, S.dist⟩
  · rw [upd_ne (ne_of_none h hb)]
    exact S.wf.sub a u h
  · rw [upd_ne (ne_of_none h h0)]
    exact S.wf.eH a u m h n
  · rw [upd_ne (fun q : a = D => h (by rw [q]; exact h0))]
    exact S.wf.eM a h
  · exact Γ.zfr _ _ _ _ _ S.wf.z (Ex.refl _) (fun a o m h _ => by rw [upd_ne (fun q : a = D => hm (by rw [← q]; exact m))]; exact h) fun a m => (Γ.znb _ _ _ S.wf.z a m).1
  · obtain ⟨x, e, kk⟩ := S.sl i s h
    refine ⟨x, e, ?_⟩
    cases s with
    | no => trivial
    | dat d => exact kk
    | ob es => exact absurd h (ownFree_no hf)
    | hdl m => exact kk
structure Lc2Step (N : List Str) (sc : Scope) (P : Program) (w : World) (K : PySem.W.Frag) (mg : Str → Option Value) (base : Heap) (k : Nat) (Γ : G) (tg elt tg1 iter1 : Expr) (ifs ifs1 : List Expr) (vs vs1 : List Nat) (ρ : En) (d : D) (z : Γ.Z) (A A' : List D) : Prop where
  ex : ∃ (ns : List Nat) (ρ2 : En) (t : Bool), (∀ n ∈ ns, n ∈ vs) ∧ ownFree ρ2 = true ∧ (∀ Xb : Cx, Cxt Xb N sc P w K mg base k → XG Xb Γ tg ns d (wipeE ρ vs) ρ2 ∧ XTs Xb Γ ifs ρ2 z t z) ∧
    (t = true → ∃ (n1 : Nat) (item1 : Nat → D) (A1 : Nat → List D), A1 0 = A ∧ A1 n1 = A' ∧ (∀ Xb : Cx, Cxt Xb N sc P w K mg base k → XI Xb Γ tg1 iter1 ρ2 z n1 item1 z) ∧
      (∀ j, j < n1 → LcStep N sc P w K mg base k Γ tg1 elt ifs1 vs1 ρ2 (item1 j) z z (A1 j) (A1 (j + 1))) ∧ ∀ j, j < n1 → (A1 j).length < sizeLine) ∧ (t = false → A' = A)
section
variable {X : Cx} {Γ : G} {N : List Str} {sc : Scope} {P : Program} {w : World} {K : PySem.W.Frag} {mg : Str → Option Value} {base : Heap} {k : Nat}
variable {elt tg iter tg1 iter1 : Expr} {ifs ifs1 : List Expr} {ρ : En} {z z1 : Γ.Z}
theorem lc2_read {scope : Scope} {own : List (Str × Nat)} {vs1 : List Nat} {n : Nat} {item : Nat → D} (C : Cxt X N sc P w K mg base k) (hi : XI X Γ tg iter ρ z n item z1) (A : Nat → List D) (hA : A 0 = [])
    (step : ∀ m, m < n → Lc2Step N (relS scope sc) P w K mg base k Γ tg elt tg1 iter1 ifs ifs1 (own.map (·.2)) vs1 ρ (item m) z1 (A m) (A (m + 1)))
    (σ : L2.St) (B H : Hp) (Q : VK) (S : Sat X.K Γ ρ z σ B H)
    (q : ∀ p vs B' H', StpM Γ.M B H B' H' → Γ.zp z1 B' H' → H p = none → B' p = none → H' p = some (.lst vs) → RepAll X.K B' vs (A n) → Q (.ref p) H') :
    tLc2 (semI X tg iter) (fun v σ H Q => ∀ s H0 Ca cl fp, semG (X.blk s H0 scope (compEnvC scope cl Ca X.env) fp) tg v σ H Q) (fun σ H Q => ∀ s H0 Ca cl fp, semTs (X.blk s H0 scope (compEnvC scope cl Ca X.env) fp) ifs σ H Q)
      (fun σ H R => ∀ s H0 Ca cl fp, semI (X.blk s H0 scope (compEnvC scope cl Ca X.env) fp) tg1 iter1 σ H R) (fun v σ H Q => ∀ s H0 Ca cl fp, semG (X.blk s H0 scope (compEnvC scope cl Ca X.env) fp) tg1 v σ H Q)
      (fun σ H Q => ∀ s H0 Ca cl fp, semTs (X.blk s H0 scope (compEnvC scope cl Ca X.env) fp) ifs1 σ H Q) (fun σ H Q => ∀ s H0 Ca cl fp, semE (X.blk s H0 scope (compEnvC scope cl Ca X.env) fp) elt σ H Q) (own.map (·.2)) vs1 σ H Q := by
  refine hi σ B H _ S fun J B1 H1 t1 p1 hstop hgo hyld => fun D hD => ?_
  have S1 := S.stepM t1 p1
  have nM : ¬ Γ.M D := fun m => (Γ.znb _ _ _ p1 D m).2 hD
  have g0 : Γ.H0 D = none := S1.h0 hD
  have h0 : H D = none := by
    cases q : H D with
    | none => rfl
    | some u => exact absurd hD (t1.eM D (some_ne q))
  have hb1 : B1 D = none := by
    cases q : B1 D with
    | none => rfl
    | some u => rw [t1.sub D u q] at hD; cases hD
  have put : ∀ {B2 H2 : Hp} {o u : HO}, StpM Γ.M B1 H1 B2 H2 → Γ.zp z1 B2 H2 → B2 D = none → H2 D = some u → nt2 u = true → StpM Γ.M B1 H1 B2 (upd H2 D o) ∧ Γ.zp z1 B2 (upd H2 D o) := fun {B2 H2 o u} tt pp hb hu hn => by
    refine ⟨⟨tt.eB, fun a o m h n => ?_, fun a h => ?_, fun a o h => ?_, tt.fr, fun g => (tt.gd g).chg hu hn⟩, ?_⟩
    · rw [upd_ne (fun q : a = D => by rw [q, hD] at h; cases h)]
      exact tt.eH a o m h n
    · rw [upd_ne (fun q : a = D => h (by rw [q]; exact hD))]
      exact tt.eM a h
    · rw [upd_ne (fun q : a = D => by rw [q, hb] at h; cases h)]
      exact tt.sub a o h
    · exact Γ.zfr _ _ _ _ _ pp (Ex.refl _) (fun a o m h _ => by rw [upd_ne (fun q : a = D => nM (by rw [← q]; exact m))]; exact h) fun a m => (Γ.znb _ _ _ pp a m).1
  refine ⟨fun i m H' => m = n - i ∧ i ≤ n ∧ ∃ B' vs, StpM Γ.M B1 H1 B' H' ∧ Γ.zp z1 B' H' ∧ B' D = none ∧ H' D = some (.lst vs) ∧ RepAll X.K B' vs (A i), ⟨n, by simp, Nat.zero_le _, B1, [], .of (.newO t1.sub hD), S1.zp (.newO t1.sub hD), hb1, upd_same, by rw [hA]; exact .nil⟩, ?_⟩
  rintro i m H' ⟨rfl, hin, B', vs, t2, p2, hb, hh, r⟩
  by_cases hlt : i < n
  · refine .inr ⟨hgo i B' H' hlt t2.eB t2.sub, fun H2 => ∃ B' vs, StpM Γ.M B1 H1 B' H2 ∧ Γ.zp z1 B' H2 ∧ B' D = none ∧ H2 D = some (.lst vs) ∧ RepAll X.K B' vs (A (i + 1)), fun H2 q => ⟨n - (i + 1), by omega, rfl, hlt, q⟩, fun x H2 y => ?_⟩
    obtain ⟨B3, t3, r3⟩ := hyld i B' H' x H2 hlt t2.eB t2.sub y
    have S3 : Sat X.K Γ ρ z1 σ B3 H2 := (S1.stepM t2 p2).step t3
    have hh2 : H2 D = some (.lst vs) := t3.eH D _ hh
    have hb3 : B3 D = none := (t3.fr D (some_ne hh)).trans hb
    obtain ⟨ns, ρ2, t, hns, hfree, hx, ht, hf⟩ := (step i hlt).ex
    intro s H0 Ca cl fp
    have hx0 := hx _ (C.blk (s := s) (H := H0) (scope := scope) (cl := cl) (Ca := Ca) (fp := fp))
    refine hx0.1 z1 _ B3 H2 x _ (S3.wipe _) r3 fun σ2 S2 w2 => ⟨wipe_sets w2 hns, ?_⟩
    intro s H0 Ca cl fp
    have hx1 := hx _ (C.blk (s := s) (H := H0) (scope := scope) (cl := cl) (Ca := Ca) (fp := fp))
    refine hx1.2 σ2 B3 H2 _ S2 fun B4 H4 t4 p4 => ?_
    have hh4 : H4 D = some (.lst vs) := t4.eH D _ nM hh2
    have hb4 : B4 D = none := (t4.fr D (some_ne hh2)).trans hb3
    have tt4 : StpM Γ.M B1 H1 B4 H4 := (t2.trans (.of t3)).trans t4
    have r4 : RepAll X.K B4 vs (A i) := (r.mono t3.eB).mono t4.eB
    cases t with
    | false =>
      rw [if_neg Bool.false_ne_true]
      exact ⟨B4, vs, tt4, p4, hb4, hh4, by rw [hf rfl]; exact r4⟩
    | true =>
      rw [if_pos rfl]
      obtain ⟨n1, item1, A1, a0, a1, hxi, hst, hln⟩ := ht rfl
      intro s H0 Ca cl fp
      have hx2 := hxi _ (C.blk (s := s) (H := H0) (scope := scope) (cl := cl) (Ca := Ca) (fp := fp))
      refine hx2 σ2 B4 H4 _ (S2.stepM t4 p4) fun J1 B5 H5 t5 p5 hstop1 hgo1 hyld1 => ?_
      have S5 := (S2.stepM t4 p4).stepM t5 p5
      refine ⟨fun j kk H' => kk = n1 - j ∧ j ≤ n1 ∧ ∃ B' us, StpM Γ.M B1 H1 B' H' ∧ Ex B5 B' ∧ Γ.zp z1 B' H' ∧ Sat X.K Γ ρ2 z1 σ2 B' H' ∧ B' D = none ∧ H' D = some (.lst us) ∧ RepAll X.K B' us (A1 j),
        ⟨n1, by simp, Nat.zero_le _, B5, vs, tt4.trans t5, Ex.refl _, p5, S5, (t5.fr D (some_ne hh4)).trans hb4, t5.eH D _ nM hh4, by rw [a0]; exact r4.mono t5.eB⟩, ?_⟩
      rintro j kk H6 ⟨rfl, hjn, B6, us, t6, e6, p6, S6, hb6, hh6, r6⟩
      by_cases hjl : j < n1
      · refine .inr ⟨hgo1 j B6 H6 hjl e6 t6.sub, fun H7 => ∃ B' us, StpM Γ.M B1 H1 B' H7 ∧ Ex B5 B' ∧ Γ.zp z1 B' H7 ∧ Sat X.K Γ ρ2 z1 σ2 B' H7 ∧ B' D = none ∧ H7 D = some (.lst us) ∧ RepAll X.K B' us (A1 (j + 1)), fun H7 q => ⟨n1 - (j + 1), by omega, rfl, hjl, q⟩, fun x1 H7 y1 => ?_⟩
        obtain ⟨B7, t7, r7⟩ := hyld1 j B6 H6 x1 H7 hjl e6 t6.sub y1
        have S7 := S6.step t7
        have hh7 : H7 D = some (.lst us) := t7.eH D _ hh6
        have hb7 : B7 D = none := (t7.fr D (some_ne hh6)).trans hb6
        obtain ⟨ns1, ρ3, tb, zt1, yd, hns1, hx3, ht3, hf3⟩ := (hst j hjl).ex
        intro s H0 Ca cl fp
        have g0' := hx3 _ (C.blk (s := s) (H := H0) (scope := scope) (cl := cl) (Ca := Ca) (fp := fp))
        refine g0'.1 z1 _ B7 H7 x1 _ (S7.wipe _) r7 fun σ3 S8 w8 => ⟨wipe_sets w8 hns1, ?_⟩
        intro s H0 Ca cl fp
        have g1' := hx3 _ (C.blk (s := s) (H := H0) (scope := scope) (cl := cl) (Ca := Ca) (fp := fp))
        refine g1'.2.1 σ3 B7 H7 _ S8 fun B9 H9 t9 p9 => ?_
        have hh9 : H9 D = some (.lst us) := t9.eH D _ nM hh7
        have hb9 : B9 D = none := (t9.fr D (some_ne hh7)).trans hb7
        have tt9 := (t6.trans (.of t7)).trans t9
        have e9 := (e6.trans t7.eB).trans t9.eB
        cases tb with
        | false =>
          rw [if_neg Bool.false_ne_true]
          obtain ⟨f1, f2⟩ := hf3 rfl
          subst f2
          exact ⟨B9, us, tt9, e9, p9, S7.stepM t9 p9, hb9, hh9, by rw [f1]; exact (r6.mono t7.eB).mono t9.eB⟩
        | true =>
          rw [if_pos rfl]
          intro s H0 Ca cl fp
          have g2' := hx3 _ (C.blk (s := s) (H := H0) (scope := scope) (cl := cl) (Ca := Ca) (fp := fp))
          refine g2'.2.2 rfl σ3 B9 H9 _ (S8.stepM t9 p9) fun y BA HA tA pA rA => ?_
          have hhA : HA D = some (.lst us) := tA.eH D _ nM hh9
          have hbA : BA D = none := (tA.fr D (some_ne hh9)).trans hb9
          have ttA := tt9.trans tA
          have SA : Sat X.K Γ ρ2 z1 σ2 BA HA := S7.stepM (t9.trans tA) pA
          obtain ⟨u1, u2⟩ := put (o := .lst (us ++ [y])) ttA pA hbA hhA rfl
          refine ⟨us, hhA, by rw [r6.len]; exact hln j hjl, BA, us ++ [y], u1, e9.trans tA.eB, u2, SA.chg hfree hbA g0 nM hhA rfl, hbA, upd_same, ?_⟩
          rw [ht3 rfl]
          exact (((r6.mono t7.eB).mono t9.eB).mono tA.eB).app (.cons rA .nil)
      · have e : j = n1 := by omega
        subst e
        exact .inl ⟨hstop1 B6 H6 e6 t6.sub, B6, us, t6, p6, hb6, hh6, by rw [← a1]; exact r6⟩
  · have e : i = n := by omega
    subst e
    exact .inl ⟨hstop B' H' t2.eB t2.sub, q D vs B' H' (t1.trans t2) p2 h0 hb hh r⟩
theorem l_lc2 {scope : Scope} {pos : Pos} (own : List (Str × Nat)) (vs1 : List Nat) {n : Nat} {item : Nat → D} (C : Cxt X N sc P w K mg base k) (hok : blkC N sc scope own = true) (hv : ∀ i ∈ vs1, i ∈ own.map (·.2)) (hi : XI X Γ tg iter ρ z n item z1) (A : Nat → List D) (hA : A 0 = [])
    (step : ∀ m, m < n → Lc2Step N (relS scope sc) P w K mg base k Γ tg elt tg1 iter1 ifs ifs1 (own.map (·.2)) vs1 ρ (item m) z1 (A m) (A (m + 1)))
    (hs : ∀ x, foldedSetIterable iter X.env x = pure x := by intro _; rfl) (hs1 : ∀ env x, foldedSetIterable iter1 env x = pure x := by intro _ _; rfl) : XL X Γ (.ListComp elt [⟨tg, iter, ifs, 0⟩, ⟨tg1, iter1, ifs1, 0⟩] scope pos) ρ z (A n) z1 := fun σ B H Q S q =>
  eOf (pe_lc2 (own := own) (vs1 := vs1) C.calm (by rw [C.hN]; exact C.nd) piS (blkOk_by (by rw [C.hN, C.hsc]; exact hok)) hv (fun s H Ca cl fp => ⟨fun pins s σ H v u Q I r h => h _ _ _ _ _ pins s u I r⟩) (fun s H Ca cl fp => ⟨fun pins s σ H Q I h => h _ _ _ _ _ pins s I⟩)
    (fun s H Ca cl fp => ⟨fun pins s σ H R I h => h _ _ _ _ _ pins s I⟩) (fun s H Ca cl fp => ⟨fun pins s σ H v u Q I r h => h _ _ _ _ _ pins s u I r⟩) (fun s H Ca cl fp => ⟨fun pins s σ H Q I h => h _ _ _ _ _ pins s I⟩)
    (fun s H Ca cl fp => ⟨fun pins s σ H Q I h => h _ _ _ _ _ pins s I⟩) hs hs1) (lc2_read C hi A hA step σ B H Q S q)
end
end DL

namespace DL
open PySem PySem.Spec PyProof.Rows L2
variable [TB]
/-! ### dicts -/
section
variable {κ : Type} [DecidableEq κ]
def valD (kvs : List (κ × D)) (k : κ) : Option D := (kvs.find? fun kv => decide (kv.1 = k)).map (·.2)
def putM (kvs : List (κ × D)) (k : κ) (d : D) : List (κ × D) :=
  if (kvs.any fun kv => decide (kv.1 = k)) = true then kvs.map (fun kv => if kv.1 = k then (kv.1, d) else kv) else kvs ++ [(k, d)]
theorem valD_pos {p : κ × D} {r : List (κ × D)} {k : κ} (e : p.1 = k) : valD (p :: r) k = some p.2 := by simp [valD, List.find?_cons, e]
theorem valD_neg {p : κ × D} {r : List (κ × D)} {k : κ} (e : ¬ p.1 = k) : valD (p :: r) k = valD r k := by simp [valD, List.find?_cons, e]
variable {K : PySem.W.Frag} {B : Hp}
theorem RepM.len {κ : Type} : ∀ {vs : List (κ × V)} {kvs : List (κ × D)}, RepM K B vs kvs → vs.length = kvs.length
  | [], [], _ => rfl
  | [], _ :: _, h => by cases h
  | _ :: _, [], h => by cases h
  | (f, v) :: vs, (g, d) :: kvs, h => by
    cases h with
    | cons h r => exact congrArg (· + 1) r.len
theorem RepM.val (k : κ) : ∀ {vs : List (κ × V)} {kvs : List (κ × D)}, RepM K B vs kvs → (valD kvs k = none → valV vs k = none) ∧ ∀ d, valD kvs k = some d → ∃ v, valV vs k = some v ∧ Rep K B v d
  | [], [], _ => ⟨fun _ => rfl, fun d h => by cases h⟩
  | [], _ :: _, h => by cases h
  | _ :: _, [], h => by cases h
  | (f, v) :: vs, (g, d) :: kvs, h => by
    cases h with
    | cons h r =>
      by_cases e : f = k
      · rw [valD_pos (p := (f, d)) e, valV_pos (p := (f, v)) e]
        exact ⟨fun q => (nomatch q), fun d' q => (by cases q; exact ⟨v, rfl, h⟩)⟩
      · rw [valD_neg (p := (f, d)) e, valV_neg (p := (f, v)) e]
        exact r.val k
theorem RepM.some {k : κ} {vs : List (κ × V)} {kvs : List (κ × D)} (r : RepM K B vs kvs) : (valV vs k).isSome = (valD kvs k).isSome := by
  cases e : valD kvs k with
  | none => rw [(r.val k).1 e]; rfl
  | some d =>
    obtain ⟨v, h, _⟩ := (r.val k).2 d e
    rw [h]; rfl
theorem RepM.any (k : κ) : ∀ {vs : List (κ × V)} {kvs : List (κ × D)}, RepM K B vs kvs → (vs.any fun kv => decide (kv.1 = k)) = (kvs.any fun kv => decide (kv.1 = k))
  | [], [], _ => rfl
  | [], _ :: _, h => by cases h
  | _ :: _, [], h => by cases h
  | (f, v) :: vs, (g, d) :: kvs, h => by
    cases h with
    | cons h r => rw [List.any_cons, List.any_cons, r.any k]
theorem RepM.over {k : κ} {v : V} {d : D} (h : Rep K B v d) : ∀ {vs : List (κ × V)} {kvs : List (κ × D)}, RepM K B vs kvs → RepM K B (vs.map fun kv => if kv.1 = k then (kv.1, v) else kv) (kvs.map fun kv => if kv.1 = k then (kv.1, d) else kv)
  | [], [], _ => .nil
  | [], _ :: _, h => by cases h
  | _ :: _, [], h => by cases h
  | (f, u) :: vs, (g, e) :: kvs, q => by
    cases q with
    | cons q r =>
      rw [List.map_cons, List.map_cons]
      by_cases e : f = k
      · rw [if_pos e, if_pos e]; exact .cons h (RepM.over h r)
      · rw [if_neg e, if_neg e]; exact .cons q (RepM.over h r)
theorem RepM.snoc {κ : Type} {k : κ} {v : V} {d : D} (h : Rep K B v d) : ∀ {vs : List (κ × V)} {kvs : List (κ × D)}, RepM K B vs kvs → RepM K B (vs ++ [(k, v)]) (kvs ++ [(k, d)])
  | [], [], _ => .cons h .nil
  | [], _ :: _, h => by cases h
  | _ :: _, [], h => by cases h
  | (f, u) :: vs, (g, e) :: kvs, q => by
    cases q with
    | cons q r => exact .cons q (RepM.snoc h r)
theorem RepM.put {k : κ} {v : V} {d : D} {vs : List (κ × V)} {kvs : List (κ × D)} (r : RepM K B vs kvs) (h : Rep K B v d) : RepM K B (putK vs k v) (putM kvs k d) := by
  unfold putK putM
  rw [r.any k]
  split
  · exact RepM.over h r
  · exact RepM.snoc h r
end
/-- what may be a key -/
def keyD : D → Option Key
  | .int i => some (.inl i)
  | .str s => some (.inr s)
  | _ => none
def keysD : List D → Option (List Key)
  | [] => some []
  | d :: ds => match keyD d, keysD ds with
    | some k, some ks => some (k :: ks)
    | _, _ => none
section
variable {K : PySem.W.Frag} {B : Hp}
theorem rep_key {v : V} {d : D} {k : Key} (r : Rep K B v d) (h : keyD d = some k) : v = kV k := by
  cases r with
  | int i => cases h; rfl
  | str s => cases h; rfl
  | _ => cases h
theorem rep_keys : ∀ {vs : List V} {ds : List D} {ks : List Key}, RepAll K B vs ds → keysD ds = some ks → vs = ks.map kV
  | [], [], ks, _, h => by cases h; rfl
  | [], _ :: _, _, r, _ => by cases r
  | _ :: _, [], _, r, _ => by cases r
  | v :: vs, d :: ds, ks, r, h => by
    cases r with
    | cons a r =>
      have h : (match keyD d, keysD ds with | some k, some ks => some (k :: ks) | _, _ => none) = some ks := h
      cases e1 : keyD d with
      | none => rw [e1] at h; cases h
      | some k1 =>
        cases e2 : keysD ds with
        | none => rw [e1, e2] at h; cases h
        | some k2 =>
          rw [e1, e2] at h
          cases h
          rw [rep_key a e1, rep_keys r e2]
          rfl
end
section
variable (X : Cx) (Γ : G)
/-- e tells a list or a dict, one's own or data -/
def XO (e : Expr) (ρ : En) (z : Γ.Z) (o : Ob) (z' : Γ.Z) : Prop := ∀ (σ : L2.St) (B H : Hp) (Q : VK), Sat X.K Γ ρ z σ B H →
  (∀ a u B' H', StpM Γ.M B H B' H' → Γ.zp z' B' H' → ¬ Γ.M a → H' a = some u → ObR X.K B' u o → Q (.ref a) H') → semE X e σ H Q
/-- a new one -/
def XB (e : Expr) (ρ : En) (z : Γ.Z) (o : Ob) (z' : Γ.Z) : Prop := ∀ (σ : L2.St) (B H : Hp) (Q : VK), Sat X.K Γ ρ z σ B H →
  (∀ p u B' H', StpM Γ.M B H B' H' → Γ.zp z' B' H' → H p = none → B' p = none → H' p = some u → ObR X.K B' u o → Q (.ref p) H') → semE X e σ H Q
end
section
variable {X : Cx} {Γ : G} {N : List Str} {sc : Scope} {P : Program} {w : World} {K : PySem.W.Frag} {mg : Str → Option Value} {base : Heap} {k : Nat}
variable {e a b c o i : Expr} {ρ : En} {z z1 z2 z3 : Γ.Z} {d : D} {ds : List D} {pos p p2 pos' : Pos} {x : Str} {Po : Post Γ} {ob : Ob} {kvs : List (Key × D)} {tvs : List (List Key × D)}
theorem o_own (n : Nat) (C : Cxt X N sc P w K mg base k) (hN : N[n]? = some x) (hv : visC sc x = true) (h : ρ[n]? = some (.ob ob))
    (hd : (x == ("__debug__" : Str)) = false := by decide) (hcd : (x == ("__classdict__" : Str)) = false := by decide) : XO X Γ (.Name x pos) ρ z ob z := by
  intro σ B H Q S q
  obtain ⟨a, u, e, h0, hb, hh, r⟩ := S.ob h
  exact eOf (pe_var (i := n) (by rw [C.hN]; exact hN) (by rw [C.hsc]; exact vis_of hv) hd hcd) ⟨_, e, q a u B H (.refl S.wf.sub) S.wf.z (fun m => Γ.m0 a m h0) hh r⟩
theorem o_dK (h : XE X Γ e ρ z (.dK kvs) z1) : XO X Γ e ρ z (.dK kvs) z1 := fun σ B H Q S q => h σ B H Q S fun v B1 H1 t1 p1 r1 => by
  cases r1 with
  | @dK a vs _ e1 r => exact q a _ B1 H1 t1 p1 (fun m => by rw [(Γ.znb _ _ _ p1 a m).1] at e1; cases e1) (t1.sub _ _ e1) (.dK r)
theorem o_dT (h : XE X Γ e ρ z (.dT tvs) z1) : XO X Γ e ρ z (.dT tvs) z1 := fun σ B H Q S q => h σ B H Q S fun v B1 H1 t1 p1 r1 => by
  cases r1 with
  | @dT a vs _ e1 r => exact q a _ B1 H1 t1 p1 (fun m => by rw [(Γ.znb _ _ _ p1 a m).1] at e1; cases e1) (t1.sub _ _ e1) (.dT r)
theorem b_dK : XB X Γ (.Dict [] [] pos) ρ z (.dK []) z := fun σ B H Q S q => eOf pe_dnewK fun p hp => by
  have t : Stp B H B (upd H p (.dK [])) := .newO S.wf.sub hp
  have hb : B p = none := by
    cases e : B p with
    | none => rfl
    | some o => rw [S.wf.sub _ _ e] at hp; cases hp
  exact q p _ B _ (.of t) (S.zp t) hp hb upd_same (.dK .nil)
theorem b_dT : XB X Γ (.Dict [] [] pos) ρ z (.dT []) z := fun σ B H Q S q => eOf pe_dnewT fun p hp => by
  have t : Stp B H B (upd H p (.dT [])) := .newO S.wf.sub hp
  have hb : B p = none := by
    cases e : B p with
    | none => rfl
    | some o => rw [S.wf.sub _ _ e] at hp; cases hp
  exact q p _ B _ (.of t) (S.zp t) hp hb upd_same (.dT .nil)
theorem xs_setB (n : Nat) {p2 : Pos} (C : Cxd X N sc P w K mg base k) (hN : N[n]? = some x) (hl : locC sc x = true) (h : XB X Γ e ρ z ob z1) (q : Po.nx (ρ.set n (.ob ob)) z1)
    (hs : swapsWith e (some (.Name x p2)) pos.line X.env = pure false := by rfl) : XS X Γ (.Assign [.Name x p2] e pos) ρ z Po := fun σ B H E S l => by
  refine sOf (ps_set (i := n) (by rw [C.hN]; exact C.nd) (by rw [C.hN]; exact hN) (by rw [C.hsc]; exact loc_of hl) peS hs (.inl (C.fn _))) (h σ B H _ S fun p u B1 H1 t1 p1 h0 hb hp r1 => ?_)
  exact l.nx _ _ _ B1 H1 t1.eB ((S.stepM t1 p1).setOb n (S.h0 h0) hb hp r1 (fun j es hj => S.fresh h0 j es hj)) q
theorem xss_freezeB (n : Nat) {sts : List Stmt} (ho : ρ[n]? = some (.ob ob)) (h : XSs X Γ sts (ρ.set n (.dat ob.dat)) z Po) : XSs X Γ sts ρ z Po := fun σ B H E S l => by
  obtain ⟨B', e, S'⟩ := S.freezeOb ho
  exact h σ B' H E S' (l.ex e)
/-- d[k]: the key a number or a text -/
theorem x_dgK {ky : Key} (C : Cxt X N sc P w K mg base k) (ho : XO X Γ o ρ z (.dK kvs) z1) (hi : XE X Γ i ρ z1 d z2) (hk : keyD d = some ky) {r : D} (hv : valD kvs ky = some r) (hs : NoSl i := by intro _ _; rfl) : XE X Γ (.Subscript o i pos) ρ z r z2 := fun σ B H Q S q => by
  refine eOf (pe_dget (hu_of C.room) peS peS hs) (ho σ B H _ S fun a u B1 H1 t1 p1 nm ha ru => ?_)
  refine hi σ B1 H1 _ (S.stepM t1 p1) fun y B2 H2 t2 p2 r2 => ?_
  cases ru with
  | @dK vs _ rm =>
    obtain ⟨v, hvv, rv⟩ := (rm.val ky).2 r hv
    exact ⟨a, v, rfl, .inl ⟨vs, ky, .inl (t2.eH a _ nm ha), rep_key r2 hk, hvv.symm⟩, q v B2 H2 (t1.trans t2) p2 (rv.mono t2.eB)⟩
/-- .. a tuple -/
theorem x_dgT {ks : List Key} (C : Cxt X N sc P w K mg base k) (ho : XO X Γ o ρ z (.dT tvs) z1) (hi : XE X Γ i ρ z1 (.tup ds) z2) (hk : keysD ds = some ks) {r : D} (hv : valD tvs ks = some r) (hs : NoSl i := by intro _ _; rfl) : XE X Γ (.Subscript o i pos) ρ z r z2 := fun σ B H Q S q => by
  refine eOf (pe_dget (hu_of C.room) peS peS hs) (ho σ B H _ S fun a u B1 H1 t1 p1 nm ha ru => ?_)
  refine hi σ B1 H1 _ (S.stepM t1 p1) fun y B2 H2 t2 p2 r2 => ?_
  cases ru with
  | @dT vs _ rm =>
    obtain ⟨v, hvv, rv⟩ := (rm.val ks).2 r hv
    cases r2 with
    | @tup b us _ hb rr => exact ⟨a, v, rfl, .inr ⟨vs, ks, b, .inl (t2.eH a _ nm ha), rfl, by rw [← rep_keys rr hk]; exact t2.sub _ _ hb, hvv.symm⟩, q v B2 H2 (t1.trans t2) p2 (rv.mono t2.eB)⟩
theorem inT_of {ks : List Key} (hi : XE X Γ i ρ z (.tup ds) z1) (ho : XO X Γ o ρ z1 (.dT tvs) z2) (hk : keysD ds = some ks) (σ : L2.St) (B H : Hp) (Q : Bool → Hp → Prop) (S : Sat X.K Γ ρ z σ B H)
    (q : ∀ B' H', StpM Γ.M B H B' H' → Γ.zp z2 B' H' → Q (valD tvs ks).isSome H') : semE X i σ H fun y H1 => semE X o σ H1 fun x H2 => ∃ (a : Addr) (r : Option V), x = V.ref a ∧ DGet H2 a y r ∧ Q r.isSome H2 := by
  refine hi σ B H _ S fun y B1 H1 t1 p1 r1 => ?_
  refine ho σ B1 H1 _ (S.stepM t1 p1) fun a u B2 H2 t2 p2 nm ha ru => ?_
  cases ru with
  | @dT vs _ rm =>
    cases r1 with
    | @tup b us _ hb rr =>
      refine ⟨a, valV vs ks, rfl, .inr ⟨vs, ks, b, .inl ha, rfl, by rw [← rep_keys rr hk]; exact t2.sub _ _ (t2.eB _ _ hb), rfl⟩, ?_⟩
      rw [rm.some]
      exact q B2 H2 (t1.trans t2) p2
theorem inK_of {ky : Key} (hi : XE X Γ i ρ z d z1) (ho : XO X Γ o ρ z1 (.dK kvs) z2) (hk : keyD d = some ky) (σ : L2.St) (B H : Hp) (Q : Bool → Hp → Prop) (S : Sat X.K Γ ρ z σ B H)
    (q : ∀ B' H', StpM Γ.M B H B' H' → Γ.zp z2 B' H' → Q (valD kvs ky).isSome H') : semE X i σ H fun y H1 => semE X o σ H1 fun x H2 => ∃ (a : Addr) (r : Option V), x = V.ref a ∧ DGet H2 a y r ∧ Q r.isSome H2 := by
  refine hi σ B H _ S fun y B1 H1 t1 p1 r1 => ?_
  refine ho σ B1 H1 _ (S.stepM t1 p1) fun a u B2 H2 t2 p2 nm ha ru => ?_
  cases ru with
  | @dK vs _ rm =>
    refine ⟨a, valV vs ky, rfl, .inl ⟨vs, ky, .inl ha, rep_key r1 hk, rfl⟩, ?_⟩
    rw [rm.some]
    exact q B2 H2 (t1.trans t2) p2
/-- k in d -/
theorem x_inT {ks : List Key} (C : Cxt X N sc P w K mg base k) (hi : XE X Γ i ρ z (.tup ds) z1) (ho : XO X Γ o ρ z1 (.dT tvs) z2) (hk : keysD ds = some ks) (hm : behindInMarks .In o = false := by with_unfolding_all rfl) : XE X Γ (.Compare i [.In] [o] pos) ρ z (.bl (valD tvs ks).isSome) z2 :=
  fun σ B H Q S q => eOf (pe_cmp (pc_din (hu_of C.room) peS peS) hm) (inT_of hi ho hk σ B H (fun t H' => Q (.bl t) H') S fun B' H' t p => q _ B' H' t p (.bl _))
theorem t_inT {ks : List Key} (C : Cxt X N sc P w K mg base k) (hi : XE X Γ i ρ z (.tup ds) z1) (ho : XO X Γ o ρ z1 (.dT tvs) z2) (hk : keysD ds = some ks) (hm : behindInMarks .In o = false := by with_unfolding_all rfl) : XT X Γ (.Compare i [.In] [o] pos) ρ z (valD tvs ks).isSome z2 :=
  fun σ B H Q S q => tOf (pt_cmp (pc_din (hu_of C.room) peS peS) hm) (inT_of hi ho hk σ B H (fun t H' => ∃ k, V.bl t = .bl k ∧ Q k H') S fun B' H' t p => ⟨_, rfl, q B' H' t p⟩)
theorem x_inK {ky : Key} (C : Cxt X N sc P w K mg base k) (hi : XE X Γ i ρ z d z1) (ho : XO X Γ o ρ z1 (.dK kvs) z2) (hk : keyD d = some ky) (hm : behindInMarks .In o = false := by with_unfolding_all rfl) : XE X Γ (.Compare i [.In] [o] pos) ρ z (.bl (valD kvs ky).isSome) z2 :=
  fun σ B H Q S q => eOf (pe_cmp (pc_din (hu_of C.room) peS peS) hm) (inK_of hi ho hk σ B H (fun t H' => Q (.bl t) H') S fun B' H' t p => q _ B' H' t p (.bl _))
theorem t_inK {ky : Key} (C : Cxt X N sc P w K mg base k) (hi : XE X Γ i ρ z d z1) (ho : XO X Γ o ρ z1 (.dK kvs) z2) (hk : keyD d = some ky) (hm : behindInMarks .In o = false := by with_unfolding_all rfl) : XT X Γ (.Compare i [.In] [o] pos) ρ z (valD kvs ky).isSome z2 :=
  fun σ B H Q S q => tOf (pt_cmp (pc_din (hu_of C.room) peS peS) hm) (inK_of hi ho hk σ B H (fun t H' => ∃ k, V.bl t = .bl k ∧ Q k H') S fun B' H' t p => ⟨_, rfl, q B' H' t p⟩)
/-- d[k] = v, of one's own -/
theorem xs_putT (n : Nat) {ks : List Key} (C : Cxd X N sc P w K mg base k) (hN : N[n]? = some x) (hv : visC sc x = true) (ho : ρ[n]? = some (.ob (.dT tvs))) (h : XE X Γ e ρ z d z1) (hi : XE X Γ i ρ z1 (.tup ds) z2) (hk : keysD ds = some ks) (hl : tvs.length < sizeLine)
    (q : Po.nx (ρ.set n (.ob (.dT (putM tvs ks d)))) z2) (hd : (x == ("__debug__" : Str)) = false := by decide) (hcd : (x == ("__classdict__" : Str)) = false := by decide)
    (hs : swapsWith e (some (.Subscript (.Name x p2) i pos')) pos.line X.env = pure false := by rfl) : XS X Γ (.Assign [.Subscript (.Name x p2) i pos'] e pos) ρ z Po := fun σ B H E S l => by
  obtain ⟨a, u, ea, h0, hb, hh, ru⟩ := S.ob ho
  have nm : ¬ Γ.M a := fun m => Γ.m0 a m h0
  refine sOf (ps_dput (hu_of C.room) (pe_var (i := n) (by rw [C.hN]; exact hN) (by rw [C.hsc]; exact vis_of hv) hd hcd) peS peS hs) (h σ B H _ S fun v B1 H1 t1 p1 r1 => ?_)
  refine ⟨_, ea, hi σ B1 H1 _ (S.stepM t1 p1) fun y B2 H2 t2 p2 r2 => ?_⟩
  have S2 := (S.stepM t1 p1).stepM t2 p2
  cases ru with
  | @dT vs _ rm =>
    cases r2 with
    | @tup b us _ hbb rr =>
      have ha : H2 a = some (.dT vs) := t2.eH a _ nm (t1.eH a _ nm hh)
      refine ⟨a, _, rfl, .inr ⟨vs, ks, b, ha, rfl, by rw [← rep_keys rr hk]; exact t2.sub _ _ hbb, by rw [rm.len]; exact hl, rfl⟩, ?_⟩
      exact l.nx _ _ _ B2 _ (t1.eB.trans t2.eB) (S2.mutOb ho ea (.dT (RepM.put ((rm.mono t1.eB).mono t2.eB) (r1.mono t2.eB)))) q
theorem xs_putK (n : Nat) {ky : Key} {d' : D} (C : Cxd X N sc P w K mg base k) (hN : N[n]? = some x) (hv : visC sc x = true) (ho : ρ[n]? = some (.ob (.dK kvs))) (h : XE X Γ e ρ z d z1) (hi : XE X Γ i ρ z1 d' z2) (hk : keyD d' = some ky) (hl : kvs.length < sizeLine)
    (q : Po.nx (ρ.set n (.ob (.dK (putM kvs ky d)))) z2) (hd : (x == ("__debug__" : Str)) = false := by decide) (hcd : (x == ("__classdict__" : Str)) = false := by decide)
    (hs : swapsWith e (some (.Subscript (.Name x p2) i pos')) pos.line X.env = pure false := by rfl) : XS X Γ (.Assign [.Subscript (.Name x p2) i pos'] e pos) ρ z Po := fun σ B H E S l => by
  obtain ⟨a, u, ea, h0, hb, hh, ru⟩ := S.ob ho
  have nm : ¬ Γ.M a := fun m => Γ.m0 a m h0
  refine sOf (ps_dput (hu_of C.room) (pe_var (i := n) (by rw [C.hN]; exact hN) (by rw [C.hsc]; exact vis_of hv) hd hcd) peS peS hs) (h σ B H _ S fun v B1 H1 t1 p1 r1 => ?_)
  refine ⟨_, ea, hi σ B1 H1 _ (S.stepM t1 p1) fun y B2 H2 t2 p2 r2 => ?_⟩
  have S2 := (S.stepM t1 p1).stepM t2 p2
  cases ru with
  | @dK vs _ rm =>
    have ha : H2 a = some (.dK vs) := t2.eH a _ nm (t1.eH a _ nm hh)
    refine ⟨a, _, rfl, .inl ⟨vs, ky, ha, rep_key r2 hk, by rw [rm.len]; exact hl, rfl⟩, ?_⟩
    exact l.nx _ _ _ B2 _ (t1.eB.trans t2.eB) (S2.mutOb ho ea (.dK (RepM.put ((rm.mono t1.eB).mono t2.eB) (r1.mono t2.eB)))) q
/-- len of a dict -/
theorem x_lenDT (C : Cxt X N sc P w K mg base k) (hg : GlS sc "len") (hm : mg "len" = none) (ho : XO X Γ e ρ z (.dT tvs) z1) (hs : starEach [e] X.env = (false, eval e X.env) :: starEach [] X.env := by rfl) :
    XE X Γ (.Call (.Name "len" p) [e] [] pos) ρ z (.int tvs.length) z1 := fun σ B H Q S q => by
  refine eOf (pe_callB call_len_dT (C.gl hg) (by rw [C.hmg]; exact hm) PySem.boot_len (pa_cons peS pa_nil hs) (by decide) (by decide) hs rfl) (ho σ B H _ S fun a u B1 H1 t1 p1 nm ha ru => ?_)
  cases ru with
  | @dT vs _ rm => exact ⟨a, vs, rfl, ha, by rw [rm.len]; exact q _ B1 H1 t1 p1 (.int _)⟩
theorem x_lenDK (C : Cxt X N sc P w K mg base k) (hg : GlS sc "len") (hm : mg "len" = none) (ho : XO X Γ e ρ z (.dK kvs) z1) (hs : starEach [e] X.env = (false, eval e X.env) :: starEach [] X.env := by rfl) :
    XE X Γ (.Call (.Name "len" p) [e] [] pos) ρ z (.int kvs.length) z1 := fun σ B H Q S q => by
  refine eOf (pe_callB call_lenD (C.gl hg) (by rw [C.hmg]; exact hm) PySem.boot_len (pa_cons peS pa_nil hs) (by decide) (by decide) hs rfl) (ho σ B H _ S fun a u B1 H1 t1 p1 nm ha ru => ?_)
  cases ru with
  | @dK vs _ rm => exact ⟨a, vs, rfl, ha, by rw [rm.len]; exact q _ B1 H1 t1 p1 (.int _)⟩
end
end DL

namespace DL
open PySem PySem.Spec PyProof.Rows L2
variable [TB]
/-! ### a lambda of one name, called on the heap alone -/
def Kp (h h' : Heap) : Prop := ∀ b o, h.get? b = some o → h'.get? b = some o
theorem Kp.refl (h : Heap) : Kp h h := fun _ _ e => e
theorem Kp.trans {a b c : Heap} (x : Kp a b) (y : Kp b c) : Kp a c := fun p o e => y p o (x p o e)
theorem Kp.push (h : Heap) (o : Obj) : Kp h (h.push o) := fun _ _ e => Heap.get?_push_of_some _ e
/-- e, evaluated over any heap that keeps h0: keeps all, answers a value of R -/
def LK (prog : Program) (w : World) (A : Around) (env : Env) (e : Expr) (h0 : Heap) (R : Heap → Value → Prop) : Prop :=
  ∀ s : Shared, Kp h0 s.heap → wpAny (model prog w) A (eval e env) (fun v s' => ∃ h' tk', s' = { s with heap := h', toks := tk' } ∧ Kp s.heap h' ∧ R h' v) (fun _ _ => False) s
section
variable {prog : Program} {w : World} {A : Around} {env : Env} {h0 : Heap} {e1 e2 : Expr} {x : Str} {u u1 u2 : Value} {pos p2 : Pos} {m : Str → Option Value}
theorem lk_name (hk : env.scope.kind = .function) (hl : env.kindOf x = some .local) (hn : h0.Ns env.locals m) (hv : m x = some u) (hd : (x == ("__debug__" : Str)) = false := by decide) :
    LK prog w A env (.Name x pos) h0 fun _ v => v = u := fun s k =>
  wpAny_Name (wpAny_loadName_local hk hl (hn.at fun o e => k _ _ e) hv ⟨s.heap, s.toks, rfl, Kp.refl _, rfl⟩) hd
theorem lk_item {n : Nat} {m0 : Nat} {q : Addr} {its : List Value} (h : LK prog w A env e1 h0 fun _ v => v = .ref q) (ht : IsTup h0 q its.toArray) (hi : its[n]? = some u) (hn : n < 1000) :
    LK prog w A env (.Subscript e1 (.Constant (.int (n : Int)) m0 p2) pos) h0 fun _ v => v = u := fun s k => by
  have hl := (List.getElem?_eq_some_iff.mp hi).1
  refine Subscript_ (thn (h s k) fun v s1 ⟨h1, t1, e1, k1, r1⟩ => ?_)
  subst r1 e1
  refine wpAny_Constant_int ?_
  have pl : IsTup h1 q its.toArray := ht.keeps (k.trans k1)
  refine subscriptTail_builtinR (x := u) (T := "tuple") pl.typeIs slot_tuple_getitem.lookup ?_ ?_
  · refine getItem_tuple (j := n) (Q := fun r s' => r = u ∧ ∃ h' tk', s' = { s with heap := h', toks := tk' } ∧ Kp s.heap h' ∧ r = u) pl (by omega) (by omega) ?_ (by simpa using hi) ⟨rfl, h1, _, rfl, k1, rfl⟩
    unfold seqIndex?
    simp only [List.size_toArray]
    have : ¬ ((n : Int) < 0) := by omega
    simp [this, hl]
  · with_unfolding_all rfl
theorem lk_tup2 {m0 : Nat} (h1 : LK prog w A env e1 h0 fun _ v => v = u1) (h2 : LK prog w A env e2 h0 fun _ v => v = u2)
    (he : backTo pos (starEach [e1, e2] env) = [(false, eval e1 env), (false, eval e2 env)] := by rfl) :
    LK prog w A env (.Tuple [e1, e2] m0 pos) h0 fun h' v => ∃ q, v = .ref q ∧ IsTup h' q #[u1, u2] := fun s k => by
  refine wpAny_Tuple_spliced ?_
  rw [he]
  refine Calls.spliced_cons (thn (h1 s k) fun v s1 ⟨g1, t1, e1, k1, r1⟩ => ?_)
  subst r1 e1
  refine Calls.spliced_cons (thn (h2 { s with heap := g1, toks := t1 } (k.trans k1)) fun v' s2 ⟨g2, t2, e2, k2, r2⟩ => ?_)
  subst r2 e2
  refine Calls.spliced_nil ⟨by rw [sizeLine_eq]; simp, g2.push { cls := .type "tuple", data := .seq #[v, v'] }, t2, rfl, k1.trans (k2.trans (Kp.push _ _)), _, rfl, .new _ _⟩
end
/-- a lambda of one parameter x, no other names captured -/
structure Lam1 (params : Arguments) (scope : Scope) (x : Str) : Prop where
  kind : scope.kind = .function
  co : scope.isCoroutine = false
  gen : scope.isGenerator = false
  nc : ∀ y ∈ scope.names, y.2 ≠ .cell
  nf : ∀ y ∈ scope.names, y.2 ≠ .free
  lx : scope.names.lookup x = some .local
def lam1C (scope : Scope) (x : Str) : Bool :=
  decide (scope.kind = .function) && !scope.isCoroutine && !scope.isGenerator && (scope.names.all fun y => !decide (y.2 = .cell) && !decide (y.2 = .free)) && decide (scope.names.lookup x = some .local)
theorem lam1_by {params : Arguments} {scope : Scope} {x : Str} (h : lam1C scope x = true) : Lam1 params scope x := by
  unfold lam1C at h
  simp only [Bool.and_eq_true, Bool.not_eq_true', decide_eq_true_eq, List.all_eq_true, decide_eq_false_iff_not] at h
  obtain ⟨⟨⟨⟨h1, h2⟩, h3⟩, h4⟩, h5⟩ := h
  exact ⟨h1, h2, h3, fun y hy => (h4 y hy).1, fun y hy => (h4 y hy).2, h5⟩
section
variable {prog : Program} {w : World} {A : Around} {s : Shared} {f c' : Addr} {params : Arguments} {body : Expr} {scope : Scope} {q x : Str} {cl : List (Str × Addr)} {pm ctv v : Value} {k : PyData}
theorem lam_turn (hroom : A.depth < recursionLimit) (hf : s.heap.get? f = some (PySem.W.kla_obj "<lambda>" q params body scope cl pm c' ctv)) (hc : ∃ (oc : Obj) (vs : Array Value) (t : Tok), s.heap.get? c' = some oc ∧ oc.data = .fields vs ∧ vs[1]? = some (.str q t))
    (lim : s.heap.NoLimit) (L : Lam1 params scope x) (hbind : bindArgs (PySem.W.kla_fn "<lambda>" q params body scope cl pm (.ref c') ctv) ⟨[v], []⟩ = pure [(x, v)])
    (hbody : ∀ (l : Addr) (h1 : Heap), Kp s.heap h1 → h1.Ns l (fun y => [(x, v)].reverse.lookup y) → LK prog w (A.deeper (PySem.W.envX q scope l f (.ref c') cl)) (PySem.W.envX q scope l f (.ref c') cl) body h1 fun h' u => Reads h' u k []) :
    wpAny (model prog w) A (call (.ref f) [v]) (PySem.W.KeyPure k s) (fun _ _ => False) s := by
  obtain ⟨oc, vs, t, hoc, hdc, hvc⟩ := hc
  have main : codeAny (model prog w) A (.call (.ref f) ⟨[v], []⟩) (fun r s' => match r with | .ok (.ret u) => PySem.W.KeyPure k s u s' | .ok _ => False | .error _ => False) s := by
    refine PySem.W.kla_callFunE hroom hf rfl L.co L.gen rfl ⟨c', oc, vs, t, rfl, hoc, hdc, hvc⟩ ?_
    rw [hbind]
    refine wpAny_pure (wpAny_newFunctionEnv L.nc (fun y hy => ?_) (fun h₁ hns hsb => ⟨lim.fresh _ hsb, ?_⟩) L.kind)
    · have e : y = (x, v) := by simpa using hy
      rw [e]
      exact L.lx
    show codeAny _ _ (.expr body (PySem.W.envX q scope s.heap.objs.size f (.ref c') cl)) _ _
    have kp : Kp s.heap h₁ := fun b o e => hsb.extBut b o (Nat.ne_of_lt (Heap.lt_size e)) (Heap.get?_push_of_some _ e)
    refine PySem.W.kla_codeExpr (wpAny_mono (hbody _ h₁ kp hns { s with heap := h₁, toks := s.toks + [(x, v)].length } (Kp.refl _)) (fun u s' hq => ?_) fun e s' hq => hq.elim)
    obtain ⟨h', tk', e, k1, r⟩ := hq
    exact ⟨h', tk', e, kp.trans k1, r⟩
  refine wpAny_call (codeAny_mono main fun r s2 hq => ?_)
  cases r with
  | error e => exact hq
  | ok fl =>
    cases fl with
    | ret u => exact hq
    | next => exact hq
    | brk => exact hq
    | cont => exact hq
end

/-- at the heap h, u is the tuple d, as far as its whole numbers go -/
def ItT (h : Heap) (u : Value) (d : D) : Prop := ∃ (ds : List D) (p : Addr) (its : List Value), d = .tup ds ∧ u = .ref p ∧ IsTup h p its.toArray ∧ ∀ (n : Nat) (i : Int), ds[n]? = some (.int i) → ∃ t, its[n]? = some (.int i t)
theorem ItT.kp {h h' : Heap} {u : Value} {d : D} (r : ItT h u d) (k : Kp h h') : ItT h' u d := by
  obtain ⟨ds, p, its, e1, e2, e3, e4⟩ := r
  exact ⟨ds, p, its, e1, e2, e3.keeps k, e4⟩
theorem itT_of {X : Cx} {pins : List (Addr × Obj)} {σ : L2.St} {B H : Hp} {s : Shared} {v : V} {u : Value} {ds : List D} (I : Inv X pins σ H s) (e : Ex B H) (r : Rep X.K B v (.tup ds)) (rv : RelV v u) : ItT s.heap u (.tup ds) := by
  cases r with
  | @tup a vs _ hb rr =>
    obtain ⟨its, vv, ht, _⟩ := I.tuple (xs := vs) (.of (e _ _ hb))
    have eu : u = .ref a := rv
    refine ⟨ds, a, its, rfl, eu, ht, fun n i hn => ?_⟩
    obtain ⟨v, hv, r1⟩ := rr.get hn
    cases r1
    obtain ⟨u', hu, r2⟩ := vv.get hv
    obtain ⟨t, e2⟩ := r2
    exact ⟨t, by rw [hu, e2]⟩
theorem zip_each {X : Cx} {pins : List (Addr × Obj)} {σ : L2.St} {B H : Hp} {s : Shared} (I : Inv X pins σ H s) (e : Ex B H) : ∀ {vs : List V} {us : List Value} {ds : List D}, Vals vs us → RepAll X.K B vs ds → (∀ d ∈ ds, ∃ es, d = .tup es) →
    PySem.W.EachIs (fun (u : Value) (p : V × D) => RelV p.1 u ∧ Rep X.K B p.1 p.2 ∧ ItT s.heap u p.2) us (vs.zip ds)
  | _, _, _, .nil, .nil, _ => .nil
  | _, _, _, .cons r1 rr, .cons r2 r3, h => by
    obtain ⟨es, rfl⟩ := h _ (List.mem_cons_self ..)
    exact .cons ⟨r1, r2, itT_of I e r2 r1⟩ (zip_each I e rr r3 fun d hd => h d (List.mem_cons_of_mem _ hd))
theorem each_vals {X : Cx} {B : Hp} {h : Heap} : ∀ {out : List Value} {bs : List (V × D)}, PySem.W.EachIs (fun (u : Value) (p : V × D) => RelV p.1 u ∧ Rep X.K B p.1 p.2 ∧ ItT h u p.2) out bs → Vals (bs.map (·.1)) out ∧ RepAll X.K B (bs.map (·.1)) (bs.map (·.2))
  | _, _, .nil => ⟨.nil, .nil⟩
  | _, _, .cons r rr => ⟨.cons r.1 (each_vals rr).1, .cons r.2.1 (each_vals rr).2⟩
theorem zip_snd {vs : List V} {ds : List D} (h : vs.length = ds.length) : (vs.zip ds).map (·.2) = ds := List.map_snd_zip (by omega)
theorem sort_snd (k : D → PyData) (bs : List (V × D)) : (bs.mergeSort (PySem.W.dataLe false fun p => k p.2)).map (·.2) = (bs.map (·.2)).mergeSort (PySem.W.dataLe false k) :=
  List.map_mergeSort (fun _ _ _ _ => rfl)
/-! ### a lambda is made: what becomes of the tracked heap, exactly -/
inductive Made (H : Hp) (Pt : Addr) (q : Str) : Hp → Prop
  | old : Made H Pt q H
  | new {ps more : Array Value} {d : Addr} : H Pt = some (.tbl ps) → H d = none → Made H Pt q (upd (upd H Pt (.tbl (ps ++ more))) d (LamX.CodeO d q))
theorem Made.nt {H H1 : Hp} {Pt : Addr} {q : Str} (m : Made H Pt q H1) {a : Addr} {o : HO} (h : H a = some o) (hn : nt o = true) : H1 a = some o := by
  cases m with
  | old => exact h
  | new hp hd =>
    rw [upd_ne (ne_of_none h hd), upd_ne fun e => ?_]
    · exact h
    · rw [e, hp] at h
      cases h
      cases hn
theorem Made.ne {H H1 : Hp} {Pt : Addr} {q : Str} (m : Made H Pt q H1) {a : Addr} (h : H a ≠ none) : H1 a ≠ none := by
  cases m with
  | old => exact h
  | new hp hd =>
    rw [upd_ne (fun e => h (by rw [e]; exact hd))]
    by_cases e : a = Pt
    · rw [e, upd_same]; simp
    · rw [upd_ne e]; exact h
theorem lam_new {X : Cx} {pins : List (Addr × Obj)} {σ : L2.St} {H : Hp} {s : Shared} {T : List (Addr × Str)} {c Pt : Addr} {q : Str} {prm : Arguments} {bd : Expr} {sc' : Scope} {lp : Pos} {E R : Value → Shared → Prop}
    (I : Inv X pins σ H s) (hTB : LamX.TabB X.base X.mg c Pt) (hc0 : X.env.code = .ref c) (hq : X.env.qual ++ "<lambda>" = q) (hin : (Pt, q) ∈ T) (hone : ∀ p ∈ T, p.1 = Pt → p.2 = q) (tt : LamX.Tabs T H) (hd0 : defaultsOf prm X.env = ([], []))
    (hnf : ∀ y ∈ sc'.names, y.2 ≠ .free)
    (go : ∀ (g d : Addr) (pm ctv : Value) (H1 : Hp) (s1 : Shared), Inv X pins σ H1 s1 → Made H Pt q H1 → LamX.Tabs T H1 → H1 g = none → H1 d = some (LamX.CodeO d q) →
      s1.heap.get? g = some (PySem.W.kla_obj "<lambda>" q prm bd sc' (cloFrom X.env.cells sc'.names []) pm d ctv) → R (.ref g) s1) :
    wpAny (model X.prog X.w) X.A (eval (.Lambda prm bd sc' lp) X.env) R E s := by
  subst hq
  obtain ⟨ps, e1, e2, e3⟩ := tt _ hin
  have old := I.hok Pt _ e1
  have old' : s.heap.get? Pt = some { cls := .none, data := .fields ps } := old
  have code := hTB.code.keeps I.bk
  have bm := hTB.bm.keeps I.bk
  have glob := I.mod.glob.keeps I.bk
  have clo := closure_ok (scope := sc') (env := X.env) (fun y hy e => absurd e (hnf y hy))
  refine PySem.W.kla_eval hd0 ?_
  rcases hf : codeAmong lp ps.toList with _ | cv
  · refine PySem.W.kla_makeFunction (c := c) (P := Pt) (ps := ps) (mg := X.mg) clo I.ok.glob glob hc0 code old' e2 hf hTB.gP bm fun d ctv hh tk k1 k2 k3 k4 k5 => ?_
    obtain ⟨d', od, vd, td, q1, q2, q3, q4⟩ := k4
    cases q1
    have hd : H d = none := I.hok.fresh k2
    have big : s.heap.objs.size ≤ hh.objs.size := Nat.le_of_lt (Nat.lt_of_le_of_lt k2 k3)
    have J := LamX.inv_table (q := X.env.qual ++ "<lambda>") (t' := tk) (c := d) (more := #[rawInt lp.line, rawInt lp.col, .ref d]) (h' := hh.push (PySem.W.kla_obj "<lambda>" (X.env.qual ++ "<lambda>") prm bd sc' (cloFrom X.env.cells sc'.names []) ((X.mg "__name__").getD .none) d ctv)) I e1
      (fun b o nb eb => Kp.push _ _ _ _ (k1 b o nb eb)) (Kp.push _ _ _ _ k5) k2 ⟨od, vd, td, Kp.push _ _ _ _ q2, q3, q4⟩
    have mk : Made H Pt (X.env.qual ++ "<lambda>") _ := .new (more := #[rawInt lp.line, rawInt lp.col, .ref d]) e1 hd
    have keepC : ∀ {d' : Addr}, H d' = some (LamX.CodeO d' (X.env.qual ++ "<lambda>")) → _ := fun {d'} z => mk.nt z rfl
    refine go hh.objs.size d _ ctv _ _ J mk (fun p hp => ?_) ?_ upd_same (Heap.get?_push_size _ rfl)
    · by_cases hb : p.1 = Pt
      · have e5 := hone p hp hb
        refine ⟨ps ++ #[rawInt lp.line, rawInt lp.col, .ref d], ?_, ?_, fun pos cv hcv => ?_⟩
        · rw [hb, upd_ne (ne_of_none e1 hd), upd_same]
        · rw [Array.toList_append]
          exact PySem.TriplesOk_snoc _ _ _ _ e2
        · rw [Array.toList_append] at hcv
          rw [e5]
          rcases LamX.among_app _ e2 hcv with y | y
          · obtain ⟨d2, y1, y2⟩ := e3 pos cv y
            exact ⟨d2, y1, mk.nt y2 rfl⟩
          · exact ⟨d, y, upd_same⟩
      · obtain ⟨ps2, y1, y2, y3⟩ := tt p hp
        refine ⟨ps2, ?_, y2, fun pos cv hcv => ?_⟩
        · rw [upd_ne (ne_of_none y1 hd), upd_ne hb]
          exact y1
        · obtain ⟨d2, y4, y5⟩ := y3 pos cv hcv
          exact ⟨d2, y4, mk.nt y5 rfl⟩
    · have n1 : hh.objs.size ≠ Pt := Nat.ne_of_gt (Nat.lt_of_lt_of_le (Heap.lt_size old') big)
      have n2 : hh.objs.size ≠ d := Nat.ne_of_gt k3
      rw [upd_ne n2, upd_ne n1]
      exact I.hok.fresh big
  · obtain ⟨d, rfl, hcd⟩ := e3 lp cv hf
    refine PySem.W.kla_makeFunctionHit (c := c) (P := Pt) (ps := ps) (mg := X.mg) clo I.ok.glob glob hc0 code old' e2 hf bm fun ctv hh tk k1 k2 => ?_
    exact go hh.objs.size d _ ctv H _ (I.kept fun b o eb => Kp.push _ _ _ _ (k1 b o eb)) .old tt (I.hok.fresh k2) hcd (Heap.get?_push_size _ rfl)
section
variable {X : Cx} {Γ : G} {N : List Str} {sc : Scope} {P : Program} {w : World} {K : PySem.W.Frag} {mg : Str → Option Value} {base : Heap} {k : Nat}
variable {e body : Expr} {ρ : En} {z z1 : Γ.Z} {ds : List D} {pos p kp lpos : Pos} {params : Arguments} {scope : Scope} {x : Str} {c Pt : Addr}
/-- what the lambda's body answers, at each item -/
def KeyB (X : Cx) (body : Expr) (scope : Scope) (x : Str) (ds : List D) (kf : D → PyData) : Prop := ∀ (A : Around) (h h1 : Heap) (u : Value) (d : D) (l f c' : Addr) (cl : List (Str × Addr)), d ∈ ds → ItT h u d → Kp h h1 →
  h1.Ns l (fun y => [(x, u)].reverse.lookup y) → LK X.prog X.w A (PySem.W.envX (X.env.qual ++ "<lambda>") scope l f (.ref c') cl) body h1 fun h' v => Reads h' v (kf d) []
/-- sorted(e, key=lambda x: body) -/
theorem l_sortKey (C : Cxt X N sc P w K mg base k) (kf : D → PyData) (hcode : X.env.code = .ref c) (TBc : LamX.TabB base mg c Pt) (hmT : (Pt, X.env.qual ++ "<lambda>") ∈ TB.T) (hu : ∀ p ∈ TB.T, p.1 = Pt → p.2 = X.env.qual ++ "<lambda>")
    (hg : GlS sc "sorted") (hm : mg "sorted" = none) (he : XE X Γ e ρ z (.lst ds) z1) (hT : ∀ d ∈ ds, ∃ es, d = .tup es) (hal : PySem.W.AllAlike (ds.map kf)) (hso : PySem.W.Sortable (ds.map kf)) (hdp : ∀ d ∈ ds, (kf d).depth ≤ 90)
    (L : Lam1 params scope x) (hbody : KeyB X body scope x ds kf)
    (hbind : ∀ (q : Str) (cl : List (Str × Addr)) (pm cv ctv v : Value), bindArgs (PySem.W.kla_fn "<lambda>" q params body scope cl pm cv ctv) ⟨[v], []⟩ = pure [(x, v)] := by intro _ _ _ _ _ _; rfl)
    (hdef : defaultsOf params X.env = ([], []) := by rfl) (hv : bootBuiltins "sorted" = some (.builtin "sorted") := by decide +kernel)
    (hs : starEach [e] X.env = (false, eval e X.env) :: starEach [] X.env := by rfl) (hpl : (backTo pos (starEach [e] X.env)).any (·.1) = false := by rfl)
    (hes : backTo pos (starEach [e] X.env) = (false, eval e X.env) :: backTo pos (starEach [] X.env) := by rfl)
    (hall : (backToKw pos (keywordEach [⟨some "key", .Lambda params body scope lpos, kp⟩] X.env)).all (·.1.isSome) = true := by rfl) (hnone : (backToKw pos (keywordEach [⟨some "key", .Lambda params body scope lpos, kp⟩] X.env)).any (·.1.isNone) = false := by rfl)
    (hks : (backToKw pos (keywordEach [⟨some "key", .Lambda params body scope lpos, kp⟩] X.env)).filterMap (·.1) = [Str.ofString "key"] := by rfl) :
    XL X Γ (.Call (.Name "sorted" p) [e] [⟨some "key", .Lambda params body scope lpos, kp⟩] pos) ρ z (ds.mergeSort (PySem.W.dataLe false kf)) z1 := fun σ B H Q S q pins s I => by
  have C' := C
  obtain ⟨hP, hw, hK, hmg, hbs, _, _, _, _, _, room⟩ := C'
  subst hP hw hK hmg hbs
  refine wpAny_Call_Name_kw (ld_blt I (C.gl hg) hm hv ?_)
  refine PyProof.Rows.callWith_kw ?_ hes hpl hall hnone
  refine thn ((a_cons he a_nil hs) σ B H (fun vs H1 => ∃ B1, StpM Γ.M B H B1 H1 ∧ Γ.zp z1 B1 H1 ∧ RepAll X.K B1 vs [.lst ds]) S (fun vs B1 H1 t1 p1 r1 => ⟨B1, t1, p1, r1⟩) pos pins s I) fun us s1 hq => ?_
  obtain ⟨vs, H1, I1, rv, B1, t1, p1, r1⟩ := hq
  obtain ⟨v0, rfl, r0⟩ := rep1 r1
  obtain ⟨w0, rfl, rw0⟩ := vals1 rv
  have S1 := S.stepM t1 p1
  cases r0 with
  | @lst a xs _ hl rr =>
    obtain rfl : w0 = Value.ref a := rw0
    rw [hks]
    refine kws_cons ?_
    refine lam_new (T := TB.T) I1 TBc hcode rfl hmT hu S1.wf.gd.tab hdef L.nf fun f c' pm ctv H2 s2 I2 mk T2 hfn hco hf => ?_
    refine kws_nil ?_
    have hl2 : SqL X.K H2 a xs := by
      rcases hl with (h | ⟨o, h⟩) | h
      · exact .inl (.inl (mk.nt (t1.sub _ _ h) rfl))
      · exact .inl (.inr ⟨o, mk.nt (t1.sub _ _ h) rfl⟩)
      · exact .inr h
    have eB2 : Ex B1 H2 := fun b o hb => mk.nt (t1.sub _ _ hb) (S1.wf.gd.nb b o hb)
    obtain ⟨its, vv, pl, hz⟩ := I2.list hl2
    have hlen : xs.length = ds.length := rr.len
    have hco2 : ∃ (oc : Obj) (vs : Array Value) (t : Tok), s2.heap.get? c' = some oc ∧ oc.data = .fields vs ∧ vs[1]? = some (.str (X.env.qual ++ "<lambda>") t) := (I2.hok c' _ hco).1
    have ez : (xs.zip ds).map (·.2) = ds := zip_snd hlen
    have mem2 : ∀ p ∈ xs.zip ds, p.2 ∈ ds := fun p hp => by rw [← ez]; exact List.mem_map.mpr ⟨p, hp, rfl⟩
    have em : (xs.zip ds).map (fun p => kf p.2) = ds.map kf := by
      rw [← ez, List.map_map, ez]
      rfl
    refine PySem.W.sorted_key_data (b := false) (R := fun (u : Value) (p : V × D) => RelV p.1 u ∧ Rep X.K B1 p.1 p.2 ∧ ItT s2.heap u p.2) (bs := xs.zip ds) (fun p => kf p.2) pl.isList (zip_each I2 eB2 vv rr hT) (by rw [em]; exact hal) (by rw [em]; exact hso)
      (by rw [List.length_zip, ← hlen, Nat.min_self]; exact hz) (fun p hp => ?_) (PyProof.Rows.ksk_s1 _ _) (fun _ => PyProof.Rows.ksk_l1 _ _) (fun _ => PyProof.Rows.ksk_t1 _ _) (fun v pd hR hx h tk hk => ?_) fun out ep h' tk hk hn hD hol eo => ?_
    · have h1 := hdp _ (mem2 p hp)
      have h2 := room.un
      omega
    · obtain ⟨oc, ovs, t, e1, e2, e3⟩ := hco2
      exact lam_turn (s := { s2 with heap := h, toks := tk }) (by have := room.depth; exact this) (hk _ _ hf) ⟨oc, ovs, t, hk _ _ e1, e2, e3⟩ (I2.nolimit.keeps hk) L (hbind _ _ _ _ _ _) fun l h1 k1 hns => hbody _ s2.heap h1 v pd.2 l f c' _ (mem2 _ hx) hR.2.2 (Kp.trans hk k1) hns
    · obtain ⟨e1, e2⟩ := each_vals eo
      rw [sort_snd, ez] at e2
      have hlo : ((xs.zip ds).mergeSort (PySem.W.dataLe false fun p => kf p.2)).length = xs.length := by
        rw [List.length_mergeSort, List.length_zip, ← hlen, Nat.min_self]
      have f2 : H2 (s2.heap.objs.size + 1) = none := I2.hok.fresh (Nat.le_succ _)
      have I3 : Inv X pins σ (upd H2 (s2.heap.objs.size + 1) (.lst (((xs.zip ds).mergeSort (PySem.W.dataLe false fun p => kf p.2)).map (·.1)))) { s2 with heap := h', toks := tk } :=
        I2.laid hk (Nat.le_succ _) ⟨by rw [List.length_map, hlo]; exact hz, out, ep, e1, hD⟩
      have b1 : B1 (s2.heap.objs.size + 1) = none := by
        cases qq : B1 (s2.heap.objs.size + 1) with
        | none => rfl
        | some o => rw [eB2 _ _ qq] at f2; cases f2
      have st : StpM Γ.M B1 H1 B1 H2 := ⟨Ex.refl _, fun a o _ h n => mk.nt h n, fun a h => mk.ne h, eB2, fun _ _ => rfl, fun g => ⟨T2, g.nb⟩⟩
      have h0 : H (s2.heap.objs.size + 1) = none := by
        cases qq : H (s2.heap.objs.size + 1) with
        | none => rfl
        | some o => exact absurd f2 (mk.ne (t1.eM _ (some_ne qq)))
      have st3 : Stp B1 H2 B1 (upd H2 (s2.heap.objs.size + 1) (.lst (((xs.zip ds).mergeSort (PySem.W.dataLe false fun p => kf p.2)).map (·.1)))) := .newO eB2 f2
      have zp3 : Γ.zp z1 B1 (upd H2 (s2.heap.objs.size + 1) (.lst (((xs.zip ds).mergeSort (PySem.W.dataLe false fun p => kf p.2)).map (·.1)))) :=
        Γ.zfr _ _ _ _ _ p1 (Ex.refl _) (fun a o _ h n => st3.eH a o (mk.nt h n) n) fun a m => (Γ.znb _ _ _ p1 a m).1
      refine ⟨.ref (s2.heap.objs.size + 1), _, I3, rfl, q _ _ B1 _ (t1.trans (st.trans (.of st3))) zp3 h0 b1 upd_same e2⟩
end
end DL

namespace DL
open PySem PySem.Spec PyProof.Rows L2
variable [TB]
section
variable {X : Cx} {Γ : G} {N : List Str} {sc : Scope} {P : Program} {w : World} {K : PySem.W.Frag} {mg : Str → Option Value} {base : Heap} {k : Nat}
variable {e a b c tg it elt iter : Expr} {es tgs ifs : List Expr} {st : Stmt} {sts body : List Stmt} {ρ ρ' ρ1 ρ2 : En} {z z1 z2 z3 : Γ.Z} {d d0 d1 d2 d3 : D} {ds ds1 ds2 : List D} {pos p p2 p3 p4 : Pos} {i j : Int} {Po : Post Γ} {s t : Bool} {x : Str}
/-- the truth of a list of one's own -/
theorem t_trO (n : Nat) (C : Cxt X N sc P w K mg base k) (hN : N[n]? = some x) (hv : visC sc x = true) (ho : ρ[n]? = some (.own ds)) (hd : (x == ("__debug__" : Str)) = false := by decide) (hcd : (x == ("__classdict__" : Str)) = false := by decide)
    (he : ∀ whole, isTrue (.Name x p2) X.env whole = (do let v ← whole; standAt (Expr.Name x p2).pos; holding [v] (truthy v)) := by intro _; rfl) : XT X Γ (.Name x p2) ρ z (!ds.isEmpty) z := fun σ B H Q S q => by
  obtain ⟨a, vs, ea, h0, hb, hh, r⟩ := S.own ho
  have ie : ∀ {vs : List V} {ds : List D}, RepAll X.K B vs ds → (!vs.isEmpty) = !ds.isEmpty := fun r => by cases r <;> rfl
  refine tOf (pt_truth (pe_var (i := n) (by rw [C.hN]; exact hN) (by rw [C.hsc]; exact vis_of hv) hd hcd) he) ⟨_, ea, _, .inl ⟨_, .of hh, rfl⟩, ?_⟩
  rw [ie r]
  exact q B H (.refl S.wf.sub) S.wf.z
theorem atI_last {ds : List D} {d : D} (h : ds.getLast? = some d) : atI ds (-1) = some d := by
  unfold atI
  have hl : ds ≠ [] := fun q => by rw [q] at h; cases h
  have h1 : 0 < ds.length := List.length_pos_iff.mpr hl
  have e : ixN ds.length (-1) = some (ds.length - 1) := by
    unfold ixN
    rw [if_neg (by decide), if_pos (by omega)]
    congr 1
    omega
  rw [e]
  rw [List.getLast?_eq_getElem?] at h
  exact h
theorem RepAll.dropLast {B : Hp} : ∀ {vs : List V} {ds : List D}, RepAll K B vs ds → RepAll K B vs.dropLast ds.dropLast
  | _, _, .nil => .nil
  | _, _, .cons h .nil => .nil
  | _, _, .cons h (.cons h2 r) => .cons h (RepAll.dropLast (.cons h2 r))
/-- tg = x.pop(), x a list of one's own -/
theorem xs_pop (n : Nat) {ns : List Nat} (C : Cxd X N sc P w K mg base k) (hN : N[n]? = some x) (hv : visC sc x = true) (ho : ρ[n]? = some (.own ds)) (hl : ds.getLast? = some d) (g : XG X Γ tg ns d (ρ.set n (.own ds.dropLast)) ρ1) (q : Po.nx ρ1 z)
    (hd : (x == ("__debug__" : Str)) = false := by decide) (hcd : (x == ("__classdict__" : Str)) = false := by decide)
    (hbase : attributeBase (.Name x p2) "pop" X.env (eval (.Name x p2) X.env) = eval (.Name x p2) X.env := by rfl) (hline : (p3.endLine == p4.line) = true := by rfl)
    (hs : swapsWithSole [tg] (.Call (.Attribute (.Name x p2) "pop" p3) [] [] p4) pos.line X.env = pure false := by rfl) (hw : swappedStores [tg] (.Call (.Attribute (.Name x p2) "pop" p3) [] [] p4) X.env = pure none := by rfl)
    (h1 : (assignEach [tg] X.env).map (·.2) = [assign tg X.env] := by rfl) : XS X Γ (.Assign [tg] (.Call (.Attribute (.Name x p2) "pop" p3) [] [] p4) pos) ρ z Po := fun σ B H E S l => by
  obtain ⟨a, vs, ea, h0, hb, hh, r⟩ := S.own ho
  have hpe : PE X (.Call (.Attribute (.Name x p2) "pop" p3) [] [] p4) (tBM0 X.K "list" rPop (tVar n)) :=
    pe_bm0 PySem.F.plainAttrs_list PySem.F.slot_list_pop PySem.F.type_list_pop mt_pop (pe_var (by rw [C.hN]; exact hN) (by rw [C.hsc]; exact vis_of hv) hd hcd) hbase hline
  have hl' : ds[ds.length - 1]? = some d := by rw [← List.getLast?_eq_getElem?]; exact hl
  obtain ⟨v, hv', rv⟩ := r.get hl'
  rw [← r.len] at hv'
  refine sOf (ps_asg hpe pgS hs hw h1) ⟨_, ea, .inl ⟨rfl, _, .inl (.inl hh)⟩, a, vs, v, rfl, rfl, hh, hv', ?_⟩
  exact g _ σ B _ v _ (S.mutOwn ho ea r.dropLast) rv fun σ' S' _ => l.nx _ _ _ B _ (Ex.refl _) S' q
/-- x + a new list, x a list of one's own -/
theorem l_addO (n : Nat) (C : Cxt X N sc P w K mg base k) (hN : N[n]? = some x) (hv : visC sc x = true) (ho : ρ[n]? = some (.own ds)) (hb : XL X Γ b ρ z ds1 z1) (hlen : ds.length + ds1.length ≤ sizeLine)
    (hd : (x == ("__debug__" : Str)) = false := by decide) (hcd : (x == ("__classdict__" : Str)) = false := by decide) : XL X Γ (.BinOp (.Name x p2) .Add b pos) ρ z (ds ++ ds1) z1 := fun σ B H Q S q => by
  obtain ⟨a, vs, ea, h0, hb0, hh, r⟩ := S.own ho
  refine eOf (pe_op op_cat (pe_var (i := n) (by rw [C.hN]; exact hN) (by rw [C.hsc]; exact vis_of hv) hd hcd) peS) ⟨_, ea, hb σ B H _ S fun p us B1 H1 t1 p1 h2 hb1 hp r1 => ?_⟩
  have hh1 : H1 a = some (.lst vs) := t1.eH a _ (fun m => Γ.m0 a m h0) hh
  refine ⟨a, p, vs, us, rfl, rfl, hh1, hp, by rw [r.len, r1.len]; exact hlen, fun p' hp' => ?_⟩
  have t2 : Stp B1 H1 B1 (upd H1 p' (.lst (vs ++ us))) := .newO t1.sub hp'
  have g0 : H p' = none := by
    cases qq : H p' with
    | none => rfl
    | some u => exact absurd hp' (t1.eM p' (some_ne qq))
  have g1 : B1 p' = none := by
    cases qq : B1 p' with
    | none => rfl
    | some u => rw [t1.sub p' u qq] at hp'; cases hp'
  exact q p' _ B1 _ (t1.trans (.of t2)) ((S.stepM t1 p1).zp t2) g0 g1 upd_same ((r.mono t1.eB).app r1)
/-- a new list + x -/
theorem l_addOR (n : Nat) (C : Cxt X N sc P w K mg base k) (hN : N[n]? = some x) (hv : visC sc x = true) (ho : ρ[n]? = some (.own ds)) (ha : XL X Γ a ρ z ds1 z1) (hlen : ds1.length + ds.length ≤ sizeLine)
    (hd : (x == ("__debug__" : Str)) = false := by decide) (hcd : (x == ("__classdict__" : Str)) = false := by decide) : XL X Γ (.BinOp a .Add (.Name x p2) pos) ρ z (ds1 ++ ds) z1 := fun σ B H Q S q => by
  obtain ⟨ad, vs, ea, h0, hb0, hh, r⟩ := S.own ho
  refine eOf (pe_op op_cat peS (pe_var (i := n) (by rw [C.hN]; exact hN) (by rw [C.hsc]; exact vis_of hv) hd hcd)) (ha σ B H _ S fun p us B1 H1 t1 p1 h2 hb1 hp r1 => ⟨_, ea, ?_⟩)
  have hh1 : H1 ad = some (.lst vs) := t1.eH ad _ (fun m => Γ.m0 ad m h0) hh
  refine ⟨p, ad, us, vs, rfl, rfl, hp, hh1, by rw [r.len, r1.len]; exact hlen, fun p' hp' => ?_⟩
  have t2 : Stp B1 H1 B1 (upd H1 p' (.lst (us ++ vs))) := .newO t1.sub hp'
  have g0 : H p' = none := by
    cases qq : H p' with
    | none => rfl
    | some u => exact absurd hp' (t1.eM p' (some_ne qq))
  have g1 : B1 p' = none := by
    cases qq : B1 p' with
    | none => rfl
    | some u => rw [t1.sub p' u qq] at hp'; cases hp'
  exact q p' _ B1 _ (t1.trans (.of t2)) ((S.stepM t1 p1).zp t2) g0 g1 upd_same (r1.app (r.mono t1.eB))
/-- max, min of a list of whole numbers -/
theorem x_maxL {ns : List Int} {m : Int} (C : Cxt X N sc P w K mg base k) (hg : GlS sc "max") (hm : mg "max" = none) (ha : XE X Γ a ρ z (.lst (ns.map D.int)) z1) (h1 : m ∈ ns) (h2 : ∀ y ∈ ns, y ≤ m) (hv : bootBuiltins "max" = some (.builtin "max") := by decide +kernel)
    (hs : starEach [a] X.env = (false, eval a X.env) :: starEach [] X.env := by rfl) : XE X Γ (.Call (.Name "max" p) [a] [] pos) ρ z (.int m) z1 := x_cb C (cr_max C.calm) hg hm hv (he := hs) (ha := a_cons ha a_nil hs) (hr := fun vs B H Q e r q => by
  obtain ⟨v, hvs, r1⟩ := rep1 r
  subst hvs
  cases r1 with
  | lst hl r =>
    have ev := r.ints_inv
    subst ev
    refine ⟨_, ns, rfl, e.sqL hl, List.length_pos_of_mem h1, fun m' g1 g2 => ?_⟩
    have : m' = m := Int.le_antisymm (h2 m' g1) (g2 m h1)
    rw [this]
    exact q _ B H (.refl e) (.int _))
/-- a def of data that makes lambdas or generators: its code object is c -/
theorem fn_DL {fr : List D → D → Prop} {qual y : Str} {st : Stmt} {f c : Addr} {oc kV doc pm ct : Value} {od an : Option Addr} {osl : Array (Option Value)} {ps : List Str} {n : Nat}
    (lk : K.lookup f = some ⟨oc, od, .func (PySem.W.fnOf y qual (defArgs st) (defBody st) (defScope st) .none kV doc pm an (.ref c) ct), osl⟩) (hcd : PySem.W.codeIn K (.ref c) qual = true) (S : FnScope N ps (defScope st)) (hn : ps.length = n)
    (body : ∀ (X : Cx), Cxd X N (defScope st) P w K mg base k → X.env.code = .ref c → X.env.qual = qual ++ ".<locals>." → ∀ (B0 H0 : Hp) (ds : List D) (d : D), ds.length = n → fr ds d → XSs X (gD B0 H0) (defBody st) (envD N.length ds) () { nx := fun _ _ => d = .non, rt := fun d' _ => d' = d }) :
    FnOk P w K mg base CX0 (k + 1) f (PySem.W.fnOf y qual (defArgs st) (defBody st) (defScope st) .none kV doc pm an (.ref c) ct) ps (spD K n fr) := by
  refine fn_of lk hcd S (fun vs H Q E h => h.1.trans hn.symm) fun A outer s H vs Q E hr h => ?_
  obtain ⟨hl, ds, d, B, hf, e, g, r, q⟩ := h
  have hpl : ps.length ≤ N.length := by have := congrArg List.length S.pre; rw [List.length_take] at this; omega
  have hds : ds.length = n := by rw [← r.len]; exact hl
  have C := cxd_of (P := P) (w := w) (K := K) (mg := mg) (base := base) (s := s) (H := H) (E := E) (outer := outer) S.nd hr
  refine ⟨_, (pssS (X := (cxOf CX0 P w K mg base N qual (defScope st) f (.ref c) A outer s H E).nox) (sts := defBody st)).nox, ?_⟩
  refine body _ C rfl rfl B H ds d hds hf (L2.start N vs) B H _ (sat_start ⟨e, Ex.refl _, fun _ _ _ h _ => h, fun _ h => h, fun _ _ => rfl, trivial, g⟩ r (by omega)) ⟨fun ρ z σ B' H' _ S' e' => ?_, fun v d' z B' H' _ w' r' e' => ?_, fun _ _ _ _ _ _ _ h => h.elim, fun _ _ _ _ _ _ _ h => h.elim⟩
  · have st : Stp B H B' H' := ⟨S'.wf.eB, fun a o h n => S'.wf.eH a o (fun z => z) h n, S'.wf.eM, S'.wf.sub, S'.wf.fr, fun _ => S'.wf.gd⟩
    exact q _ B' H' st (by rw [e']; exact .non)
  · have st : Stp B H B' H' := ⟨w'.eB, fun a o h n => w'.eH a o (fun z => z) h n, w'.eM, w'.sub, w'.fr, fun _ => w'.gd⟩
    exact q _ B' H' st (by rw [← e']; exact r')
end
end DL

namespace DL
open PySem PySem.Spec PyProof.Rows L2
variable [TB]
/-! ### data of whole numbers, None, texts, lists and tuples: its == is = -/
mutual
def D.sim : D → Nat → Bool
  | .non, _ => true
  | .int _, _ => true
  | .str s, _ => PyData.canLay0 (.str s)
  | .lst xs, n => match n with
    | 0 => false
    | m + 1 => simAll xs m
  | .tup xs, n => match n with
    | 0 => false
    | m + 1 => simAll xs m
  | _, _ => false
def simAll : List D → Nat → Bool
  | [], _ => true
  | d :: ds, n => d.sim n && simAll ds n
end
theorem simAll_of {ds : List D} {n : Nat} (h : ∀ d ∈ ds, d.sim n = true) : simAll ds n = true := by
  induction ds with
  | nil => rfl
  | cons d ds ih =>
    show (d.sim n && simAll ds n) = true
    rw [h d (List.mem_cons_self ..), ih fun e he => h e (List.mem_cons_of_mem _ he)]
    rfl
theorem simAll_map {α : Type} {f : α → D} {xs : List α} {n : Nat} (h : ∀ x, (f x).sim n = true) : simAll (xs.map f) n = true := simAll_of fun d hd => by
  obtain ⟨x, _, rfl⟩ := List.mem_map.mp hd
  exact h x
theorem sim_lst {ds : List D} {n : Nat} (h : simAll ds n = true) : (D.lst ds).sim (n + 1) = true := h
theorem sim_tup {ds : List D} {n : Nat} (h : simAll ds n = true) : (D.tup ds).sim (n + 1) = true := h
mutual
theorem D.sim_plain : ∀ (d : D) (n : Nat), d.sim n = true → d.plain = true
  | .non, _, _ => rfl
  | .int _, _, _ => rfl
  | .str _, _, _ => rfl
  | .lst xs, n, h => by
    cases n with
    | zero => cases h
    | succ m => exact simAll_plain xs m h
  | .tup xs, n, h => by
    cases n with
    | zero => cases h
    | succ m => exact simAll_plain xs m h
theorem simAll_plain : ∀ (ds : List D) (n : Nat), simAll ds n = true → plainAll ds = true
  | [], _, _ => rfl
  | d :: ds, n, h => by
    have h : (d.sim n && simAll ds n) = true := h
    rw [Bool.and_eq_true] at h
    show (d.plain && plainAll ds) = true
    rw [D.sim_plain d n h.1, simAll_plain ds n h.2]
    rfl
end
mutual
theorem D.sim_lay : ∀ (d : D) (n : Nat), d.sim n = true → d.py.canLay0 = true ∧ d.py.depth ≤ n
  | .non, _, _ => ⟨rfl, Nat.zero_le _⟩
  | .int _, _, _ => ⟨rfl, Nat.zero_le _⟩
  | .str _, _, h => ⟨h, Nat.zero_le _⟩
  | .lst xs, n, h => by
    cases n with
    | zero => cases h
    | succ m =>
      obtain ⟨a, b⟩ := simAll_lay xs m h
      exact ⟨a, Nat.succ_le_succ b⟩
  | .tup xs, n, h => by
    cases n with
    | zero => cases h
    | succ m =>
      obtain ⟨a, b⟩ := simAll_lay xs m h
      exact ⟨a, Nat.succ_le_succ b⟩
theorem simAll_lay : ∀ (ds : List D) (n : Nat), simAll ds n = true → PyData.canLayAll0 (pyAll ds) = true ∧ PyData.depthAll (pyAll ds) ≤ n
  | [], _, _ => ⟨rfl, Nat.zero_le _⟩
  | d :: ds, n, h => by
    have h : (d.sim n && simAll ds n) = true := h
    rw [Bool.and_eq_true] at h
    obtain ⟨a, b⟩ := D.sim_lay d n h.1
    obtain ⟨a2, b2⟩ := simAll_lay ds n h.2
    refine ⟨?_, Nat.max_le.mpr ⟨b, b2⟩⟩
    show (d.py.canLay0 && PyData.canLayAll0 (pyAll ds)) = true
    rw [a, a2]
    rfl
end
theorem sim_shaped {d : D} {n : Nat} (h : d.sim n = true) (hn : n ≤ 64 := by decide) : SeqAt.shaped d.py = true := by
  obtain ⟨a, b⟩ := D.sim_lay d n h
  show (d.py.canLay0 && decide (d.py.depth ≤ 64)) = true
  rw [a, decide_eq_true (Nat.le_trans b hn)]
  rfl
mutual
theorem D.sim_eq : ∀ (d e : D) (n m : Nat), d.sim n = true → e.sim m = true → (PyData.eqv d.py e.py = true ↔ d = e)
  | .non, e, _, _, _, h => by cases e <;> first | (cases h; done) | simp [D.py, PyData.eqv]
  | .int i, e, _, _, _, h => by cases e <;> first | (cases h; done) | simp [D.py, PyData.eqv]
  | .str s, e, _, _, _, h => by cases e <;> first | (cases h; done) | simp [D.py, PyData.eqv]
  | .lst xs, e, n, m, h0, h => by
    cases e with
    | lst ys =>
      cases n with
      | zero => cases h0
      | succ n => cases m with
        | zero => cases h
        | succ m =>
          have := simAll_eq xs ys n m h0 h
          simp only [D.py, PyData.eqv, this, D.lst.injEq]
    | non => simp [D.py, PyData.eqv]
    | int i => simp [D.py, PyData.eqv]
    | str i => simp [D.py, PyData.eqv]
    | tup i => simp [D.py, PyData.eqv]
    | _ => cases h
  | .tup xs, e, n, m, h0, h => by
    cases e with
    | tup ys =>
      cases n with
      | zero => cases h0
      | succ n => cases m with
        | zero => cases h
        | succ m =>
          have := simAll_eq xs ys n m h0 h
          simp only [D.py, PyData.eqv, this, D.tup.injEq]
    | non => simp [D.py, PyData.eqv]
    | int i => simp [D.py, PyData.eqv]
    | str i => simp [D.py, PyData.eqv]
    | lst i => simp [D.py, PyData.eqv]
    | _ => cases h
theorem simAll_eq : ∀ (ds es : List D) (n m : Nat), simAll ds n = true → simAll es m = true → (PyData.eqvAll (pyAll ds) (pyAll es) = true ↔ ds = es)
  | [], [], _, _, _, _ => by simp [pyAll, PyData.eqvAll]
  | [], e :: es, _, _, _, _ => by simp [pyAll, PyData.eqvAll]
  | d :: ds, [], _, _, _, _ => by simp [pyAll, PyData.eqvAll]
  | d :: ds, e :: es, n, m, h0, h => by
    have h0 : (d.sim n && simAll ds n) = true := h0
    have h : (e.sim m && simAll es m) = true := h
    rw [Bool.and_eq_true] at h0 h
    have a := D.sim_eq d e n m h0.1 h.1
    have b := simAll_eq ds es n m h0.2 h.2
    simp only [pyAll, PyData.eqvAll, Bool.and_eq_true, a, b, List.cons.injEq]
end
section
variable {X : Cx} {Γ : G} {N : List Str} {sc : Scope} {P : Program} {w : World} {K : PySem.W.Frag} {mg : Str → Option Value} {base : Heap} {k : Nat}
variable {a b : Expr} {ρ : En} {z z1 z2 : Γ.Z} {d1 d2 : D} {pos : Pos}
open Classical in
theorem sim_dec {n m : Nat} (h1 : d1.sim n = true) (h2 : d2.sim m = true) : PyData.eqv d1.py d2.py = decide (d1 = d2) := by
  have h := D.sim_eq d1 d2 n m h1 h2
  by_cases q : d1 = d2
  · rw [decide_eq_true q]; exact h.mpr q
  · rw [decide_eq_false q]
    cases r : PyData.eqv d1.py d2.py with
    | false => rfl
    | true => exact absurd (h.mp r) q
open Classical in
/-- == and != of such data -/
theorem t_eqS (n : Nat) (C : Cxt X N sc P w K mg base k) (ha : XE X Γ a ρ z d1 z1) (hb : XE X Γ b ρ z1 d2 z2) (h1 : d1.sim n = true) (h2 : d2.sim n = true) (hn : n ≤ 64 := by decide) : XT X Γ (.Compare a [.Eq] [b] pos) ρ z (decide (d1 = d2)) z2 := by
  rw [← sim_dec h1 h2]
  exact t_eqD C ha hb (D.sim_plain _ _ h1) (D.sim_plain _ _ h2) (sim_shaped h1 hn) (sim_shaped h2 hn)
open Classical in
theorem t_neS (n : Nat) (C : Cxt X N sc P w K mg base k) (ha : XE X Γ a ρ z d1 z1) (hb : XE X Γ b ρ z1 d2 z2) (h1 : d1.sim n = true) (h2 : d2.sim n = true) (hn : n ≤ 64 := by decide) : XT X Γ (.Compare a [.NotEq] [b] pos) ρ z (!decide (d1 = d2)) z2 := by
  rw [← sim_dec h1 h2]
  exact t_neD C ha hb (D.sim_plain _ _ h1) (D.sim_plain _ _ h2) (sim_shaped h1 hn) (sim_shaped h2 hn)
open Classical in
theorem x_eqS (n : Nat) (C : Cxt X N sc P w K mg base k) (ha : XE X Γ a ρ z d1 z1) (hb : XE X Γ b ρ z1 d2 z2) (h1 : d1.sim n = true) (h2 : d2.sim n = true) (hn : n ≤ 64 := by decide) : XE X Γ (.Compare a [.Eq] [b] pos) ρ z (.bl (decide (d1 = d2))) z2 := by
  rw [← sim_dec h1 h2]
  exact x_eqD C ha hb (D.sim_plain _ _ h1) (D.sim_plain _ _ h2) (sim_shaped h1 hn) (sim_shaped h2 hn)
end
end DL

namespace DL
open PySem PySem.Spec PyProof.Rows L2
variable [TB]
section
variable {X : Cx} {Γ : G} {N : List Str} {sc : Scope} {P : Program} {w : World} {K : PySem.W.Frag} {mg : Str → Option Value} {base : Heap} {k : Nat}
variable {c tg elt iter : Expr} {ρ : En} {z z1 : Γ.Z} {pos : Pos} {α : Type} {Po : Post Γ}
theorem filt_step {scB : Scope} {item : Nat → D} {vs : List Nat} (ss : List α) (g f : α → D) (p : α → Bool)
    (hit : ∀ (m : Nat) (s : α), ss[m]? = some s → item m = g s) (hz : ss.length ≤ 1000000)
    (step : ∀ s ∈ ss, ∃ ns ρ2, (∀ n ∈ ns, n ∈ vs) ∧ ∀ Xb : Cx, Cxt Xb N scB P w K mg base k → XG Xb Γ tg ns (g s) (wipeE ρ vs) ρ2 ∧ XT Xb Γ c ρ2 z1 (p s) z1 ∧ (p s = true → XE Xb Γ elt ρ2 z1 (f s) z1)) :
    (∀ m, m < ss.length → LcStep N scB P w K mg base k Γ tg elt [c] vs ρ (item m) z1 z1 (((ss.take m).filter p).map f) (((ss.take (m + 1)).filter p).map f)) ∧ (∀ m, m < ss.length → (((ss.take m).filter p).map f).length < sizeLine) := by
  refine ⟨fun m hm => ?_, fun m hm => ?_⟩
  · have e1 : ss[m]? = some ss[m] := List.getElem?_eq_getElem hm
    obtain ⟨ns, ρ2, h1, h2⟩ := step ss[m] (List.getElem_mem hm)
    have e2 : ((ss.take (m + 1)).filter p).map f = if p ss[m] = true then ((ss.take m).filter p).map f ++ [f ss[m]] else ((ss.take m).filter p).map f := by
      rw [List.take_add_one, e1, List.filter_append, List.map_append]
      show _ ++ List.map f (List.filter p [ss[m]]) = _
      cases h : p ss[m] with
      | true => rw [List.filter_cons_of_pos h, List.filter_nil, if_pos rfl]; rfl
      | false => rw [List.filter_cons_of_neg (by rw [h]; decide), List.filter_nil, if_neg (by decide)]; simp
    rw [e2, hit m _ e1]
    exact lcStepIf h1 (fun Xb D => h2 Xb D) fun _ => rfl
  · rw [List.length_map, sizeLine_eq]
    have h1 : ((ss.take m).filter p).length ≤ (ss.take m).length := List.length_filter_le _ _
    have h2 : (ss.take m).length ≤ ss.length := by rw [List.length_take]; exact Nat.min_le_right _ _
    omega
/-- the items of which p holds, each as f -/
theorem l_filt {scope : Scope} {n : Nat} {item : Nat → D} (own : List (Str × Nat)) (ss : List α) (g f : α → D) (p : α → Bool) (C : Cxt X N sc P w K mg base k) (hok : blkC N sc scope own = true) (hi : XI X Γ tg iter ρ z n item z1) (hn : n = ss.length)
    (hit : ∀ (m : Nat) (s : α), ss[m]? = some s → item m = g s) (hz : ss.length ≤ 1000000)
    (step : ∀ s ∈ ss, ∃ ns ρ2, (∀ n ∈ ns, n ∈ own.map (·.2)) ∧ ∀ Xb : Cx, Cxt Xb N (relS scope sc) P w K mg base k → XG Xb Γ tg ns (g s) (wipeE ρ (own.map (·.2))) ρ2 ∧ XT Xb Γ c ρ2 z1 (p s) z1 ∧ (p s = true → XE Xb Γ elt ρ2 z1 (f s) z1))
    (hs : ∀ x, foldedSetIterable iter X.env x = pure x := by intro _; rfl) : XL X Γ (.ListComp elt [⟨tg, iter, [c], 0⟩] scope pos) ρ z ((ss.filter p).map f) z1 := by
  subst hn
  obtain ⟨h1, h2⟩ := filt_step ss g f p hit hz step
  refine l_to (l_lc own C hok hi (fun m => ((ss.take m).filter p).map f) (fun _ => z1) rfl rfl h1 h2 hs) ?_
  rw [List.take_length]
/-- y = [.. if ..], a plain local -/
theorem xs_setFilt {scope : Scope} {n : Nat} {item : Nat → D} {y : Str} {py spos : Pos} (o : Nat) (own : List (Str × Nat)) (ss : List α) (g f : α → D) (p : α → Bool) (C : Cxd X N sc P w K mg base k) (hy : N[o]? = some y) (hyl : sc.names.lookup y = some .local) (hok : blkC N sc scope own = true) (hi : XI X Γ tg iter ρ z n item z1) (hn : n = ss.length)
    (hit : ∀ (m : Nat) (s : α), ss[m]? = some s → item m = g s) (hz : ss.length ≤ 1000000)
    (step : ∀ s ∈ ss, ∃ ns ρ2, (∀ n ∈ ns, n ∈ own.map (·.2)) ∧ ∀ Xb : Cx, Cxt Xb N (relS scope sc) P w K mg base k → XG Xb Γ tg ns (g s) (wipeE ρ (own.map (·.2))) ρ2 ∧ XT Xb Γ c ρ2 z1 (p s) z1 ∧ (p s = true → XE Xb Γ elt ρ2 z1 (f s) z1))
    (q : Po.nx (ρ.set o (.own ((ss.filter p).map f))) z1)
    (hk : sc.kind = .function := by rfl) (hl : (py.line == pos.line) = true := by rfl) (ha : (scope.names.any fun (n, k) => n == y && (k == .local || k == .cell)) = false := by rfl)
    (hs : ∀ x, foldedSetIterable iter X.env x = pure x := by intro _; rfl) : XS X Γ (.Assign [.Name y py] (.ListComp elt [⟨tg, iter, [c], 0⟩] scope pos) spos) ρ z Po := by
  subst hn
  obtain ⟨h1, h2⟩ := filt_step ss g f p hit hz step
  exact xs_setLc o own C hy hyl hok hi (fun m => ((ss.take m).filter p).map f) (fun _ => z1) rfl rfl h1 h2 (by rw [List.take_length]; exact q) hk hl ha hs
theorem all_step {scB : Scope} {item : Nat → D} {vs : List Nat} (ss : List α) (g f : α → D) (hit : ∀ (m : Nat) (s : α), ss[m]? = some s → item m = g s) (hz : ss.length ≤ 1000000)
    (step : ∀ s ∈ ss, ∃ ns ρ2, (∀ n ∈ ns, n ∈ vs) ∧ ∀ Xb : Cx, Cxt Xb N scB P w K mg base k → XG Xb Γ tg ns (g s) (wipeE ρ vs) ρ2 ∧ XE Xb Γ elt ρ2 z1 (f s) z1) :
    (∀ m, m < ss.length → LcStep N scB P w K mg base k Γ tg elt [] vs ρ (item m) z1 z1 ((ss.take m).map f) ((ss.take (m + 1)).map f)) ∧ (∀ m, m < ss.length → ((ss.take m).map f).length < sizeLine) := by
  refine ⟨fun m hm => ?_, fun m hm => ?_⟩
  · have e1 : ss[m]? = some ss[m] := List.getElem?_eq_getElem hm
    obtain ⟨ns, ρ2, h1, h2⟩ := step ss[m] (List.getElem_mem hm)
    have e2 : (ss.take (m + 1)).map f = (ss.take m).map f ++ [f ss[m]] := by
      rw [List.take_add_one, e1, List.map_append]
      rfl
    rw [e2, hit m _ e1]
    exact lcStep h1 fun Xb D => h2 Xb D
  · rw [List.length_map, sizeLine_eq]
    have h2 : (ss.take m).length ≤ ss.length := by rw [List.length_take]; exact Nat.min_le_right _ _
    omega
/-- the items, each as f -/
theorem l_all {scope : Scope} {n : Nat} {item : Nat → D} (own : List (Str × Nat)) (ss : List α) (g f : α → D) (C : Cxt X N sc P w K mg base k) (hok : blkC N sc scope own = true) (hi : XI X Γ tg iter ρ z n item z1) (hn : n = ss.length)
    (hit : ∀ (m : Nat) (s : α), ss[m]? = some s → item m = g s) (hz : ss.length ≤ 1000000)
    (step : ∀ s ∈ ss, ∃ ns ρ2, (∀ n ∈ ns, n ∈ own.map (·.2)) ∧ ∀ Xb : Cx, Cxt Xb N (relS scope sc) P w K mg base k → XG Xb Γ tg ns (g s) (wipeE ρ (own.map (·.2))) ρ2 ∧ XE Xb Γ elt ρ2 z1 (f s) z1)
    (hs : ∀ x, foldedSetIterable iter X.env x = pure x := by intro _; rfl) : XL X Γ (.ListComp elt [⟨tg, iter, [], 0⟩] scope pos) ρ z (ss.map f) z1 := by
  subst hn
  obtain ⟨h1, h2⟩ := all_step ss g f hit hz step
  refine l_to (l_lc own C hok hi (fun m => (ss.take m).map f) (fun _ => z1) rfl rfl h1 h2 hs) ?_
  rw [List.take_length]
theorem xs_setAll {scope : Scope} {n : Nat} {item : Nat → D} {y : Str} {py spos : Pos} (o : Nat) (own : List (Str × Nat)) (ss : List α) (g f : α → D) (C : Cxd X N sc P w K mg base k) (hy : N[o]? = some y) (hyl : sc.names.lookup y = some .local) (hok : blkC N sc scope own = true) (hi : XI X Γ tg iter ρ z n item z1) (hn : n = ss.length)
    (hit : ∀ (m : Nat) (s : α), ss[m]? = some s → item m = g s) (hz : ss.length ≤ 1000000)
    (step : ∀ s ∈ ss, ∃ ns ρ2, (∀ n ∈ ns, n ∈ own.map (·.2)) ∧ ∀ Xb : Cx, Cxt Xb N (relS scope sc) P w K mg base k → XG Xb Γ tg ns (g s) (wipeE ρ (own.map (·.2))) ρ2 ∧ XE Xb Γ elt ρ2 z1 (f s) z1)
    (q : Po.nx (ρ.set o (.own (ss.map f))) z1)
    (hk : sc.kind = .function := by rfl) (hl : (py.line == pos.line) = true := by rfl) (ha : (scope.names.any fun (n, k) => n == y && (k == .local || k == .cell)) = false := by rfl)
    (hs : ∀ x, foldedSetIterable iter X.env x = pure x := by intro _; rfl) : XS X Γ (.Assign [.Name y py] (.ListComp elt [⟨tg, iter, [], 0⟩] scope pos) spos) ρ z Po := by
  subst hn
  obtain ⟨h1, h2⟩ := all_step ss g f hit hz step
  exact xs_setLc o own C hy hyl hok hi (fun m => (ss.take m).map f) (fun _ => z1) rfl rfl h1 h2 (by rw [List.take_length]; exact q) hk hl ha hs
theorem hit_map {g : α → D} {ss : List α} : ∀ (m : Nat) (s : α), ss[m]? = some s → (fun m => (ss.map g).getD m .non) m = g s := fun m s h => getD_of (by rw [List.getElem?_map, h]; rfl)
end
section
variable {X : Cx} {Γ : G} {a b c e : Expr} {op op' op2 : CmpOp} {ρ : En} {z : Γ.Z} {pos : Pos} {i j l m : Int} {g g' g2 : Int → Int → Bool}
theorem t_ch2 (ho : OpR X (compareOp op) (rI0 fun i j => V.bl (g i j))) (ho' : OpR X (compareOp op') (rI0 fun i j => V.bl (g' i j))) (ha : XE X Γ a ρ z (.int i) z) (hb : XE X Γ b ρ z (.int j) z) (hc : XE X Γ c ρ z (.int l) z)
    (hm : lastMarks [op, op'] [b, c] = false := by with_unfolding_all rfl) : XT X Γ (.Compare a [op, op'] [b, c] pos) ρ z (g i j && g' j l) z := fun σ B H Q S q => by
  refine tOf (pt_chain ho ho' peS peS peS hm) (ha σ B H _ S fun v B1 H1 t1 p1 r1 => ?_)
  have S1 := S.stepM t1 p1
  refine hb σ B1 H1 _ S1 fun u B2 H2 t2 p2 r2 => ?_
  have S2 := S1.stepM t2 p2
  cases r1; cases r2
  refine ⟨i, j, rfl, rfl, g i j, rfl, ?_⟩
  cases hg : g i j with
  | true =>
    rw [if_pos rfl]
    refine hc σ B2 H2 _ S2 fun w B3 H3 t3 p3 r3 => ?_
    cases r3
    refine ⟨j, l, rfl, rfl, g' j l, rfl, ?_⟩
    have := q B3 H3 ((t1.trans t2).trans t3) p3
    rw [hg, Bool.true_and] at this
    exact this
  | false =>
    rw [if_neg (by decide)]
    refine ⟨false, rfl, ?_⟩
    have := q B2 H2 (t1.trans t2) p2
    rw [hg, Bool.false_and] at this
    exact this
end
end DL

namespace DL
open PySem PySem.Spec PyProof.Rows L2
variable [TB]
section
variable {P : Program} {w : World} {K : PySem.W.Frag} {mg : Str → Option Value} {base : Heap}
variable {qual : Str} {st : Stmt} {f : Addr} {fd : FuncData} {N : List Str} {k j : Nat}
/-- the same of a law that makes lambdas or generators -/
theorem law_mkL {rest : List Stmt} {p1 p2 p3 p4 p5 : Pos} {s0 s1 : Str} {N' : List Str} {c : Addr} {oc kV doc pm ct : Value} {od an : Option Addr} {osl : Array (Option Value)} (lk : K.lookup f = some ⟨oc, od, .func (PySem.W.fnOf "law" qual (defArgs st) (defBody st) (defScope st) .none kV doc pm an (.ref c) ct), osl⟩) (hcd0 : PySem.W.codeIn K (.ref c) qual = true) (S : FnScope (s0 :: s1 :: N') [s0] (defScope st)) (FS : Fnc P w K mg base "_law_state" j (spState K)) (hj : j ≤ k)
    (hb : defBody st = .Assign [.Name s1 p1] (.Call (.Name "_law_state" p2) [.Name s0 p3] [] p4) p5 :: rest)
    (hg : GlS (defScope st) "_law_state") (hv : visC (defScope st) s0 = true) (hl : locC (defScope st) s1 = true)
    (hd : (s0 == ("__debug__" : Str)) = false) (hcd : (s0 == ("__classdict__" : Str)) = false)
    (body : ∀ (X : Cx), Cxd X (s0 :: s1 :: N') (defScope st) P w K mg base k → X.env.code = .ref c → X.env.qual = qual ++ ".<locals>." → ∀ (sa sc : Addr) (B0 H0 : Hp) (h : H0 sa ≠ none ∧ H0 sc ≠ none) (z : List Int × Int),
      XSs X (gZ sa sc B0 H0 h) rest (envL (N'.length + 2)) z { nx := fun _ _ => False, rt := fun d _ => d = .bl true }) :
    FnOk P w K mg base CX0 (k + 1) f (PySem.W.fnOf "law" qual (defArgs st) (defBody st) (defScope st) .none kV doc pm an (.ref c) ct) [s0] (spLaw K) := by
  refine fn_of lk hcd0 S (fun vs H Q E h => ?_) fun A outer s H vs Q E hr h => ?_
  · obtain ⟨_, a, ns, rfl, _⟩ := h; rfl
  · obtain ⟨hT, a, ns, rfl, hS, hlen, q⟩ := h
    have C : Cxd (cxOf CX0 P w K mg base (s0 :: s1 :: N') qual (defScope st) f (.ref c) A outer s H E).nox (s0 :: s1 :: N') (defScope st) P w K mg base k := cxd_of S.nd hr
    obtain ⟨fA, fdS, ps, ok, hm, hk, hbd⟩ := FS
    rw [hb]
    refine ⟨_, (pss_cons (X := (cxOf CX0 P w K mg base (s0 :: s1 :: N') qual (defScope st) f (.ref c) A outer s H E).nox) (ps_set (i := 1) S.nd rfl (loc_of hl) (pe_call (ok.mono hj) C.room (C.gl hg) hm hk hbd .nil pass0 (pa_cons (pe_var (i := 0) rfl (vis_of hv) hd hcd) pa_nil)) rfl (.inl rfl)) pssS).nox, ?_⟩
    refine ⟨.ref a, rfl, a, ns, rfl, hS, hlen, fun p c' H' e hpc hp hc hp' hc' => ?_⟩
    -- from here on: nothing of what stands now but the state may change
    have h0 : H' p ≠ none ∧ H' c' ≠ none := ⟨some_ne hp', some_ne hc'⟩
    have wf : Wf (gZ p c' (noTab H) H' h0) (ns.map absI, seedOf ns + 1) (noTab H) H' := ⟨fun a o h => e a o (noTab_some h).1, Ex.refl _, fun _ _ _ h _ => h, fun _ h => h, fun _ _ => rfl, ⟨hpc, noTab_none hp, noTab_none hc, hp', hc'⟩, ⟨hT.ext e, fun a o h => (noTab_some h).2⟩⟩
    refine body _ C rfl rfl p c' (noTab H) H' h0 _ _ (noTab H) H' _ ⟨wf, ?_, fun i s h => ?_, fun i j es fs a' _ hi _ _ => ?_⟩ ⟨fun _ _ _ _ _ _ _ h => h.elim, fun v d z B' H2 _ w' r' e' => ?_, fun _ _ _ _ _ _ _ h => h.elim, fun _ _ _ _ _ _ _ h => h.elim⟩
    · simp [L2.start, envL]
    · unfold envL at h
      match i, h with
      | 0, h => cases h; exact ⟨_, rfl, trivial⟩
      | 1, h => cases h; exact ⟨_, rfl, rfl⟩
      | i + 2, h =>
        have h : (List.replicate (N'.length + 2 - 2) Sl.no)[i]? = some s := h
        rw [List.getElem?_replicate] at h
        split at h
        · cases h
          refine ⟨none, ?_, trivial⟩
          rw [List.getElem?_set_ne (by omega)]
          show (some (V.ref a) :: List.replicate ((s0 :: s1 :: N').length - [V.ref a].length) none)[i + 2]? = _
          rw [List.getElem?_cons_succ, List.getElem?_replicate]
          have : i + 1 < (s0 :: s1 :: N').length - [V.ref a].length := by simp; omega
          rw [if_pos this]
        · cases h
    · unfold envL at hi
      match i, hi with
      | 0, h => cases h
      | 1, h => cases h
      | i + 2, h =>
        have h : (List.replicate (N'.length + 2 - 2) Sl.no)[i]? = some (.ob es) := h
        rw [List.getElem?_replicate] at h
        split at h <;> cases h
    · have e' : d = .bl true := e'
      subst e'
      cases r'
      exact q H2
end
end DL

namespace L02
open PySem PySem.Spec PyProof.Rows L2 DL
variable [TB]
def topS (i : Nat) : Stmt := PySem.Challenge.pw_footpath_k02_tiles.main.body.getD i (.Pass ⟨0, 0, 0, 0⟩)
abbrev sState : Stmt := topS 8
abbrev sDraw : Stmt := topS 9
theorem scState : FnScope ["script", "seed", "cell"] ["script"] (defScope sState) := ⟨rfl, rfl, rfl, by decide +kernel, rfl, by decide +kernel, by decide +kernel⟩
theorem scDraw : FnScope ["state", "many", "cells", "value", "mixed"] ["state", "many"] (defScope sDraw) := ⟨rfl, rfl, rfl, by decide +kernel, rfl, by decide +kernel, by decide +kernel⟩
section
variable {P : Program} {w : World} {K : PySem.W.Frag} {mg : Str → Option Value} {base : Heap}
theorem ixN_zero {n : Nat} (h : 0 < n) : ixN n 0 = some 0 := by
  unfold ixN
  rw [if_pos (by decide), if_pos (by omega)]
  rfl
theorem ok_state {f : Addr} {fd : FuncData} {k : Nat} (F : Fun K "_law_state" "_law_state" sState f fd) (m_int : mg "int" = none) (m_abs : mg "abs" = none) : FnOk P w K mg base CX0 (k + 1) f fd ["script"] (spState K) := by
  refine F.ok scState (fun vs H Q E h => ?_) (fun cdv A outer s H vs Q E hr h => ?_)
  · obtain ⟨a, ns, rfl, _⟩ := h; rfl
  · obtain ⟨a, ns, rfl, hS, hlen, q⟩ := h
    refine ⟨_, pss_cons (ps_set (i := 1) scState.nd rfl (.inl rfl) pe_int)
      (pss_cons (ps_for PassesOwn.never rfl (pi_list (pv 0)) (pg_name (i := 2) scState.nd rfl (.inl rfl))
        (pss_one (ps_set (i := 1) scState.nd rfl (.inl rfl) (pe_op op_mod (pe_callTy call_int1 (by rfl) m_int (by decide +kernel) (pa_cons (pe_op op_add (pe_op op_mul (pv 1) pe_int) (pv 2)) pa_nil)) pe_int))))
      (pss_one (ps_ret (pe_lst (pa_cons (pe_lc (own := [("cell", 2)]) (g := gName 2) (tt := tYes) rfl scState.nd (pi_list (pv 0)) (blkOk_by (N := ["script", "seed", "cell"]) (sc := defScope sState) (by decide +kernel))
          (fun _ _ _ _ _ => pg_name (i := 2) scState.nd rfl (Or.inl rfl)) (fun _ _ _ _ _ => pts_nil) (fun _ _ _ _ _ => pe_callB call_abs (by rfl) m_abs (by decide +kernel) (pa_cons (pv 2) pa_nil)))
        (pa_cons (pe_op op_add (pv 1) pe_int) pa_nil)))))), ?_⟩
    refine ⟨.ref a, rfl, a, rfl, ⟨_, hS⟩, ?_⟩
    refine for_list (xs := ns.map V.int) (fun i σ H' => H = H' ∧ ∃ y2, σ = [some (.ref a), some (.int ((ns.take i).foldl (fun s c => (s * 31 + c) % 1000003) 7)), y2]) ⟨rfl, none, rfl⟩ (fun i σ H' _ h => by rw [← h.1]; exact hS) (fun i x σ H' hx h => ?_) (fun σ H' h => ?_)
    · obtain ⟨rfl, y2, rfl⟩ := h
      rw [List.getElem?_map] at hx
      cases hn : ns[i]? with
      | none => rw [hn] at hx; cases hx
      | some c =>
        rw [hn] at hx
        cases hx
        refine ⟨_, rfl, _, 31, rfl, rfl, .inr ⟨by decide, by decide⟩, .int c, rfl, _, c, rfl, rfl, .inl ⟨_, rfl, _, 1000003, rfl, rfl, (show (0 : Int) < 1000003 by decide), rfl, some (.int c), ?_⟩⟩
        show [some (V.ref a), some (V.int _), some (V.int c)] = _
        rw [List.take_add_one, hn, List.foldl_append]
        rfl
    · obtain ⟨rfl, y2, rfl⟩ := h
      rw [List.take_of_length_le (by simp)]
      refine ⟨.ref a, rfl, a, rfl, ⟨_, hS⟩, fun D hD => ?_⟩
      refine lc_list (K := K) (a := a) (xs := ns.map V.int) (fun i (H' : Hp) => Ex _ H' ∧ H' D = some (.lst (((ns.take i).map absI).map V.int))) ⟨Ex.new hD, upd_same⟩ (fun i H' _ h => h.1.sqL hS) (fun i x H' hx h => ?_) (fun H' h => ?_)
      · rw [List.getElem?_map] at hx
        cases hn : ns[i]? with
        | none => rw [hn] at hx; cases hx
        | some c =>
          rw [hn] at hx
          cases hx
          refine ⟨rfl, ?_⟩
          refine iteT (B := Ex H H' ∧ H' D = some (.lst (((ns.take (i + 1)).map absI).map V.int))) ?_
          refine ⟨_, rfl, c, rfl, _, h.2, ?_, fun b o e => ?_, ?_⟩
          · rw [List.length_map, List.length_map, List.length_take]
            exact Nat.lt_of_le_of_lt (Nat.min_le_right _ _) (small1000 (by omega))
          · rw [upd_ne (ne_of_none e hD)]
            exact h.1 b o e
          · rw [upd_same, List.take_add_one, hn]
            simp [absI]
      · rw [List.length_map, List.take_of_length_le (Nat.le_refl _)] at h
        refine ⟨_, rfl, _, 1, rfl, rfl, (by show 2 ≤ sizeLine; decide), fun p hp => ?_⟩
        have hpD : p ≠ D := fun e => by rw [e, h.2] at hp; cases hp
        have hpH : H p = none := by
          cases e : H p with
          | none => rfl
          | some o => rw [h.1 p o e] at hp; cases hp
        exact q p D _ (h.1.trans (Ex.new hp)) hpD hpH hD upd_same (by rw [upd_ne hpD.symm]; exact h.2)
theorem ok_draw {f : Addr} {fd : FuncData} {k : Nat} (F : Fun K "_law_draw" "_law_draw" sDraw f fd) (m_int : mg "int" = none) (m_len : mg "len" = none) : FnOk P w K mg base CX0 (k + 1) f fd ["state", "many"] (spZ K 1 frDraw) := by
  refine F.ok scDraw (fun vs H Q E h => h.1) (fun cdv A outer s H vs Q E hr h => ?_)
  obtain ⟨hl, sa, sc, vs', ds, z, d, z', B, rfl, ⟨m, rfl, hm, hmb, rfl, rfl⟩, e, _, hz, r, q⟩ := h
  obtain ⟨v, rfl, rv⟩ := rep1 r
  cases rv
  obtain ⟨hne, hba, hbc, hsa, hsc⟩ := hz
  refine ⟨_, pss_cons (ps_set (i := 2) scDraw.nd rfl (.inl rfl) (pe_ix ix_list (pv 0) pe_int (fun _ _ => rfl)))
    (pss_cons (ps_while PassesOwn.never (PW.pt (pw_and (pt_cmpR op_gt (pe_callB call_len_seq (by rfl) m_len PySem.boot_len (pa_cons (pv 2) pa_nil)) pe_int (nomark _)) (pw_and1 (pt_cmpR op_eq (pe_ix ix_list (pv 2) pe_int (fun _ _ => rfl)) pe_int (nomark _)))))
      (pss_one (ps_expr (pe_bm PySem.F.plainAttrs_list PySem.F.slot_list_pop PySem.F.type_list_pop mt_popAt (pv 2) (pa_cons pe_int pa_nil)))))
    (pss_cons (ps_if (pt_cmpR op_gt (pe_callB call_len_seq (by rfl) m_len PySem.boot_len (pa_cons (pv 2) pa_nil)) pe_int (nomark _))
      (pss_cons (ps_set (i := 3) scDraw.nd rfl (.inl rfl) (pe_ix ix_list (pv 2) pe_int (fun _ _ => rfl)))
      (pss_cons (ps_asg (pe_op op_fdivW (pv 3) (pv 1)) (pg_sub (pv 2) pe_int set_list))
      (pss_one (ps_ret (pe_op op_mod (pe_callTy call_int1 (by rfl) m_int (by decide +kernel) (pa_cons (pv 3) pa_nil)) (pv 1)))))) pss_nil)
    (pss_cons (ps_set (i := 4) scDraw.nd rfl (.inl rfl) (pe_op op_mod (pe_callTy call_int1 (by rfl) m_int (by decide +kernel) (pa_cons (pe_op op_add (pe_op op_mul (pe_ix ix_list (pv 0) pe_int (fun _ _ => rfl)) pe_int) pe_int) pa_nil)) pe_int))
    (pss_cons (ps_asg (pv 4) (pg_sub (pv 0) pe_int set_list))
    (pss_one (ps_ret (pe_op op_mod (pe_callTy call_int1 (by rfl) m_int (by decide +kernel) (pa_cons (pe_op op_fdiv (pv 4) pe_int) pa_nil)) (pv 1)))))))), ?_⟩
  refine ⟨_, rfl, sa, _, 0, .ref sc, rfl, rfl, .of hsa, atI_nat (j := 0) rfl, ?_⟩
  -- the zeros ahead
  have mutSt : ∀ {H' : Hp} {xs : List V} {s : Int}, (∀ b, b ≠ sa → b ≠ sc → H' b = H b) → H' sa = some (.lst [.ref sc, .int s]) → H' sc = some (.lst xs) → StpM (fun a => a = sa ∨ a = sc) B H B H' := fun {H' xs s} h1 h2 h3 => by
    have ft : ∀ {a : Addr} {o : HO}, H a = some o → (∀ xs, o ≠ .lst xs) → H' a = some o := fun {a o} q1 q2 => by
      rw [h1 a (fun q => by rw [q, hsa] at q1; cases q1; exact q2 _ rfl) (fun q => by rw [q, hsc] at q1; cases q1; exact q2 _ rfl)]
      exact q1
    refine ⟨Ex.refl _, fun a o m h _ => ?_, fun a h => ?_, fun a o h => ?_, fun _ _ => rfl, fun g => ⟨fun p hp => ?_, g.nb⟩⟩
    · rw [h1 a (fun q => m (.inl q)) (fun q => m (.inr q))]; exact h
    · by_cases q1 : a = sa
      · rw [q1, h2]; exact fun q => nomatch q
      · by_cases q2 : a = sc
        · rw [q2, h3]; exact fun q => nomatch q
        · rw [h1 a q1 q2]; exact h
    · rw [h1 a (fun q => by rw [q, hba] at h; cases h) (fun q => by rw [q, hbc] at h; cases h)]
      exact e a o h
    · obtain ⟨ps, u1, u2, u3⟩ := g.tab p hp
      refine ⟨ps, ft u1 (fun _ q => nomatch q), u2, fun pos cv hcv => ?_⟩
      obtain ⟨c', v1, v2⟩ := u3 pos cv hcv
      exact ⟨c', v1, ft v2 (fun _ q => nomatch q)⟩
  refine ⟨fun n σ H' => ∃ cs : List Int, n = cs.length ∧ cs.dropWhile (· == 0) = z.1.dropWhile (· == 0) ∧ σ = [some (.ref sa), some (.int m), some (.ref sc), none, none] ∧ (∀ b, b ≠ sa → b ≠ sc → H' b = H b) ∧ H' sa = some (.lst [.ref sc, .int z.2]) ∧ H' sc = some (.lst (cs.map V.int)),
    ⟨z.1.length, z.1, rfl, rfl, rfl, fun _ _ _ => rfl, hsa, hsc⟩, ?_⟩
  rintro n σ H' ⟨cs, rfl, hd, rfl, hf, ha', hc'⟩
  have fin : ∀ {H' : Hp} {cs : List Int}, cs.dropWhile (· == 0) = z.1.dropWhile (· == 0) → (∀ c r, cs = c :: r → c ≠ 0) → (∀ b, b ≠ sa → b ≠ sc → H' b = H b) → H' sa = some (.lst [.ref sc, .int z.2]) → H' sc = some (.lst (cs.map V.int)) →
      ∀ c r, cs = c :: r → drawZ z m = (c % m, (c / m :: r, z.2)) := fun {H' cs} hd hn _ _ _ c r e => by
    subst e
    have h0 := hn c r rfl
    have e1 : (c :: r).dropWhile (· == 0) = c :: r := by
      rw [List.dropWhile_cons, if_neg (by simpa using h0)]
    unfold drawZ
    rw [← hd, e1]
  refine ⟨.ref sc, rfl, sc, _, rfl, .inl (.of hc'), _, 0, rfl, rfl, _, rfl, ?_⟩
  cases cs with
  | nil =>
    rw [decide_eq_false (by decide)]
    refine iteF (iteF ?_)
    refine ⟨.ref sc, rfl, sc, _, rfl, .inl (.of hc'), _, 0, rfl, rfl, _, rfl, ?_⟩
    rw [decide_eq_false (by decide)]
    refine iteF ?_
    have ed : drawZ z m = ((z.2 * 48271 + 12345) % 2147483647 / 64 % m, ([], (z.2 * 48271 + 12345) % 2147483647)) := by
      unfold drawZ
      rw [← hd]
      rfl
    refine ⟨_, rfl, sa, _, 1, .int z.2, rfl, rfl, .of ha', atI_nat (j := 1) rfl, z.2, 48271, rfl, rfl, .inr ⟨by decide, by decide⟩, _, 12345, rfl, rfl, .inl ⟨_, rfl, _, 2147483647, rfl, rfl, (show (0 : Int) < 2147483647 by decide), ?_⟩⟩
    refine ⟨_, rfl, _, rfl, sa, _, 1, 1, rfl, rfl, ha', rfl, ?_⟩
    refine ⟨_, rfl, _, 64, rfl, rfl, ⟨by decide, by decide⟩, .inl ⟨_, rfl, _, rfl, _, m, rfl, rfl, (show (0 : Int) < m from hm), ?_⟩⟩
    rw [ed] at q
    refine q _ B _ (mutSt (xs := []) (s := (z.2 * 48271 + 12345) % 2147483647) (fun b h1 h2 => ?_) upd_same ?_) ⟨hne, hba, hbc, upd_same, ?_⟩ (.int _)
    · rw [upd_ne h1]; exact hf b h1 h2
    · rw [upd_ne hne.symm]; exact hc'
    · rw [upd_ne hne.symm]; exact hc'
  | cons c r =>
    rw [decide_eq_true (by simp)]
    refine iteT ?_
    refine ⟨.ref sc, rfl, sc, _, 0, .int c, rfl, rfl, .of hc', atI_nat (j := 0) rfl, rfl, _, rfl, ?_⟩
    by_cases hc0 : c = 0
    · subst hc0
      rw [decide_eq_true rfl]
      refine iteT ?_
      refine ⟨fun σ' H2 => ∃ n', n' < (0 :: r : List Int).length ∧ ∃ cs : List Int, n' = cs.length ∧ cs.dropWhile (· == 0) = z.1.dropWhile (· == 0) ∧ σ' = [some (.ref sa), some (.int m), some (.ref sc), none, none] ∧ (∀ b, b ≠ sa → b ≠ sc → H2 b = H b) ∧ H2 sa = some (.lst [.ref sc, .int z.2]) ∧ H2 sc = some (.lst (cs.map V.int)),
        fun _ _ h => h, ?_⟩
      refine ⟨.ref sc, rfl, .inl ⟨rfl, _, .inl (.inl hc')⟩, sc, _, 0, 0, .int 0, rfl, rfl, hc', by decide, by decide, (ixN_seq (ixN_zero (by simp))).1, rfl, ?_⟩
      refine ⟨r.length, Nat.lt_succ_self _, r, rfl, ?_, rfl, fun b h1 h2 => ?_, ?_, upd_same⟩
      · rw [← hd, List.dropWhile_cons, if_pos (by decide)]
      · rw [upd_ne h2]; exact hf b h1 h2
      · rw [upd_ne hne]; exact ha'
    · rw [decide_eq_false (fun q => hc0 (V.int.inj q))]
      refine iteF ?_
      refine ⟨.ref sc, rfl, sc, _, rfl, .inl (.of hc'), _, 0, rfl, rfl, _, rfl, ?_⟩
      rw [decide_eq_true (by simp)]
      refine iteT ?_
      have ed := fin hd (fun c' r' e => by cases e; exact hc0) hf ha' hc' c r rfl
      refine ⟨.ref sc, rfl, sc, _, 0, .int c, rfl, rfl, .of hc', atI_nat (j := 0) rfl, ?_⟩
      refine ⟨_, rfl, _, rfl, c, m, rfl, rfl, ⟨hm, hmb⟩, .ref sc, rfl, sc, _, 0, 0, rfl, rfl, hc', ixN_zero (by simp), ?_⟩
      refine ⟨_, rfl, .inl ⟨_, rfl, _, rfl, c, m, rfl, rfl, (show (0 : Int) < m from hm), ?_⟩⟩
      rw [ed] at q
      refine q _ B _ (mutSt (xs := (c / m :: r).map V.int) (s := z.2) (fun b h1 h2 => ?_) ?_ upd_same) ⟨hne, hba, hbc, ?_, upd_same⟩ (.int _)
      · rw [upd_ne h2]; exact hf b h1 h2
      · rw [upd_ne hne]; exact ha'
      · rw [upd_ne hne]; exact ha'
end
end L02

namespace L02
open PySem PySem.Spec PyProof.Rows L2 DL
variable [TB]
structure Sg where
  (co ro ce le wi he st nu de sl ti : Int)
def Sg.fs (s : Sg) : List (Str × D) := [("columns", .int s.co), ("rows", .int s.ro), ("cell", .int s.ce), ("level", .int s.le), ("width", .int s.wi), ("height", .int s.he), ("step", .int s.st), ("slope", .tup [.int s.nu, .int s.de]), ("slack", .int s.sl), ("tile", .int s.ti),
  ("tall", .int (-(-s.he / s.le))), ("rise", .int (s.st / s.le)), ("reach", .int (-(-s.wi / s.ce)))]
def Sg.ds (s : Sg) : List D := [.int s.co, .int s.ro, .int s.ce, .int s.le, .int s.wi, .int s.he, .int s.st, .tup [.int s.nu, .int s.de], .int s.sl, .int s.ti]
structure Sg.ok (s : Sg) : Prop where
  co : 1 ≤ s.co ∧ s.co ≤ 64
  ro : 1 ≤ s.ro ∧ s.ro ≤ 64
  ce : 3 ≤ s.ce ∧ s.ce ≤ 1000
  le : 1 ≤ s.le ∧ s.le ≤ 1000
  wi : 0 ≤ s.wi ∧ s.wi ≤ 4 * s.ce
  he : 1 ≤ s.he ∧ s.he ≤ 1000 * s.le
  st : 0 ≤ s.st ∧ 2 * (s.st / s.le) < -(-s.he / s.le)
  sb : s.st < 2 ^ 59
  sp : 0 ≤ s.nu ∧ s.nu ≤ s.de ∧ s.de ≤ 1000 ∧ 0 < s.de
  sl : 0 ≤ s.sl ∧ s.sl ≤ 1000
  ti : 2 ≤ s.ti ∧ s.ti ≤ 16
def sgK : List Str := ["columns", "rows", "cell", "level", "width", "height", "step", "slope", "slack", "tile", "tall", "rise", "reach"]
theorem fl_columns {s : Sg} {d : D} (h : (s.fs.map (·.2))[0]? = some d) : s.fs.lookup ("columns" : Str) = some d := look_at sgK 0 rfl (by decide +kernel) h
theorem fl_rows {s : Sg} {d : D} (h : (s.fs.map (·.2))[1]? = some d) : s.fs.lookup ("rows" : Str) = some d := look_at sgK 1 rfl (by decide +kernel) h
theorem fl_cell {s : Sg} {d : D} (h : (s.fs.map (·.2))[2]? = some d) : s.fs.lookup ("cell" : Str) = some d := look_at sgK 2 rfl (by decide +kernel) h
theorem fl_level {s : Sg} {d : D} (h : (s.fs.map (·.2))[3]? = some d) : s.fs.lookup ("level" : Str) = some d := look_at sgK 3 rfl (by decide +kernel) h
theorem fl_width {s : Sg} {d : D} (h : (s.fs.map (·.2))[4]? = some d) : s.fs.lookup ("width" : Str) = some d := look_at sgK 4 rfl (by decide +kernel) h
theorem fl_height {s : Sg} {d : D} (h : (s.fs.map (·.2))[5]? = some d) : s.fs.lookup ("height" : Str) = some d := look_at sgK 5 rfl (by decide +kernel) h
theorem fl_step {s : Sg} {d : D} (h : (s.fs.map (·.2))[6]? = some d) : s.fs.lookup ("step" : Str) = some d := look_at sgK 6 rfl (by decide +kernel) h
theorem fl_slope {s : Sg} {d : D} (h : (s.fs.map (·.2))[7]? = some d) : s.fs.lookup ("slope" : Str) = some d := look_at sgK 7 rfl (by decide +kernel) h
theorem fl_slack {s : Sg} {d : D} (h : (s.fs.map (·.2))[8]? = some d) : s.fs.lookup ("slack" : Str) = some d := look_at sgK 8 rfl (by decide +kernel) h
theorem fl_tile {s : Sg} {d : D} (h : (s.fs.map (·.2))[9]? = some d) : s.fs.lookup ("tile" : Str) = some d := look_at sgK 9 rfl (by decide +kernel) h
theorem fl_tall {s : Sg} {d : D} (h : (s.fs.map (·.2))[10]? = some d) : s.fs.lookup ("tall" : Str) = some d := look_at sgK 10 rfl (by decide +kernel) h
theorem fl_rise {s : Sg} {d : D} (h : (s.fs.map (·.2))[11]? = some d) : s.fs.lookup ("rise" : Str) = some d := look_at sgK 11 rfl (by decide +kernel) h
theorem fl_reach {s : Sg} {d : D} (h : (s.fs.map (·.2))[12]? = some d) : s.fs.lookup ("reach" : Str) = some d := look_at sgK 12 rfl (by decide +kernel) h
structure SgT (K : PySem.W.Frag) (Ci : Addr) : Prop where
  cl : Cls K Ci
  n_columns : NoAttr K Ci "columns"
  n_rows : NoAttr K Ci "rows"
  n_cell : NoAttr K Ci "cell"
  n_level : NoAttr K Ci "level"
  n_width : NoAttr K Ci "width"
  n_height : NoAttr K Ci "height"
  n_step : NoAttr K Ci "step"
  n_slope : NoAttr K Ci "slope"
  n_slack : NoAttr K Ci "slack"
  n_tile : NoAttr K Ci "tile"
  n_tall : NoAttr K Ci "tall"
  n_rise : NoAttr K Ci "rise"
  n_reach : NoAttr K Ci "reach"
abbrev sCeiled : Stmt := topS 4
theorem scCeiled : FnScope ["number", "unit"] ["number", "unit"] (defScope sCeiled) := ⟨rfl, rfl, rfl, by decide +kernel, rfl, by decide +kernel, by decide +kernel⟩
abbrev sRequire : Stmt := topS 5
theorem scRequire : FnScope ["name", "holds"] ["name", "holds"] (defScope sRequire) := ⟨rfl, rfl, rfl, by decide +kernel, rfl, by decide +kernel, by decide +kernel⟩
abbrev sInit : Stmt := inClass (topS 6) 0
theorem scInit : FnScope ["self", "columns", "rows", "cell", "level", "width", "height", "step", "slope", "slack", "tile", "num", "den"] ["self", "columns", "rows", "cell", "level", "width", "height", "step", "slope", "slack", "tile"] (defScope sInit) := ⟨rfl, rfl, rfl, by decide +kernel, rfl, by decide +kernel, by decide +kernel⟩
local macro_rules | `(tactic| walk_at "en") => `(tactic| (show XSs _ _ _ _ _ _; refine xss_env (by (dsimp only [envD, envZ, envL, Sg.ds, List.set, List.length, List.map, List.replicate, List.append_eq, List.cons_append, List.nil_append, Nat.reduceAdd, Nat.reduceSub] <;> rfl)) ?_))
def frCeiled (ds : List D) (d : D) : Prop := ∃ a b : Int, 0 < b ∧ b < 2 ^ 60 ∧ ds = [.int a, .int b] ∧ d = .int (-(-a / b))
def frRequire (ds : List D) (d : D) : Prop := ∃ n b, b = true ∧ ds = [.str n, .bl b] ∧ d = .non
def frInit (ds : List D) (fs : List (Str × D)) : Prop := ∃ s : Sg, s.ok ∧ ds = s.ds ∧ fs = s.fs
section
variable {P : Program} {w : World} {K : PySem.W.Frag} {mg : Str → Option Value} {base : Heap}
theorem ok_ceiled {f : Addr} {fd : FuncData} {k : Nat} (F : Fun K "ceiled" "ceiled" sCeiled f fd) : FnOk P w K mg base CX0 (k + 1) f fd ["number", "unit"] (spD K 2 frCeiled) := by
  refine fn_D F scCeiled rfl (fun X C B0 H0 ds d hl hf => ?_)
  obtain ⟨a, b, h1, h2, rfl, rfl⟩ := hf
  walk_at "en"
  exact xss_one (xs_ret (x_neg (x_fdiv (x_neg (x_var 0 C.toCxt rfl rfl rfl)) (x_var 1 C.toCxt rfl rfl rfl) (cdiv_of h1 h2))) rfl)
theorem ok_require {f : Addr} {fd : FuncData} {k : Nat} (F : Fun K "require" "require" sRequire f fd) : FnOk P w K mg base CX0 (k + 1) f fd ["name", "holds"] (spD K 2 frRequire) := by
  refine fn_D F scRequire rfl (fun X C B0 H0 ds d hl hf => ?_)
  obtain ⟨n, b, hb, rfl, rfl⟩ := hf
  subst hb
  walk_at "en"
  refine xss_one (xs_if (t_not (t_val (x_var 1 C.toCxt rfl rfl rfl))) (fun h => absurd h (by decide)) (fun _ => xss_nil rfl))
theorem ok_init {f Ci : Addr} {fd : FuncData} {k jc jr : Nat} {kws : List (Str × V)} (T : SgT K Ci) (F : FunD K "__init__" "Settings.__init__" (defArgs sInit) (defBody sInit) (defScope sInit) [] kws f fd)
    (F_ceiled : Fnc P w K mg base "ceiled" jc (spD K 2 frCeiled)) (F_require : Fnc P w K mg base "require" jr (spD K 2 frRequire)) (hjc : jc ≤ k) (hjr : jr ≤ k) : FnOk P w K mg base CX0 (k + 1) f fd ["self", "columns", "rows", "cell", "level", "width", "height", "step", "slope", "slack", "tile"] (spI K Ci 10 frInit) := by
  refine fn_I F scInit rfl (fun X C y B0 H0 h0 ds fs hl hf => ?_)
  obtain ⟨⟨co, ro, ce, le, wi, he, st, nu, de, sl, ti⟩, ok, rfl, rfl⟩ := hf
  obtain ⟨⟨a1, a2⟩, ⟨b1, b2⟩, ⟨c1, c2⟩, ⟨d1, d2⟩, ⟨e1, e2⟩, ⟨f1, f2⟩, ⟨g1, g2⟩, g3, ⟨k1, k2, k3, k4⟩, ⟨l1, l2⟩, ⟨m1, m2⟩⟩ := ok
  have q1 : 0 ≤ st / le := Int.ediv_nonneg g1 (by dsimp only at d1; omega)
  have q2 : st / le ≤ st := Int.ediv_le_self _ g1
  dsimp only at a1 a2 b1 b2 c1 c2 d1 d2 e1 e2 f1 f2 g1 g2 g3 k1 k2 k3 k4 l1 l2 m1 m2
  walk_at "en"
  refine xss_cons (xs_drop (x_call F_require C.toCxt rfl (a_cons x_str (a_cons (x_ch2 op_le op_le x_int (x_var 1 C.toCxt rfl rfl rfl) x_int) a_nil)) ⟨_, _, by simp only [Bool.and_eq_true, decide_eq_true_eq]; omega, rfl, rfl⟩ rfl hjr) ?_)
  walk_at "en"
  refine xss_cons (xs_drop (x_call F_require C.toCxt rfl (a_cons x_str (a_cons (x_ch2 op_le op_le x_int (x_var 2 C.toCxt rfl rfl rfl) x_int) a_nil)) ⟨_, _, by simp only [Bool.and_eq_true, decide_eq_true_eq]; omega, rfl, rfl⟩ rfl hjr) ?_)
  walk_at "en"
  refine xss_cons (xs_drop (x_call F_require C.toCxt rfl (a_cons x_str (a_cons (x_ch2 op_le op_le x_int (x_var 3 C.toCxt rfl rfl rfl) x_int) a_nil)) ⟨_, _, by simp only [Bool.and_eq_true, decide_eq_true_eq]; omega, rfl, rfl⟩ rfl hjr) ?_)
  walk_at "en"
  refine xss_cons (xs_drop (x_call F_require C.toCxt rfl (a_cons x_str (a_cons (x_ch2 op_le op_le x_int (x_var 4 C.toCxt rfl rfl rfl) x_int) a_nil)) ⟨_, _, by simp only [Bool.and_eq_true, decide_eq_true_eq]; omega, rfl, rfl⟩ rfl hjr) ?_)
  walk_at "en"
  refine xss_cons (xs_drop (x_call F_require C.toCxt rfl (a_cons x_str (a_cons (x_ch2 op_le op_le x_int (x_var 5 C.toCxt rfl rfl rfl) (x_mul x_int (x_var 3 C.toCxt rfl rfl rfl) (cmul_of (by omega) (by omega) (by omega) (by omega)))) a_nil)) ⟨_, _, by simp only [Bool.and_eq_true, decide_eq_true_eq]; omega, rfl, rfl⟩ rfl hjr) ?_)
  walk_at "en"
  refine xss_cons (xs_drop (x_call F_require C.toCxt rfl (a_cons x_str (a_cons (x_ch2 op_le op_le x_int (x_var 6 C.toCxt rfl rfl rfl) (x_mul x_int (x_var 4 C.toCxt rfl rfl rfl) (cmul_of (by omega) (by omega) (by omega) (by omega)))) a_nil)) ⟨_, _, by simp only [Bool.and_eq_true, decide_eq_true_eq]; omega, rfl, rfl⟩ rfl hjr) ?_)
  walk_at "en"
  refine xss_cons (xs_drop (x_call F_require C.toCxt rfl (a_cons x_str (a_cons (x_and (x_ge (x_var 7 C.toCxt rfl rfl rfl) x_int) (fun _ => (x_one (x_lt (x_mul x_int (x_fdiv (x_var 7 C.toCxt rfl rfl rfl) (x_var 4 C.toCxt rfl rfl rfl) (cdiv_of (by omega) (by omega))) (cmul_of (by omega) (by omega) (by omega) (by omega))) (x_call F_ceiled C.toCxt rfl (a_cons (x_var 6 C.toCxt rfl rfl rfl) (a_cons (x_var 4 C.toCxt rfl rfl rfl) a_nil)) ⟨_, _, by omega, by omega, rfl, rfl⟩ rfl hjc))))) a_nil)) ⟨_, _, by simp only [Bool.and_eq_true, decide_eq_true_eq]; omega, rfl, rfl⟩ rfl hjr) ?_)
  walk_at "en"
  refine xss_cons (xs_asg C (x_var 8 C.toCxt rfl rfl rfl) (xg_tup C.toCxt (xgs_cons (xg_nameD 11 C rfl rfl) (xgs_cons (xg_nameD 12 C rfl rfl) xgs_nil))) ?_)
  walk_at "en"
  refine xss_cons (xs_drop (x_call F_require C.toCxt rfl (a_cons x_str (a_cons (x_and (x_ch3 op_le op_le op_le x_int (x_var 11 C.toCxt rfl rfl rfl) (x_var 12 C.toCxt rfl rfl rfl) x_int) (fun _ => (x_one (x_gt (x_var 12 C.toCxt rfl rfl rfl) x_int)))) a_nil)) ⟨_, _, by simp only [Bool.and_eq_true, decide_eq_true_eq]; omega, rfl, rfl⟩ rfl hjr) ?_)
  walk_at "en"
  refine xss_cons (xs_drop (x_call F_require C.toCxt rfl (a_cons x_str (a_cons (x_ch2 op_le op_le x_int (x_var 9 C.toCxt rfl rfl rfl) x_int) a_nil)) ⟨_, _, by simp only [Bool.and_eq_true, decide_eq_true_eq]; omega, rfl, rfl⟩ rfl hjr) ?_)
  walk_at "en"
  refine xss_cons (xs_drop (x_call F_require C.toCxt rfl (a_cons x_str (a_cons (x_ch2 op_le op_le x_int (x_var 10 C.toCxt rfl rfl rfl) x_int) a_nil)) ⟨_, _, by simp only [Bool.and_eq_true, decide_eq_true_eq]; omega, rfl, rfl⟩ rfl hjr) ?_)
  walk_at "en"
  refine xss_cons (xs_fldN [] C.toCxt T.cl T.n_columns (x_var 1 C.toCxt rfl rfl rfl) (x_hdl 0 C.toCxt rfl rfl rfl) ?_)
  walk_at "en"
  refine xss_cons (xs_fldN ["columns"] C.toCxt T.cl T.n_rows (x_var 2 C.toCxt rfl rfl rfl) (x_hdl 0 C.toCxt rfl rfl rfl) ?_)
  walk_at "en"
  refine xss_cons (xs_fldN ["columns", "rows"] C.toCxt T.cl T.n_cell (x_var 3 C.toCxt rfl rfl rfl) (x_hdl 0 C.toCxt rfl rfl rfl) ?_)
  walk_at "en"
  refine xss_cons (xs_fldN ["columns", "rows", "cell"] C.toCxt T.cl T.n_level (x_var 4 C.toCxt rfl rfl rfl) (x_hdl 0 C.toCxt rfl rfl rfl) ?_)
  walk_at "en"
  refine xss_cons (xs_fldN ["columns", "rows", "cell", "level"] C.toCxt T.cl T.n_width (x_var 5 C.toCxt rfl rfl rfl) (x_hdl 0 C.toCxt rfl rfl rfl) ?_)
  walk_at "en"
  refine xss_cons (xs_fldN ["columns", "rows", "cell", "level", "width"] C.toCxt T.cl T.n_height (x_var 6 C.toCxt rfl rfl rfl) (x_hdl 0 C.toCxt rfl rfl rfl) ?_)
  walk_at "en"
  refine xss_cons (xs_fldN ["columns", "rows", "cell", "level", "width", "height"] C.toCxt T.cl T.n_step (x_var 7 C.toCxt rfl rfl rfl) (x_hdl 0 C.toCxt rfl rfl rfl) ?_)
  walk_at "en"
  refine xss_cons (xs_fldN ["columns", "rows", "cell", "level", "width", "height", "step"] C.toCxt T.cl T.n_slope (x_tup (a_cons (x_var 11 C.toCxt rfl rfl rfl) (a_cons (x_var 12 C.toCxt rfl rfl rfl) a_nil)) (small (Nat.le_of_ble_eq_true rfl))) (x_hdl 0 C.toCxt rfl rfl rfl) ?_)
  walk_at "en"
  refine xss_cons (xs_fldN ["columns", "rows", "cell", "level", "width", "height", "step", "slope"] C.toCxt T.cl T.n_slack (x_var 9 C.toCxt rfl rfl rfl) (x_hdl 0 C.toCxt rfl rfl rfl) ?_)
  walk_at "en"
  refine xss_cons (xs_fldN ["columns", "rows", "cell", "level", "width", "height", "step", "slope", "slack"] C.toCxt T.cl T.n_tile (x_var 10 C.toCxt rfl rfl rfl) (x_hdl 0 C.toCxt rfl rfl rfl) ?_)
  walk_at "en"
  refine xss_cons (xs_fldN ["columns", "rows", "cell", "level", "width", "height", "step", "slope", "slack", "tile"] C.toCxt T.cl T.n_tall (x_call F_ceiled C.toCxt rfl (a_cons (x_var 6 C.toCxt rfl rfl rfl) (a_cons (x_var 4 C.toCxt rfl rfl rfl) a_nil)) ⟨_, _, by omega, by omega, rfl, rfl⟩ rfl hjc) (x_hdl 0 C.toCxt rfl rfl rfl) ?_)
  walk_at "en"
  refine xss_cons (xs_fldN ["columns", "rows", "cell", "level", "width", "height", "step", "slope", "slack", "tile", "tall"] C.toCxt T.cl T.n_rise (x_fdiv (x_var 7 C.toCxt rfl rfl rfl) (x_var 4 C.toCxt rfl rfl rfl) (cdiv_of (by omega) (by omega))) (x_hdl 0 C.toCxt rfl rfl rfl) ?_)
  walk_at "en"
  refine xss_one (xs_fldN ["columns", "rows", "cell", "level", "width", "height", "step", "slope", "slack", "tile", "tall", "rise"] C.toCxt T.cl T.n_reach (x_call F_ceiled C.toCxt rfl (a_cons (x_var 5 C.toCxt rfl rfl rfl) (a_cons (x_var 3 C.toCxt rfl rfl rfl) a_nil)) ⟨_, _, by omega, by omega, rfl, rfl⟩ rfl hjc) (x_hdl 0 C.toCxt rfl rfl rfl) ?_)
  rfl
end
end L02

namespace L02
open PySem PySem.Spec PyProof.Rows L2 DL
variable [TB]
abbrev sHas : Stmt := inClass (topS 6) 1
theorem scHas : FnScope ["self", "i", "k"] ["self", "i", "k"] (defScope sHas) := ⟨rfl, rfl, rfl, by decide +kernel, rfl, by decide +kernel, by decide +kernel⟩
abbrev sTiles : Stmt := inClass (topS 6) 2
theorem scTiles : FnScope ["self", "across", "down", "b", "a"] ["self"] (defScope sTiles) := ⟨rfl, rfl, rfl, by decide +kernel, rfl, by decide +kernel, by decide +kernel⟩
abbrev sCells : Stmt := inClass (topS 6) 3
theorem scCells : FnScope ["self", "a", "b", "across", "down", "k", "i"] ["self", "a", "b"] (defScope sCells) := ⟨rfl, rfl, rfl, by decide +kernel, rfl, by decide +kernel, by decide +kernel⟩
local macro_rules | `(tactic| walk_at "en") => `(tactic| (show XSs _ _ _ _ _ _; refine xss_env (by (dsimp only [envD, envZ, envL, Sg.ds, List.set, List.length, List.map, List.replicate, List.append_eq, List.cons_append, List.nil_append, Nat.reduceAdd, Nat.reduceSub] <;> rfl)) ?_))
/-- the cells of a rectangle, row by row -/
def gridR (x0 y : Int) (n : Nat) : List D := (List.range n).map fun (j : Nat) => .tup [.int (x0 + (j : Int)), .int y]
def gridP (x0 x1 y0 : Int) (m : Nat) : List D := (List.range m).flatMap fun (b : Nat) => gridR x0 (y0 + (b : Int)) (x1 - x0).toNat
def gridD (x0 x1 y0 y1 : Int) : List D := gridP x0 x1 y0 (y1 - y0).toNat
theorem gridR_len (x0 y : Int) (n : Nat) : (gridR x0 y n).length = n := by unfold gridR; simp
theorem gridR_succ (x0 y : Int) (n : Nat) : gridR x0 y (n + 1) = gridR x0 y n ++ [.tup [.int (x0 + (n : Int)), .int y]] := by
  unfold gridR
  rw [List.range_succ, List.map_append]
  rfl
theorem gridP_succ (x0 x1 y0 : Int) (m : Nat) : gridP x0 x1 y0 (m + 1) = gridP x0 x1 y0 m ++ gridR x0 (y0 + (m : Int)) (x1 - x0).toNat := by
  unfold gridP
  rw [List.range_succ, List.flatMap_append]
  simp
theorem gridP_len (x0 x1 y0 : Int) : ∀ m : Nat, (gridP x0 x1 y0 m).length = m * (x1 - x0).toNat
  | 0 => by unfold gridP; simp
  | m + 1 => by
    rw [gridP_succ, List.length_append, gridP_len x0 x1 y0 m, gridR_len, Nat.succ_mul]
def cd (a b : Int) : Int := -(-a / b)
theorem cd_b {a b : Int} (h : 1 ≤ a) (ha : a ≤ 64) (hb : 2 ≤ b) : 1 ≤ cd a b ∧ cd a b ≤ 64 := by
  unfold cd
  have h1 : b * (-a / b) + -a % b = -a := by first | exact Int.mul_ediv_add_emod _ _ | exact Int.ediv_add_emod' _ _ | omega
  have h2 := Int.emod_nonneg (-a) (show b ≠ 0 by omega)
  have h3 := Int.emod_lt_of_pos (-a) (show 0 < b by omega)
  generalize -a / b = q at *
  generalize -a % b = r at *
  refine ⟨?_, ?_⟩
  · by_cases hq : 0 ≤ q
    · have : 0 ≤ b * q := Int.mul_nonneg (by omega) hq
      omega
    · omega
  · by_cases hq : -64 ≤ q
    · omega
    · have : b * q ≤ b * (-65) := Int.mul_le_mul_of_nonneg_left (by omega) (by omega)
      omega
def mn (i j : Int) : Int := if j < i then j else i
def frHas (Ci : Addr) (ds : List D) (d : D) : Prop := ∃ (s : Sg) (i k : Int), ds = [.ins Ci s.fs, .int i, .int k] ∧ d = .bl ((decide (0 ≤ i) && decide (i < s.co)) && (decide (0 ≤ k) && decide (k < s.ro)))
def frTiles (Ci : Addr) (ds : List D) (d : D) : Prop := ∃ s : Sg, s.ok ∧ ds = [.ins Ci s.fs] ∧ d = .lst (gridD 0 (cd s.co s.ti) 0 (cd s.ro s.ti))
def frCells (Ci : Addr) (ds : List D) (d : D) : Prop := ∃ (s : Sg) (a b : Int), s.ok ∧ 0 ≤ a ∧ a ≤ 64 ∧ 0 ≤ b ∧ b ≤ 64 ∧ ds = [.ins Ci s.fs, .int a, .int b] ∧ d = .lst (gridD (a * s.ti) (mn ((a + 1) * s.ti) s.co) (b * s.ti) (mn ((b + 1) * s.ti) s.ro))
section
variable {P : Program} {w : World} {K : PySem.W.Frag} {mg : Str → Option Value} {base : Heap}
theorem ok_has {f Ci : Addr} {fd : FuncData} {k : Nat} (T : SgT K Ci) (F : Fun K "has_cell" "Settings.has_cell" sHas f fd) : FnOk P w K mg base CX0 (k + 1) f fd ["self", "i", "k"] (spD K 3 (frHas Ci)) := by
  refine fn_D F scHas rfl (fun X C B0 H0 ds d hl hf => ?_)
  obtain ⟨s, i, k, rfl, rfl⟩ := hf
  walk_at "en"
  exact xss_one (xs_ret (x_and (x_ch2 op_le op_lt x_int (x_var 1 C.toCxt rfl rfl rfl) (x_fld C.toCxt T.cl T.n_columns (x_var 0 C.toCxt rfl rfl rfl) (fl_columns rfl))) (fun _ => (x_one (x_ch2 op_le op_lt x_int (x_var 2 C.toCxt rfl rfl rfl) (x_fld C.toCxt T.cl T.n_rows (x_var 0 C.toCxt rfl rfl rfl) (fl_rows rfl)))))) rfl)
theorem ok_tiles {f Ci : Addr} {fd : FuncData} {k jc : Nat} (T : SgT K Ci) (F : Fun K "tiles" "Settings.tiles" sTiles f fd) (F_ceiled : Fnc P w K mg base "ceiled" jc (spD K 2 frCeiled)) (hjc : jc ≤ k) (m_range : mg "range" = none) :
    FnOk P w K mg base CX0 (k + 1) f fd ["self"] (spD K 1 (frTiles Ci)) := by
  refine fn_D F scTiles rfl (fun X C B0 H0 ds d hl hf => ?_)
  obtain ⟨s, ok, rfl, rfl⟩ := hf
  obtain ⟨⟨a1, a2⟩, ⟨b1, b2⟩, _, _, _, _, _, _, _, _, ⟨m1, m2⟩⟩ := ok
  obtain ⟨u1, u2⟩ := cd_b a1 a2 m1
  obtain ⟨v1, v2⟩ := cd_b b1 b2 m1
  walk_at "en"
  refine xss_cons (xs_set 1 C rfl rfl (x_range1 C.toCxt rfl m_range (x_call F_ceiled C.toCxt rfl (a_cons (x_fld C.toCxt T.cl T.n_columns (x_var 0 C.toCxt rfl rfl rfl) (fl_columns rfl)) (a_cons (x_fld C.toCxt T.cl T.n_tile (x_var 0 C.toCxt rfl rfl rfl) (fl_tile rfl)) a_nil)) ⟨_, _, by omega, by omega, rfl, rfl⟩ rfl hjc)) ?_)
  walk_at "en"
  refine xss_cons (xs_set 2 C rfl rfl (x_range1 C.toCxt rfl m_range (x_call F_ceiled C.toCxt rfl (a_cons (x_fld C.toCxt T.cl T.n_rows (x_var 0 C.toCxt rfl rfl rfl) (fl_rows rfl)) (a_cons (x_fld C.toCxt T.cl T.n_tile (x_var 0 C.toCxt rfl rfl rfl) (fl_tile rfl)) a_nil)) ⟨_, _, by omega, by omega, rfl, rfl⟩ rfl hjc)) ?_)
  walk_at "en"
  show XSs _ _ _ [_, .dat (.rng 0 (cd s.co s.ti)), .dat (.rng 0 (cd s.ro s.ti)), _, _] _ _
  unfold gridD
  refine xss_one (xs_ret (x_ofL (l_lc2 [("b", 3), ("a", 4)] [4] C.toCxt (by decide +kernel) (by decide) (xi_rng (x_var 2 C.toCxt rfl rfl rfl) ⟨⟨by omega, by omega⟩, by omega, by omega⟩) (fun m => gridP 0 (cd s.co s.ti) 0 m) rfl
    (fun m hm => ⟨[3], _, true, by decide, ?_, fun Xb D => ⟨xg_name 3 D rfl rfl, ts_nil⟩, fun _ => ⟨_, _, fun j => gridP 0 (cd s.co s.ti) 0 m ++ gridR 0 (0 + (m : Int)) j, ?_, (gridP_succ _ _ _ _).symm, fun Xb D => xi_rng (x_var 1 D rfl rfl rfl) ⟨⟨by omega, by omega⟩, by omega, by omega⟩,
      fun j hj => ?_, fun j hj => ?_⟩, fun q => nomatch q⟩))) rfl)
  · rfl
  · show _ ++ gridR _ _ 0 = _
    exact List.append_nil _
  · simp only [gridR_succ, ← List.append_assoc]
    exact lcStep (ns := [4]) (by decide) (fun Xb D => ⟨xg_name 4 D rfl rfl, x_tup (a_cons (x_var 4 D rfl rfl rfl) (a_cons (x_var 3 D rfl rfl rfl) a_nil)) (small (Nat.le_of_ble_eq_true rfl))⟩)
  · show List.length (_ ++ _) < _
    rw [List.length_append, gridP_len, gridR_len, sizeLine_eq]
    have h1 : m * ((cd s.co s.ti) - 0).toNat ≤ 64 * 64 := Nat.mul_le_mul (by omega) (by omega)
    omega
theorem ok_cells {f Ci : Addr} {fd : FuncData} {k : Nat} (T : SgT K Ci) (F : Fun K "tile_cells" "Settings.tile_cells" sCells f fd) (m_range : mg "range" = none) (m_min : mg "min" = none) :
    FnOk P w K mg base CX0 (k + 1) f fd ["self", "a", "b"] (spD K 3 (frCells Ci)) := by
  refine fn_D F scCells rfl (fun X C B0 H0 ds d hl hf => ?_)
  obtain ⟨s, a, b, ok, h1, h2, h3, h4, rfl, rfl⟩ := hf
  obtain ⟨⟨a1, a2⟩, ⟨b1, b2⟩, _, _, _, _, _, _, _, _, ⟨m1, m2⟩⟩ := ok
  have u1 : 0 ≤ a * s.ti := Int.mul_nonneg h1 (by omega)
  have u2 : a * s.ti ≤ 64 * 16 := Int.mul_le_mul h2 m2 (by omega) (by decide)
  have u3 : (a + 1) * s.ti = a * s.ti + s.ti := by rw [Int.add_mul, Int.one_mul]
  have v1 : 0 ≤ b * s.ti := Int.mul_nonneg h3 (by omega)
  have v2 : b * s.ti ≤ 64 * 16 := Int.mul_le_mul h4 m2 (by omega) (by decide)
  have v3 : (b + 1) * s.ti = b * s.ti + s.ti := by rw [Int.add_mul, Int.one_mul]
  have w1 : mn ((a + 1) * s.ti) s.co ≤ a * s.ti + s.ti ∧ 1 ≤ mn ((a + 1) * s.ti) s.co := by unfold mn; split <;> omega
  have w2 : mn ((b + 1) * s.ti) s.ro ≤ b * s.ti + s.ti ∧ 1 ≤ mn ((b + 1) * s.ti) s.ro := by unfold mn; split <;> omega
  walk_at "en"
  refine xss_cons (xs_set 3 C rfl rfl (x_range2 C.toCxt rfl m_range (x_mul (x_var 1 C.toCxt rfl rfl rfl) (x_fld C.toCxt T.cl T.n_tile (x_var 0 C.toCxt rfl rfl rfl) (fl_tile rfl)) (cmul_of (by omega) (by omega) (by omega) (by omega))) (x_min2 C.toCxt rfl m_min (x_mul (x_add (x_var 1 C.toCxt rfl rfl rfl) x_int) (x_fld C.toCxt T.cl T.n_tile (x_var 0 C.toCxt rfl rfl rfl) (fl_tile rfl)) (cmul_of (by omega) (by omega) (by omega) (by omega))) (x_fld C.toCxt T.cl T.n_columns (x_var 0 C.toCxt rfl rfl rfl) (fl_columns rfl)))) ?_)
  walk_at "en"
  refine xss_cons (xs_set 4 C rfl rfl (x_range2 C.toCxt rfl m_range (x_mul (x_var 2 C.toCxt rfl rfl rfl) (x_fld C.toCxt T.cl T.n_tile (x_var 0 C.toCxt rfl rfl rfl) (fl_tile rfl)) (cmul_of (by omega) (by omega) (by omega) (by omega))) (x_min2 C.toCxt rfl m_min (x_mul (x_add (x_var 2 C.toCxt rfl rfl rfl) x_int) (x_fld C.toCxt T.cl T.n_tile (x_var 0 C.toCxt rfl rfl rfl) (fl_tile rfl)) (cmul_of (by omega) (by omega) (by omega) (by omega))) (x_fld C.toCxt T.cl T.n_rows (x_var 0 C.toCxt rfl rfl rfl) (fl_rows rfl)))) ?_)
  walk_at "en"
  show XSs _ _ _ [_, _, _, .dat (.rng (a * s.ti) (mn ((a + 1) * s.ti) s.co)), .dat (.rng (b * s.ti) (mn ((b + 1) * s.ti) s.ro)), _, _] _ _
  unfold gridD
  refine xss_one (xs_ret (x_ofL (l_lc2 [("k", 5), ("i", 6)] [6] C.toCxt (by decide +kernel) (by decide) (xi_rng (x_var 4 C.toCxt rfl rfl rfl) ⟨⟨by omega, by omega⟩, by omega, by omega⟩) (fun m => gridP (a * s.ti) (mn ((a + 1) * s.ti) s.co) (b * s.ti) m) rfl
    (fun m hm => ⟨[5], _, true, by decide, ?_, fun Xb D => ⟨xg_name 5 D rfl rfl, ts_nil⟩, fun _ => ⟨_, _, fun j => gridP (a * s.ti) (mn ((a + 1) * s.ti) s.co) (b * s.ti) m ++ gridR (a * s.ti) ((b * s.ti) + (m : Int)) j, ?_, (gridP_succ _ _ _ _).symm, fun Xb D => xi_rng (x_var 3 D rfl rfl rfl) ⟨⟨by omega, by omega⟩, by omega, by omega⟩,
      fun j hj => ?_, fun j hj => ?_⟩, fun q => nomatch q⟩))) rfl)
  · rfl
  · show _ ++ gridR _ _ 0 = _
    exact List.append_nil _
  · simp only [gridR_succ, ← List.append_assoc]
    exact lcStep (ns := [6]) (by decide) (fun Xb D => ⟨xg_name 6 D rfl rfl, x_tup (a_cons (x_var 6 D rfl rfl rfl) (a_cons (x_var 5 D rfl rfl rfl) a_nil)) (small (Nat.le_of_ble_eq_true rfl))⟩)
  · show List.length (_ ++ _) < _
    rw [List.length_append, gridP_len, gridR_len, sizeLine_eq]
    have h1 : m * ((mn ((a + 1) * s.ti) s.co) - (a * s.ti)).toNat ≤ 64 * 64 := Nat.mul_le_mul (by omega) (by omega)
    omega
end
end L02

namespace L02
open PySem PySem.Spec PyProof.Rows L2 DL
variable [TB]
abbrev sgPs : List Str := ["self", "columns", "rows", "cell", "level", "width", "height", "step", "slope", "slack", "tile"]
theorem vals_split {vs zs mz : List V} {us ws mv : List Value} (n : Nat) (a : Vals vs us) (b : Vals mz mv) (c : Vals zs ws) : Vals (vs ++ (zs.take n ++ (mz ++ zs.drop n))) (us ++ (ws.take n ++ (mv ++ ws.drop n))) :=
  a.append ((c.take n).append (b.append (c.drop n)))
section
variable {K : PySem.W.Frag}
theorem kb_tile {f : Addr} {fd : FuncData} (F : FunD K "__init__" "Settings.__init__" (defArgs sInit) (defBody sInit) (defScope sInit) [] [("slack", .int 0), ("tile", .int 8)] f fd) :
    ∃ mv : List Value, KBn K fd sgPs 1 ["columns", "rows", "cell", "level", "width", "height", "step", "slope", "tile"] (fun us ws => us ++ (ws.take 8 ++ (mv ++ ws.drop 8))) (fun vs zs => vs ++ (zs.take 8 ++ ([V.int 0] ++ zs.drop 8))) :=
  F.kbinds0 1 _ [("slack", .int 0)] (fun us mv ws => us ++ (ws.take 8 ++ (mv ++ ws.drop 8))) (by simp) (by intro q h; simp at h; simp [h]) (fun a b c => vals_split 8 a b c)
    (fun D doc pm an cdv ct us mv ws h1 h2 h3 => match us, mv, ws, h1, h2, h3 with
      | [u], [m], [w1, w2, w3, w4, w5, w6, w7, w8, w9], _, _, _ => ⟨_, _, _, _, _, _, rfl, rfl, rfl⟩)
end
end L02

namespace L02
open PySem PySem.Spec PyProof.Rows L2 DL
variable [TB]
abbrev sLaw : Stmt := topS 10
theorem scLaw : FnScope ["script", "state", "columns", "rows", "tile", "one", "turn", "i", "k", "told", "tiles", "seen", "a", "b", "cells", "plain"] ["script"] (defScope sLaw) := ⟨rfl, rfl, rfl, by decide +kernel, rfl, by decide +kernel, by decide +kernel⟩
local macro_rules | `(tactic| walk_at "en") => `(tactic| (show XSs _ _ _ _ _ _; refine xss_env (by (dsimp only [envD, envZ, envL, Sg.ds, List.set, List.length, List.map, List.replicate, List.append_eq, List.cons_append, List.nil_append, Nat.reduceAdd, Nat.reduceSub] <;> rfl)) ?_))
def mnu (i : Int) : Int := if i = 0 then 5 else if i = 1 then 20 else 64
theorem mnu_at {i : Int} (h0 : 0 ≤ i) (h1 : i < 3) : atI [D.int 5, D.int 20, D.int 64] i = some (.int (mnu i)) := by
  have : i = 0 ∨ i = 1 ∨ i = 2 := by omega
  rcases this with rfl | rfl | rfl <;> rfl
theorem mnu_b (i : Int) : 5 ≤ mnu i ∧ mnu i ≤ 64 := by
  unfold mnu
  split
  · decide
  · split <;> decide
/-- the settings of this law -/
def sg (co ro ti : Int) : Sg := ⟨co, ro, 10, 1, 0, 9, 1, 1, 2, 0, ti⟩
theorem sg_ok {co ro ti : Int} (h1 : 1 ≤ co) (h2 : co ≤ 64) (h3 : 1 ≤ ro) (h4 : ro ≤ 64) (h5 : 2 ≤ ti) (h6 : ti ≤ 16) : (sg co ro ti).ok := by
  refine ⟨⟨h1, h2⟩, ⟨h3, h4⟩, ?_, ?_, ?_, ?_, ?_, ?_, ?_, ?_, ⟨h5, h6⟩⟩ <;> (dsimp only [sg]; decide)
structure ClsT (P : Program) (w : World) (K : PySem.W.Frag) (mg : Str → Option Value) (base : Heap) where
  Ci : Addr
  T : SgT K Ci
  mC : mg "Settings" = some (.ref Ci)
  fi : Addr
  fdi : FuncData
  mkC : Mk K Ci fi
  okI : FnOk P w K mg base CX0 2 fi fdi sgPs (spI K Ci 10 frInit)
  gt : ∃ mv : List Value, KBn K fdi sgPs 1 ["columns", "rows", "cell", "level", "width", "height", "step", "slope", "tile"] (fun us ws => us ++ (ws.take 8 ++ (mv ++ ws.drop 8))) (fun vs zs => vs ++ (zs.take 8 ++ ([V.int 0] ++ zs.drop 8)))
  fh : Addr
  fdh : FuncData
  mh : Meth K Ci "has_cell" fh
  okH : FnOk P w K mg base CX0 1 fh fdh ["self", "i", "k"] (spD K 3 (frHas Ci))
  bh : Binds K fdh ["self", "i", "k"] []
  ft : Addr
  fdt : FuncData
  mt : Meth K Ci "tiles" ft
  okT : FnOk P w K mg base CX0 2 ft fdt ["self"] (spD K 1 (frTiles Ci))
  bt : Binds K fdt ["self"] []
  fc : Addr
  fdc : FuncData
  mc : Meth K Ci "tile_cells" fc
  okC : FnOk P w K mg base CX0 1 fc fdc ["self", "a", "b"] (spD K 3 (frCells Ci))
  bc : Binds K fdc ["self", "a", "b"] []
  gp : ∃ mv : List Value, KBn K fdi sgPs 1 ["columns", "rows", "cell", "level", "width", "height", "step", "slope"] (fun us ws => us ++ (ws ++ mv)) (fun vs zs => vs ++ (zs ++ [V.int 0, V.int 8]))
section
variable {P : Program} {w : World} {K : PySem.W.Frag} {mg : Str → Option Value} {base : Heap}
theorem law_front {f c : Addr} {oc kV doc pm ct : Value} {od an : Option Addr} {osl : Array (Option Value)} (lk : K.lookup f = some ⟨oc, od, .func (PySem.W.fnOf "law" "law" (defArgs sLaw) (defBody sLaw) (defScope sLaw) .none kV doc pm an (.ref c) ct), osl⟩) (hcd : PySem.W.codeIn K (.ref c) "law" = true) (F_law_state : Fnc P w K mg base "_law_state" 1 (spState K)) (F_law_draw : Fnc P w K mg base "_law_draw" 1 (spZ K 1 frDraw)) (S : ClsT P w K mg base) (m_range : mg "range" = none) (m_isinstance : mg "isinstance" = none) (m_bool : mg "bool" = none)
    (tail : ∀ (X : Cx), Cxd X ["script", "state", "columns", "rows", "tile", "one", "turn", "i", "k", "told", "tiles", "seen", "a", "b", "cells", "plain"] (defScope sLaw) P w K mg base 3 → X.env.code = .ref c → X.env.qual = ("law" : Str) ++ ".<locals>." → ∀ (sa sc : Addr) (B0 H0 : Hp) (h0 : H0 sa ≠ none ∧ H0 sc ≠ none) (z : List Int × Int) (co ro ti : Int) (s6 s7 s8 s9 : Sl),
      1 ≤ co → co ≤ 64 → 1 ≤ ro → ro ≤ 64 → 2 ≤ ti → ti ≤ 16 → XSs X (gZ sa sc B0 H0 h0) ((defBody sLaw).drop 7) [.no, .hdl 0, .dat (.int co), .dat (.int ro), .dat (.int ti), .dat (.ins S.Ci (sg co ro ti).fs), s6, s7, s8, s9, .dat (.lst (gridD 0 (cd co ti) 0 (cd ro ti))), .no, .no, .no, .no, .no] z { nx := fun _ _ => False, rt := fun d _ => d = .bl true }) :
    FnOk P w K mg base CX0 4 f (PySem.W.fnOf "law" "law" (defArgs sLaw) (defBody sLaw) (defScope sLaw) .none kV doc pm an (.ref c) ct) ["script"] (spLaw K) := by
  refine law_mkL (N' := ["columns", "rows", "tile", "one", "turn", "i", "k", "told", "tiles", "seen", "a", "b", "cells", "plain"]) lk hcd scLaw F_law_state (by decide) rfl rfl rfl rfl (by decide) (by decide) (fun X C hcode hq sa sc B0 H0 h0 z => ?_)
  walk_at "en"
  refine xss_cons (xs_set 2 C rfl rfl (x_add x_int (x_draw F_law_draw C.toCxt rfl (a_cons (x_hdl 1 C.toCxt rfl rfl rfl) (a_cons (x_ix (x_lst (a_cons x_int (a_cons x_int (a_cons x_int a_nil))) (small (Nat.le_of_ble_eq_true rfl)))
    (x_draw F_law_draw C.toCxt rfl (a_cons (x_hdl 1 C.toCxt rfl rfl rfl) (a_cons x_int a_nil)) (by decide) (by decide)) rfl (mnu_at (drawZ_lo z (m := 3) (by decide)) (drawZ_hi z (m := 3) (by decide)))) a_nil)) (by have := mnu_b (drawZ z 3).1; omega) (by have := mnu_b (drawZ z 3).1; omega))) ?_)
  have a0 := mnu_b (drawZ z 3).1
  generalize mnu (drawZ z 3).1 = ma at a0 ⊢
  generalize (drawZ z 3).2 = z1
  have a1 := drawZ_lo z1 (m := ma) (by omega)
  have a2 := drawZ_hi z1 (m := ma) (by omega)
  generalize (drawZ z1 ma).1 = va at a1 a2 ⊢
  generalize (drawZ z1 ma).2 = z2
  walk_at "en"
  refine xss_cons (xs_set 3 C rfl rfl (x_add x_int (x_draw F_law_draw C.toCxt rfl (a_cons (x_hdl 1 C.toCxt rfl rfl rfl) (a_cons (x_ix (x_lst (a_cons x_int (a_cons x_int (a_cons x_int a_nil))) (small (Nat.le_of_ble_eq_true rfl)))
    (x_draw F_law_draw C.toCxt rfl (a_cons (x_hdl 1 C.toCxt rfl rfl rfl) (a_cons x_int a_nil)) (by decide) (by decide)) rfl (mnu_at (drawZ_lo z2 (m := 3) (by decide)) (drawZ_hi z2 (m := 3) (by decide)))) a_nil)) (by have := mnu_b (drawZ z2 3).1; omega) (by have := mnu_b (drawZ z2 3).1; omega))) ?_)
  have b0 := mnu_b (drawZ z2 3).1
  generalize mnu (drawZ z2 3).1 = mb at b0 ⊢
  generalize (drawZ z2 3).2 = z3
  have b1 := drawZ_lo z3 (m := mb) (by omega)
  have b2 := drawZ_hi z3 (m := mb) (by omega)
  generalize (drawZ z3 mb).1 = vb at b1 b2 ⊢
  generalize (drawZ z3 mb).2 = z4
  walk_at "en"
  refine xss_cons (xs_set 4 C rfl rfl (x_add x_int (x_draw F_law_draw C.toCxt rfl (a_cons (x_hdl 1 C.toCxt rfl rfl rfl) (a_cons x_int a_nil)) (by decide) (by decide))) ?_)
  have c1 := drawZ_lo z4 (m := 15) (by decide)
  have c2 := drawZ_hi z4 (m := 15) (by decide)
  generalize (drawZ z4 15).1 = vc at c1 c2 ⊢
  generalize (drawZ z4 15).2 = z5
  generalize hco : 1 + va = co
  generalize hro : 1 + vb = ro
  generalize hti : 2 + vc = ti
  have g1 : 1 ≤ co := by omega
  have g2 : co ≤ 64 := by omega
  have g3 : 1 ≤ ro := by omega
  have g4 : ro ≤ 64 := by omega
  have g5 : 2 ≤ ti := by omega
  have g6 : ti ≤ 16 := by omega
  walk_at "en"
  obtain ⟨mv, kb⟩ := S.gt
  refine xss_cons (xs_set 5 C rfl rfl (x_makeK C.toCxt S.mkC S.okI S.mC kb rfl (k_cons (x_var 2 C.toCxt rfl rfl rfl) (k_cons (x_var 3 C.toCxt rfl rfl rfl) (k_cons x_int (k_cons x_int (k_cons x_int (k_cons x_int (k_cons x_int (k_cons (x_tup (a_cons x_int (a_cons x_int a_nil)) (small (Nat.le_of_ble_eq_true rfl))) (k_cons (x_var 4 C.toCxt rfl rfl rfl) k_nil)))))))))
    ⟨sg co ro ti, sg_ok g1 g2 g3 g4 g5 g6, rfl, rfl⟩ (fun B y vs r => ⟨_, rfl, (r.take 8).app (.cons (.int 0) (r.drop 8))⟩)) ?_)
  walk_at "en"
  refine xss_cons (xs_for (fun m ρ z => ∃ s6 s7 s8 s9, ρ = [.no, .hdl 0, .dat (.int co), .dat (.int ro), .dat (.int ti), .dat (.ins S.Ci (sg co ro ti).fs), s6, s7, s8, s9, .no, .no, .no, .no, .no, .no]) C (xi_range1 C.toCxt rfl m_range x_int ⟨by decide, by decide⟩) ⟨_, _, _, _, rfl⟩ (fun m ρ z hm hI => ?_) (fun ρ z hI => ?_))
  · obtain ⟨s6, s7, s8, s9, rfl⟩ := hI
    refine ⟨_, _, xg_nameD 6 C rfl rfl, ?_⟩
    walk_at "en"
    refine xss_cons (xs_set 7 C rfl rfl (x_sub (x_draw F_law_draw C.toCxt rfl (a_cons (x_hdl 1 C.toCxt rfl rfl rfl) (a_cons (x_add (x_var 2 C.toCxt rfl rfl rfl) x_int) a_nil)) (by omega) (by omega)) x_int) ?_)
    generalize (drawZ z (co + 4)).1 - 2 = i
    generalize (drawZ z (co + 4)).2 = z6
    walk_at "en"
    refine xss_cons (xs_set 8 C rfl rfl (x_sub (x_draw F_law_draw C.toCxt rfl (a_cons (x_hdl 1 C.toCxt rfl rfl rfl) (a_cons (x_add (x_var 3 C.toCxt rfl rfl rfl) x_int) a_nil)) (by omega) (by omega)) x_int) ?_)
    generalize (drawZ z6 (ro + 4)).1 - 2 = k
    generalize (drawZ z6 (ro + 4)).2 = z7
    walk_at "en"
    refine xss_cons (xs_set 9 C rfl rfl (x_meth C.toCxt S.T.cl S.mh S.okH S.bh (x_var 5 C.toCxt rfl rfl rfl) (a_cons (x_var 7 C.toCxt rfl rfl rfl) (a_cons (x_var 8 C.toCxt rfl rfl rfl) a_nil)) (look_no sgK rfl (by decide +kernel)) ⟨sg co ro ti, i, k, rfl, rfl⟩) ?_)
    walk_at "en"
    refine xss_one (xs_if (t_w (w_or (t_not (t_val (x_isi (t := true) C.toCxt rfl m_isinstance (x_var 9 C.toCxt rfl rfl rfl) (x_ty (n := "bool") C.toCxt rfl m_bool (by decide +kernel)) rfl (by decide +kernel))))
      (fun _ => w_or1 (t_neB (x_var 9 C.toCxt rfl rfl rfl) (x_and (x_inR (x_var 7 C.toCxt rfl rfl rfl) (x_range1 C.toCxt rfl m_range (x_var 2 C.toCxt rfl rfl rfl))) (fun _ => x_one (x_inR (x_var 8 C.toCxt rfl rfl rfl) (x_range1 C.toCxt rfl m_range (x_var 3 C.toCxt rfl rfl rfl))))))))) (fun ht => absurd ht ?_) (fun _ => xss_nil ⟨_, _, _, _, rfl⟩))
    by_cases p1 : 0 ≤ i <;> by_cases p2 : i < co <;> by_cases p3 : 0 ≤ k <;> by_cases p4 : k < ro <;> simp [sg, p1, p2, p3, p4]
  · obtain ⟨s6, s7, s8, s9, rfl⟩ := hI
    show XSs _ _ _ _ _ _
    refine xss_cons (xs_set 10 C rfl rfl (x_meth0 C.toCxt S.T.cl S.mt S.okT S.bt (x_var 5 C.toCxt rfl rfl rfl) (look_no sgK rfl (by decide +kernel)) ⟨sg co ro ti, sg_ok g1 g2 g3 g4 g5 g6, rfl, rfl⟩) ?_)
    walk_at "en"
    exact tail X C hcode hq sa sc B0 H0 h0 z co ro ti s6 s7 s8 s9 g1 g2 g3 g4 g5 g6
end
end L02

namespace L02
open PySem PySem.Spec PyProof.Rows L2 DL
variable [TB]
/-! ### the cells of all tiles, by numbers -/
theorem gridR_get {x0 y : Int} {n j : Nat} (h : j < n) : (gridR x0 y n)[j]? = some (.tup [.int (x0 + (j : Int)), .int y]) := by
  unfold gridR
  rw [List.getElem?_map, List.getElem?_range h]
  rfl
theorem gridP_get {x0 x1 y0 : Int} : ∀ {M m : Nat}, m < M * (x1 - x0).toNat → (gridP x0 x1 y0 M)[m]? = some (.tup [.int (x0 + ((m % (x1 - x0).toNat : Nat) : Int)), .int (y0 + ((m / (x1 - x0).toNat : Nat) : Int))])
  | 0, m, h => by omega
  | M + 1, m, h => by
    rw [gridP_succ]
    by_cases q : m < M * (x1 - x0).toNat
    · rw [List.getElem?_append_left (by rw [gridP_len]; exact q)]
      exact gridP_get q
    · have hn : 0 < (x1 - x0).toNat := by
        rcases Nat.eq_zero_or_pos (x1 - x0).toNat with e | e
        · rw [e] at h; omega
        · exact e
      rw [List.getElem?_append_right (by rw [gridP_len]; omega), gridP_len]
      generalize (x1 - x0).toNat = n at *
      obtain ⟨d, e, hl⟩ : ∃ d, m = n * M + d ∧ d < n := ⟨m - M * n, by rw [Nat.mul_comm n M]; omega, by rw [Nat.succ_mul] at h; omega⟩
      subst e
      have e3 : n * M + d - M * n = d := by rw [Nat.mul_comm M n]; omega
      rw [e3, gridR_get hl, Nat.mul_add_mod, Nat.mod_eq_of_lt hl, Nat.mul_add_div hn, Nat.div_eq_of_lt hl, Nat.add_zero]
/-- widths: the pieces of size t of a length c -/
def wid (t c a : Nat) : Nat := min ((a + 1) * t) c - a * t
theorem wid_sum (t c : Nat) : ∀ n : Nat, ((List.range n).map (wid t c)).sum = min (n * t) c
  | 0 => by simp
  | n + 1 => by
    rw [List.range_succ, List.map_append, List.sum_append, wid_sum t c n]
    simp only [List.map_cons, List.map_nil, List.sum_cons, List.sum_nil, wid, Nat.succ_mul]
    omega
/-- the sizes of n * m pieces -/
theorem size_sum (t c r n : Nat) (hn : 0 < n) : ∀ m : Nat, ((List.range (n * m)).map fun q => wid t c (q % n) * wid t r (q / n)).sum = min (n * t) c * min (m * t) r
  | 0 => by simp
  | m + 1 => by
    have e : List.range (n * (m + 1)) = List.range (n * m) ++ (List.range n).map (n * m + ·) := by rw [Nat.mul_succ, List.range_add]
    rw [e, List.map_append, List.sum_append, size_sum t c r n hn m, List.map_map]
    have e2 : (List.range n).map ((fun q => wid t c (q % n) * wid t r (q / n)) ∘ (n * m + ·)) = (List.range n).map fun a => wid t c a * wid t r m := by
      refine List.map_congr_left fun a ha => ?_
      have ha := List.mem_range.mp ha
      show wid t c ((n * m + a) % n) * wid t r ((n * m + a) / n) = _
      rw [Nat.mul_add_mod, Nat.mod_eq_of_lt ha, Nat.mul_add_div hn, Nat.div_eq_of_lt ha, Nat.add_zero]
    have e3 : ∀ (l : List Nat) (k : Nat), (l.map fun a => wid t c a * k).sum = (l.map (wid t c)).sum * k := fun l k => by
      induction l with
      | nil => simp
      | cons a l ih => rw [List.map_cons, List.map_cons, List.sum_cons, List.sum_cons, ih, Nat.add_mul]
    rw [e2, e3, wid_sum]
    have e4 : min ((m + 1) * t) r = min (m * t) r + wid t r m := by unfold wid; rw [Nat.succ_mul]; omega
    rw [e4, Nat.mul_add]
end L02

namespace L02
open PySem PySem.Spec PyProof.Rows L2 DL
variable [TB]
def cellN (t c n q j : Nat) : Nat × Nat := ((q % n) * t + j % wid t c (q % n), (q / n) * t + j / wid t c (q % n))
def sizeN (t c r n q : Nat) : Nat := wid t c (q % n) * wid t r (q / n)
theorem wid_le (t c a : Nat) : wid t c a ≤ t := by unfold wid; rw [Nat.succ_mul]; omega
theorem cell_lt {t c r n q j : Nat} (h : j < sizeN t c r n q) : 0 < wid t c (q % n) ∧ j % wid t c (q % n) < wid t c (q % n) ∧ j / wid t c (q % n) < wid t r (q / n) := by
  unfold sizeN at h
  have h0 : 0 < wid t c (q % n) := by
    rcases Nat.eq_zero_or_pos (wid t c (q % n)) with e | e
    · rw [e] at h; omega
    · exact e
  exact ⟨h0, Nat.mod_lt _ h0, (Nat.div_lt_iff_lt_mul h0).mpr (by rw [Nat.mul_comm]; exact h)⟩
/-- a cell tells its tile -/
theorem cell_tile {t c r n q j : Nat} (ht : 0 < t) (h : j < sizeN t c r n q) : (cellN t c n q j).1 / t = q % n ∧ (cellN t c n q j).2 / t = q / n := by
  obtain ⟨h0, h1, h2⟩ := cell_lt h
  have l1 := wid_le t c (q % n)
  have l2 := wid_le t r (q / n)
  unfold cellN
  refine ⟨?_, ?_⟩
  · show ((q % n) * t + j % wid t c (q % n)) / t = _
    rw [Nat.mul_comm, Nat.mul_add_div ht, Nat.div_eq_of_lt (by omega), Nat.add_zero]
  · show ((q / n) * t + j / wid t c (q % n)) / t = _
    rw [Nat.mul_comm, Nat.mul_add_div ht, Nat.div_eq_of_lt (show j / wid t c (q % n) < t by omega), Nat.add_zero]
theorem cell_inj {t c r n q p j i : Nat} (ht : 0 < t) (hj : j < sizeN t c r n q) (hi : i < sizeN t c r n p) (e : cellN t c n p i = cellN t c n q j) : p = q ∧ i = j := by
  have a := cell_tile ht hj
  have b := cell_tile ht hi
  rw [e] at b
  have e1 : p % n = q % n := b.1.symm.trans a.1
  have e2 : p / n = q / n := b.2.symm.trans a.2
  have hp : p = q := by rw [← Nat.div_add_mod p n, ← Nat.div_add_mod q n, e1, e2]
  subst hp
  refine ⟨rfl, ?_⟩
  have f1 : (cellN t c n p i).1 = (cellN t c n p j).1 := congrArg Prod.fst e
  have f2 : (cellN t c n p i).2 = (cellN t c n p j).2 := congrArg Prod.snd e
  unfold cellN at f1 f2
  have g1 : i % wid t c (p % n) = j % wid t c (p % n) := Nat.add_left_cancel f1
  have g2 : i / wid t c (p % n) = j / wid t c (p % n) := Nat.add_left_cancel f2
  rw [← Nat.div_add_mod i (wid t c (p % n)), ← Nat.div_add_mod j (wid t c (p % n)), g1, g2]
/-- the cells of the tiles ahead of q, and the first j of q -/
def cellsTo (t c r n q j : Nat) : List (Nat × Nat) := (List.range q).flatMap (fun p => (List.range (sizeN t c r n p)).map (cellN t c n p)) ++ (List.range j).map (cellN t c n q)
theorem cellsTo_new {t c r n q j : Nat} (ht : 0 < t) (hj : j < sizeN t c r n q) : cellN t c n q j ∉ cellsTo t c r n q j := by
  unfold cellsTo
  rw [List.mem_append]
  rintro (h | h)
  · obtain ⟨p, hp, h⟩ := List.mem_flatMap.mp h
    obtain ⟨i, hi, e⟩ := List.mem_map.mp h
    have := (cell_inj ht hj (List.mem_range.mp hi) e).1
    have := List.mem_range.mp hp
    omega
  · obtain ⟨i, hi, e⟩ := List.mem_map.mp h
    have hi := List.mem_range.mp hi
    have := (cell_inj ht hj (by omega) e).2
    omega
theorem cellsTo_succ {t c r n q j : Nat} : cellsTo t c r n q (j + 1) = cellsTo t c r n q j ++ [cellN t c n q j] := by
  unfold cellsTo
  rw [List.range_succ, List.map_append, List.append_assoc]
  rfl
theorem cellsTo_next {t c r n q : Nat} : cellsTo t c r n q (sizeN t c r n q) = cellsTo t c r n (q + 1) 0 := by
  unfold cellsTo
  rw [List.range_succ, List.flatMap_append]
  simp
theorem cellsTo_len (t c r n : Nat) : ∀ q : Nat, (cellsTo t c r n q 0).length = ((List.range q).map fun p => wid t c (p % n) * wid t r (p / n)).sum
  | 0 => by simp [cellsTo]
  | q + 1 => by
    have ih := cellsTo_len t c r n q
    unfold cellsTo at ih ⊢
    rw [List.range_succ, List.flatMap_append, List.map_append, List.sum_append, ← ih]
    simp [sizeN]
/-- all of them: c * r -/
theorem cellsTo_all {t c r n m : Nat} (hn : 0 < n) (h1 : c ≤ n * t) (h2 : r ≤ m * t) : (cellsTo t c r n (n * m) 0).length = c * r := by
  rw [cellsTo_len, size_sum t c r n hn m, Nat.min_eq_right h1, Nat.min_eq_right h2]
def kvC (l : List (Nat × Nat)) : List (List Key × D) := l.map fun p => ([.inl (p.1 : Int), .inl (p.2 : Int)], .bl true)
theorem kvC_new {l : List (Nat × Nat)} {p : Nat × Nat} (h : p ∉ l) : valD (kvC l) [.inl (p.1 : Int), .inl (p.2 : Int)] = none ∧ putM (kvC l) [.inl (p.1 : Int), .inl (p.2 : Int)] (.bl true) = kvC (l ++ [p]) := by
  have ha : ((kvC l).any fun kv => decide (kv.1 = [.inl (p.1 : Int), .inl (p.2 : Int)])) = false := by
    rw [List.any_eq_false]
    intro kv hkv
    obtain ⟨q, hq, e⟩ := List.mem_map.mp hkv
    subst e
    intro z
    have z := of_decide_eq_true z
    simp at z
    exact h (by rw [show p = q from Prod.ext (by omega) (by omega)]; exact hq)
  constructor
  · unfold valD
    rw [List.find?_eq_none.mpr (fun kv hkv z => by
      rw [List.any_eq_false] at ha
      exact ha kv hkv z)]
    rfl
  · unfold putM
    rw [if_neg (by rw [ha]; decide)]
    unfold kvC
    rw [List.map_append]
    rfl
end L02

namespace L02
open PySem PySem.Spec PyProof.Rows L2 DL
variable [TB]
def xOf : D → Int
  | .tup (.int x :: _) => x
  | _ => 0
def yOf : D → Int
  | .tup (_ :: .int y :: _) => y
  | _ => 0
/-- the key of the law's lambda -/
def keyYX (d : D) : PyData := .tuple [.int (yOf d), .int (xOf d)]
def IsCell (d : D) : Prop := ∃ x y : Int, d = .tup [.int x, .int y]
theorem grid_cell {x0 x1 y0 : Int} {m : Nat} : ∀ d ∈ gridP x0 x1 y0 m, IsCell d := fun d hd => by
  unfold gridP at hd
  obtain ⟨b, _, hd⟩ := List.mem_flatMap.mp hd
  unfold gridR at hd
  obtain ⟨j, _, rfl⟩ := List.mem_map.mp hd
  exact ⟨_, _, rfl⟩
theorem cell_sim {d : D} (h : IsCell d) : d.sim 1 = true := by
  obtain ⟨x, y, rfl⟩ := h
  rfl
theorem grid_sim {x0 x1 y0 : Int} {m : Nat} : (D.lst (gridP x0 x1 y0 m)).sim 2 = true := sim_lst (simAll_of fun d hd => cell_sim (grid_cell d hd))
theorem grid_y {x0 x1 y0 : Int} {m : Nat} : ∀ d ∈ gridP x0 x1 y0 m, y0 ≤ yOf d ∧ yOf d < y0 + m := fun d hd => by
  unfold gridP at hd
  obtain ⟨b, hb, hd⟩ := List.mem_flatMap.mp hd
  unfold gridR at hd
  obtain ⟨j, _, rfl⟩ := List.mem_map.mp hd
  have := List.mem_range.mp hb
  show y0 ≤ y0 + (b : Int) ∧ y0 + (b : Int) < _
  omega
theorem grid_asc (x0 x1 y0 : Int) : ∀ m : Nat, (gridP x0 x1 y0 m).Pairwise fun p q => yOf p < yOf q ∨ (yOf p = yOf q ∧ xOf p ≤ xOf q)
  | 0 => List.Pairwise.nil
  | m + 1 => by
    rw [gridP_succ, List.pairwise_append]
    refine ⟨grid_asc x0 x1 y0 m, ?_, fun a ha b hb => ?_⟩
    · unfold gridR
      rw [List.pairwise_map]
      refine List.pairwise_lt_range.imp fun {i j} h => .inr ⟨rfl, ?_⟩
      show x0 + (i : Int) ≤ x0 + (j : Int)
      omega
    · have h1 := (grid_y a ha).2
      unfold gridR at hb
      obtain ⟨j, _, rfl⟩ := List.mem_map.mp hb
      refine .inl ?_
      show _ < y0 + (m : Int)
      exact h1
theorem grid_sorted (x0 x1 y0 : Int) (m : Nat) : (gridP x0 x1 y0 m).mergeSort (PySem.W.dataLe false keyYX) = gridP x0 x1 y0 m := by
  refine List.mergeSort_of_pairwise ?_
  show (gridP x0 x1 y0 m).Pairwise fun a b => PySem.W.dataLe false (fun b => PyData.tuple [.int (yOf b), .int (xOf b)]) a b = true
  rw [PySem.W.dataLe_ii]
  exact (grid_asc x0 x1 y0 m).imp fun h => decide_eq_true h
theorem key_lk {prog : Program} {w : World} {A : Around} {env : Env} {h1 : Heap} {u : Value} {d : D} {m0 m1 m2 : Nat} {p1 p2 p3 p4 p5 p6 p7 : Pos} (hk : env.scope.kind = .function) (hl : env.kindOf "pair" = some .local) (hn : h1.Ns env.locals (fun y => [(("pair" : Str), u)].reverse.lookup y)) (hc : IsCell d) (hit : ItT h1 u d)
    (he : backTo p7 (starEach [.Subscript (.Name "pair" p1) (.Constant (.int 1) m0 p2) p3, .Subscript (.Name "pair" p4) (.Constant (.int 0) m1 p5) p6] env) = [(false, eval (.Subscript (.Name "pair" p1) (.Constant (.int 1) m0 p2) p3) env), (false, eval (.Subscript (.Name "pair" p4) (.Constant (.int 0) m1 p5) p6) env)] := by rfl) :
    LK prog w A env (.Tuple [.Subscript (.Name "pair" p1) (.Constant (.int 1) m0 p2) p3, .Subscript (.Name "pair" p4) (.Constant (.int 0) m1 p5) p6] m2 p7) h1 fun h' v => Reads h' v (keyYX d) [] := fun s k => by
  obtain ⟨x, y, rfl⟩ := hc
  obtain ⟨ds, p, its, e1, rfl, ht, hint⟩ := hit
  cases e1
  obtain ⟨t0, g0⟩ := hint 0 x rfl
  obtain ⟨t1, g1⟩ := hint 1 y rfl
  have nm : ∀ {pp : Pos}, LK prog w A env (.Name "pair" pp) h1 fun _ v => v = .ref p := fun {pp} => lk_name hk hl hn rfl
  refine thn (lk_tup2 (lk_item (n := 1) nm ht g1 (by decide)) (lk_item (n := 0) nm ht g0 (by decide)) he s k) fun v s' ⟨h', tk, e, k1, q, e2, o, ho, hcl, n, hd⟩ => ⟨h', tk, e, k1, ?_⟩
  rw [e2]
  exact .tuple ho hcl hd (.cons (.int _ _) (.cons (.int _ _) .nil))
end L02

namespace L02
open PySem PySem.Spec PyProof.Rows L2 DL
variable [TB]
section
variable {K : PySem.W.Frag}
theorem kb_plain {f : Addr} {fd : FuncData} (F : FunD K "__init__" "Settings.__init__" (defArgs sInit) (defBody sInit) (defScope sInit) [] [("slack", .int 0), ("tile", .int 8)] f fd) :
    ∃ mv : List Value, KBn K fd sgPs 1 ["columns", "rows", "cell", "level", "width", "height", "step", "slope"] (fun us ws => us ++ (ws ++ mv)) (fun vs zs => vs ++ (zs ++ [V.int 0, V.int 8])) :=
  F.kbinds0 1 _ [("slack", .int 0), ("tile", .int 8)] (fun us mv ws => us ++ (ws ++ mv)) (by simp) (by intro q h; simp at h; rcases h with rfl | rfl <;> simp) (fun a b c => a.append (c.append b))
    (fun D doc pm an cdv ct us mv ws h1 h2 h3 => match us, mv, ws, h1, h2, h3 with
      | [u], [m, m2], [w1, w2, w3, w4, w5, w6, w7, w8], _, _, _ => ⟨_, _, _, _, _, _, rfl, rfl, ⟨_, _, _, _, _, _, rfl, rfl, rfl⟩⟩)
end
end L02

namespace L02
open PySem PySem.Spec PyProof.Rows L2 DL
variable [TB]
local macro_rules | `(tactic| walk_at "en") => `(tactic| (show XSs _ _ _ _ _ _; refine xss_env (by (dsimp only [envD, envZ, envL, Sg.ds, List.set, List.length, List.map, List.replicate, List.append_eq, List.cons_append, List.nil_append, Nat.reduceAdd, Nat.reduceSub] <;> rfl)) ?_))
theorem cd_nat {c t : Nat} (h1 : 1 ≤ c) (h2 : c ≤ 64) (h3 : 2 ≤ t) : ∃ n : Nat, cd c t = n ∧ 1 ≤ n ∧ n ≤ 64 ∧ c ≤ n * t ∧ ∀ a, a < n → a * t < c := by
  have b := cd_b (a := (c : Int)) (b := (t : Int)) (by omega) (by omega) (by omega)
  refine ⟨(cd c t).toNat, by omega, by omega, by omega, ?_, fun a ha => ?_⟩ <;> (
    unfold cd at *
    have e1 : (t : Int) * (-(c : Int) / t) + -(c : Int) % t = -(c : Int) := Int.mul_ediv_add_emod _ _
    have e2 := Int.emod_nonneg (-(c : Int)) (show (t : Int) ≠ 0 by omega)
    have e3 := Int.emod_lt_of_pos (-(c : Int)) (show (0 : Int) < t by omega)
    generalize -(c : Int) % t = r at *
    generalize hq : -(c : Int) / t = q at *
    obtain ⟨k, hk⟩ : ∃ k : Nat, q = -(k : Int) := ⟨(-q).toNat, by omega⟩
    subst hk
    have e4 : (-(-(k : Int))).toNat = k := by omega
    rw [e4] at *
    have e5 : (t : Int) * (-(k : Int)) = -((k * t : Nat) : Int) := by push_cast; rw [Int.mul_neg, Int.mul_comm]
    rw [e5] at e1)
  · omega
  · have ha' : a + 1 ≤ k := by omega
    have : (a + 1) * t ≤ k * t := Nat.mul_le_mul_right t ha'
    rw [Nat.succ_mul] at this
    omega
theorem wid_int {t c a : Nat} : (mn (((a : Int) + 1) * (t : Int)) (c : Int) - (a : Int) * (t : Int)).toNat = wid t c a := by
  have e1 : ((a : Int) + 1) * (t : Int) = (((a + 1) * t : Nat) : Int) := by push_cast; rfl
  have e2 : (a : Int) * (t : Int) = ((a * t : Nat) : Int) := by push_cast; rfl
  rw [e1, e2]
  unfold mn wid
  split <;> omega
def tcells (t c r a b : Nat) : List D := gridD ((a : Int) * (t : Int)) (mn (((a : Int) + 1) * (t : Int)) (c : Int)) ((b : Int) * (t : Int)) (mn (((b : Int) + 1) * (t : Int)) (r : Int))
theorem tcells_len {t c r a b : Nat} : (tcells t c r a b).length = wid t c a * wid t r b := by
  unfold tcells gridD
  rw [gridP_len, wid_int, wid_int, Nat.mul_comm]
theorem tcells_get {t c r n q j : Nat} (h : j < sizeN t c r n q) : (tcells t c r (q % n) (q / n)).getD j .non = .tup [.int ((cellN t c n q j).1 : Int), .int ((cellN t c n q j).2 : Int)] := by
  have h' : j < wid t r (q / n) * wid t c (q % n) := by rw [Nat.mul_comm]; exact h
  refine getD_of ?_
  unfold tcells gridD
  rw [gridP_get (by rw [wid_int, wid_int]; exact h'), wid_int]
  unfold cellN
  push_cast
  rfl
theorem wid_pos {t c a : Nat} (h : a * t < c) (ht : 0 < t) : 0 < wid t c a := by
  unfold wid
  rw [Nat.succ_mul]
  omega
theorem cell_in {t c r n q j : Nat} (h : j < sizeN t c r n q) : (cellN t c n q j).1 < c ∧ (cellN t c n q j).2 < r := by
  obtain ⟨_, h1, h2⟩ := cell_lt h
  have e1 : wid t c (q % n) = min ((q % n + 1) * t) c - (q % n) * t := rfl
  have e2 : wid t r (q / n) = min ((q / n + 1) * t) r - (q / n) * t := rfl
  unfold cellN
  show (q % n) * t + j % wid t c (q % n) < c ∧ (q / n) * t + j / wid t c (q % n) < r
  generalize j / wid t c (q % n) = v at *
  generalize j % wid t c (q % n) = u at *
  generalize wid t c (q % n) = w1 at *
  generalize wid t r (q / n) = w2 at *
  generalize (q % n + 1) * t = A1 at *
  generalize (q / n + 1) * t = B1 at *
  generalize (q % n) * t = A at *
  generalize (q / n) * t = B at *
  omega
theorem sum_mono (f : Nat → Nat) {k l : Nat} (h : k ≤ l) : ((List.range k).map f).sum ≤ ((List.range l).map f).sum := by
  obtain ⟨d, rfl⟩ : ∃ d, l = k + d := ⟨l - k, by omega⟩
  rw [List.range_add, List.map_append, List.sum_append]
  exact Nat.le_add_right _ _
section
variable {P : Program} {w : World} {K : PySem.W.Frag} {mg : Str → Option Value} {base : Heap}
theorem law_tail {cA Pt : Addr} (S : ClsT P w K mg base) (TBc : LamX.TabB base mg cA Pt) (hmT : (Pt, (("law" : Str) ++ ".<locals>.") ++ "<lambda>") ∈ TB.T) (hu : ∀ p ∈ TB.T, p.1 = Pt → p.2 = (("law" : Str) ++ ".<locals>.") ++ "<lambda>")
    (m_sorted : mg "sorted" = none) (m_len : mg "len" = none) (X : Cx) (C : Cxd X ["script", "state", "columns", "rows", "tile", "one", "turn", "i", "k", "told", "tiles", "seen", "a", "b", "cells", "plain"] (defScope sLaw) P w K mg base 3) (hcode : X.env.code = .ref cA) (hq : X.env.qual = ("law" : Str) ++ ".<locals>.")
    (sa sc : Addr) (B0 H0 : Hp) (h0 : H0 sa ≠ none ∧ H0 sc ≠ none) (z : List Int × Int) (co ro ti : Int) (s6 s7 s8 s9 : Sl) (g1 : 1 ≤ co) (g2 : co ≤ 64) (g3 : 1 ≤ ro) (g4 : ro ≤ 64) (g5 : 2 ≤ ti) (g6 : ti ≤ 16) :
    XSs X (gZ sa sc B0 H0 h0) ((defBody sLaw).drop 7) [.no, .hdl 0, .dat (.int co), .dat (.int ro), .dat (.int ti), .dat (.ins S.Ci (sg co ro ti).fs), s6, s7, s8, s9, .dat (.lst (gridD 0 (cd co ti) 0 (cd ro ti))), .no, .no, .no, .no, .no] z { nx := fun _ _ => False, rt := fun d _ => d = .bl true } := by
  obtain ⟨c, rfl⟩ : ∃ c : Nat, co = c := ⟨co.toNat, by omega⟩
  obtain ⟨r, rfl⟩ : ∃ r : Nat, ro = r := ⟨ro.toNat, by omega⟩
  obtain ⟨t, rfl⟩ : ∃ t : Nat, ti = t := ⟨ti.toNat, by omega⟩
  obtain ⟨n, en, n1, n2, n3, n4⟩ := cd_nat (c := c) (t := t) (by omega) (by omega) (by omega)
  obtain ⟨m, em, m1, m2, m3, m4⟩ := cd_nat (c := r) (t := t) (by omega) (by omega) (by omega)
  have hok := sg_ok g1 g2 g3 g4 g5 g6
  have eT : gridD 0 (cd c t) 0 (cd r t) = gridP 0 (n : Int) 0 m := by
    unfold gridD
    rw [en, em]
    congr 1
  have eN : ((n : Int) - 0).toNat = n := by omega
  have tl : (gridP 0 (n : Int) 0 m).length = m * n := by rw [gridP_len, eN]
  have mn0 : 0 < m * n := Nat.mul_pos (by omega) (by omega)
  have tg : ∀ q, q < m * n → (gridP 0 (n : Int) 0 m).getD q .non = .tup [.int ((q % n : Nat) : Int), .int ((q / n : Nat) : Int)] := fun q hq => by
    refine getD_of ?_
    rw [gridP_get (by rw [eN]; exact hq), eN, Int.zero_add, Int.zero_add]
  rw [eT]
  refine xss_cons (xs_if (t_w (w_or (t_neS 2 C.toCxt (x_var 10 C.toCxt rfl rfl rfl) (x_ofL (l_to (l_sortKey (x := "pair") C.toCxt keyYX hcode TBc (by rw [hq]; exact hmT) (by rw [hq]; exact hu) rfl m_sorted (x_var 10 C.toCxt rfl rfl rfl) (fun d hd => ?_) (PySem.W.AllAlike.of fun _ _ => ?_) (PySem.W.Sortable.tuples fun _ => ⟨_, _, rfl⟩) (fun d _ => ?_) (lam1_by (by decide +kernel))
      (fun A h h1 u d l f' c' cl hd hit hk hns => key_lk rfl rfl hns (grid_cell d hd) (hit.kp hk))) (grid_sorted _ _ _ _))) grid_sim grid_sim) (fun _ => w_or1 (t_eqI (x_len C.toCxt rfl m_len (x_var 10 C.toCxt rfl rfl rfl) rfl) x_int)))) (fun h => absurd h ?_) (fun _ => xss_nil ?_))
  · obtain ⟨x, y, rfl⟩ := grid_cell d hd
    exact ⟨_, rfl⟩
  · simp [keyYX, PySem.W.alike, PySem.W.alikeAll]
  · simp [keyYX, PyData.depth, PyData.depthAll]
  · rw [tl]
    have h1 : ¬ m = 0 := by omega
    have h2 : ¬ n = 0 := by omega
    simp [h1, h2]
  walk_at "en"
  refine xss_cons (xs_setB 11 C rfl rfl b_dT ?_)
  walk_at "en"
  refine xss_cons (xs_for (fun q ρ _ => ∃ s7 s8 s12 s13 s14, ρ = [.no, .hdl 0, .dat (.int (c : Int)), .dat (.int (r : Int)), .dat (.int (t : Int)), .dat (.ins S.Ci (sg c r t).fs), s6, s7, s8, s9, .dat (.lst (gridP 0 (n : Int) 0 m)), .ob (.dT (kvC (cellsTo t c r n q 0))), s12, s13, s14, .no]) C
    (xi_list (x_var 10 C.toCxt rfl rfl rfl)) ⟨_, _, _, _, _, rfl⟩ (fun q ρ z1 hqn hI => ?_) (fun ρ z1 hI => ?_))
  · obtain ⟨s7, s8, s12, s13, s14, rfl⟩ := hI
    rw [tl] at hqn
    rw [tg q hqn]
    have hA : q % n < n := Nat.mod_lt _ (by omega)
    have hB : q / n < m := Nat.div_lt_of_lt_mul (by rw [Nat.mul_comm]; exact hqn)
    have wA := wid_pos (n4 _ hA) (by omega : 0 < t)
    have wB := wid_pos (m4 _ hB) (by omega : 0 < t)
    have lA := wid_le t c (q % n)
    have lB := wid_le t r (q / n)
    have sz : sizeN t c r n q = wid t c (q % n) * wid t r (q / n) := rfl
    have sz0 : 0 < sizeN t c r n q := by rw [sz]; exact Nat.mul_pos wA wB
    have sz1 : sizeN t c r n q ≤ 64 * 64 := by rw [sz]; exact Nat.mul_le_mul (by omega) (by omega)
    have tot : (cellsTo t c r n (q + 1) 0).length ≤ 64 * 64 := by
      rw [cellsTo_len]
      have h1 := sum_mono (fun p => wid t c (p % n) * wid t r (p / n)) (show q + 1 ≤ n * m by rw [Nat.mul_comm n m]; omega)
      have h2 := size_sum t c r n (by omega) m
      rw [Nat.min_eq_right n3, Nat.min_eq_right m3] at h2
      have h3 : c * r ≤ 64 * 64 := Nat.mul_le_mul (by omega) (by omega)
      omega
    refine ⟨_, _, xg_tup C.toCxt (xgs_cons (xg_nameD 12 C rfl rfl) (xgs_cons (xg_nameD 13 C rfl rfl) xgs_nil)), ?_⟩
    walk_at "en"
    refine xss_cons (xs_set 14 C rfl rfl (x_meth C.toCxt S.T.cl S.mc S.okC S.bc (x_var 5 C.toCxt rfl rfl rfl) (a_cons (x_var 12 C.toCxt rfl rfl rfl) (a_cons (x_var 13 C.toCxt rfl rfl rfl) a_nil)) (look_no sgK rfl (by decide +kernel)) ⟨sg c r t, _, _, hok, Int.natCast_nonneg _, Int.ofNat_le.mpr (Nat.le_trans (Nat.le_of_lt hA) n2), Int.natCast_nonneg _, Int.ofNat_le.mpr (Nat.le_trans (Nat.le_of_lt hB) m2), rfl, rfl⟩) ?_)
    walk_at "en"
    have eC : D.lst (gridD (((q % n : Nat) : Int) * (sg c r t).ti) (mn ((((q % n : Nat) : Int) + 1) * (sg c r t).ti) (sg c r t).co) (((q / n : Nat) : Int) * (sg c r t).ti) (mn ((((q / n : Nat) : Int) + 1) * (sg c r t).ti) (sg c r t).ro)) = .lst (tcells t c r (q % n) (q / n)) := rfl
    rw [eC]
    have cl : (tcells t c r (q % n) (q / n)).length = sizeN t c r n q := tcells_len
    have cc : ∀ d ∈ tcells t c r (q % n) (q / n), IsCell d := fun d hd => grid_cell d hd
    have csim : (D.lst (tcells t c r (q % n) (q / n))).sim 2 = true := grid_sim
    have csort : (tcells t c r (q % n) (q / n)).mergeSort (PySem.W.dataLe false keyYX) = tcells t c r (q % n) (q / n) := grid_sorted _ _ _ _
    have cget : ∀ j, j < sizeN t c r n q → (tcells t c r (q % n) (q / n)).getD j .non = .tup [.int ((cellN t c n q j).1 : Int), .int ((cellN t c n q j).2 : Int)] := fun j hj => tcells_get hj
    generalize tcells t c r (q % n) (q / n) = cells at cl cc csim csort cget ⊢
    refine xss_cons (xs_if (t_w (w_or (t_eqI (x_len C.toCxt rfl m_len (x_var 14 C.toCxt rfl rfl rfl) rfl) x_int) (fun _ => w_or1 (t_neS 2 C.toCxt (x_var 14 C.toCxt rfl rfl rfl) (x_ofL (l_to (l_sortKey (x := "pair") C.toCxt keyYX hcode TBc (by rw [hq]; exact hmT) (by rw [hq]; exact hu) rfl m_sorted (x_var 14 C.toCxt rfl rfl rfl) (fun d hd => ?_) (PySem.W.AllAlike.of fun _ _ => ?_) (PySem.W.Sortable.tuples fun _ => ⟨_, _, rfl⟩) (fun d _ => ?_) (lam1_by (by decide +kernel))
      (fun A h h1 u d l f' c' cl hd hit hk hns => key_lk rfl rfl hns (cc d hd) (hit.kp hk))) csort)) csim csim)))) (fun h => absurd h ?_) (fun _ => xss_nil ?_))
    · obtain ⟨x, y, rfl⟩ := cc d hd
      exact ⟨_, rfl⟩
    · simp [keyYX, PySem.W.alike, PySem.W.alikeAll]
    · simp [keyYX, PyData.depth, PyData.depthAll]
    · rw [cl]
      have : ¬ sizeN t c r n q = 0 := by omega
      simp [this]
    walk_at "en"
    refine xss_one (xs_for (fun j ρ _ => ∃ s7 s8, ρ = [.no, .hdl 0, .dat (.int (c : Int)), .dat (.int (r : Int)), .dat (.int (t : Int)), .dat (.ins S.Ci (sg c r t).fs), s6, s7, s8, s9, .dat (.lst (gridP 0 (n : Int) 0 m)), .ob (.dT (kvC (cellsTo t c r n q j))), .dat (.int ((q % n : Nat) : Int)), .dat (.int ((q / n : Nat) : Int)), .dat (.lst cells), .no]) C
      (xi_list (x_var 14 C.toCxt rfl rfl rfl)) ⟨_, _, rfl⟩ (fun j ρ z2 hj hI => ?_) (fun ρ z2 hI => ?_))
    · obtain ⟨s7, s8, rfl⟩ := hI
      rw [cl] at hj
      rw [cget j hj]
      obtain ⟨d1, d2⟩ := cell_tile (by omega : 0 < t) hj
      obtain ⟨i1, i2⟩ := cell_in hj
      obtain ⟨v1, v2⟩ := kvC_new (cellsTo_new (by omega : 0 < t) hj)
      have len : (kvC (cellsTo t c r n q j)).length < sizeLine := by
        have h1 : (cellsTo t c r n (q + 1) 0).length = (cellsTo t c r n q (sizeN t c r n q)).length := by rw [cellsTo_next]
        have h2 : (cellsTo t c r n q j).length ≤ (cellsTo t c r n q (sizeN t c r n q)).length := by
          unfold cellsTo
          simp only [List.length_append, List.length_map, List.length_range]
          omega
        rw [sizeLine_eq]
        unfold kvC
        rw [List.length_map]
        omega
      rw [cellsTo_succ, ← v2]
      generalize cellN t c n q j = p at d1 d2 i1 i2 v1 ⊢
      generalize kvC (cellsTo t c r n q j) = kv at v1 len ⊢
      refine ⟨_, _, xg_tup C.toCxt (xgs_cons (xg_nameD 7 C rfl rfl) (xgs_cons (xg_nameD 8 C rfl rfl) xgs_nil)), ?_⟩
      walk_at "en"
      refine xss_cons (xs_if (t_w (w_or (t_neI (x_fdiv (x_var 7 C.toCxt rfl rfl rfl) (x_var 4 C.toCxt rfl rfl rfl) (cdiv_of (by omega) (by omega))) (x_var 12 C.toCxt rfl rfl rfl)) (fun _ => w_or (t_neI (x_fdiv (x_var 8 C.toCxt rfl rfl rfl) (x_var 4 C.toCxt rfl rfl rfl) (cdiv_of (by omega) (by omega))) (x_var 13 C.toCxt rfl rfl rfl)) (fun _ => w_or (t_inT C.toCxt (x_tup (a_cons (x_var 7 C.toCxt rfl rfl rfl) (a_cons (x_var 8 C.toCxt rfl rfl rfl) a_nil)) (small (Nat.le_of_ble_eq_true rfl))) (o_own 11 C.toCxt rfl rfl rfl) rfl)
        (fun _ => w_or1 (t_not (t_val (x_meth C.toCxt S.T.cl S.mh S.okH S.bh (x_var 5 C.toCxt rfl rfl rfl) (a_cons (x_var 7 C.toCxt rfl rfl rfl) (a_cons (x_var 8 C.toCxt rfl rfl rfl) a_nil)) (look_no sgK rfl (by decide +kernel)) ⟨sg c r t, _, _, rfl, rfl⟩)))))))) (fun h => absurd h ?_) (fun _ => xss_nil ?_))
      · have f1 : ((p.1 : Nat) : Int) / ((t : Nat) : Int) = ((q % n : Nat) : Int) := by rw [← Int.natCast_ediv, d1]
        have f2 : ((p.2 : Nat) : Int) / ((t : Nat) : Int) = ((q / n : Nat) : Int) := by rw [← Int.natCast_ediv, d2]
        rw [f1, f2, v1]
        have f3 : (0 : Int) ≤ (p.1 : Int) := by omega
        have f4 : (0 : Int) ≤ (p.2 : Int) := by omega
        have f5 : ((p.1 : Nat) : Int) < (sg c r t).co := by show ((p.1 : Nat) : Int) < (c : Int); omega
        have f6 : ((p.2 : Nat) : Int) < (sg c r t).ro := by show ((p.2 : Nat) : Int) < (r : Int); omega
        simp [f3, f4, f5, f6]
      · walk_at "en"
        exact xss_one (xs_putT 11 C rfl rfl rfl x_bl (x_tup (a_cons (x_var 7 C.toCxt rfl rfl rfl) (a_cons (x_var 8 C.toCxt rfl rfl rfl) a_nil)) (small (Nat.le_of_ble_eq_true rfl))) rfl len ⟨_, _, rfl⟩)
    · obtain ⟨s7, s8, rfl⟩ := hI
      rw [cl, cellsTo_next]
      exact ⟨_, _, _, _, _, rfl⟩
  · obtain ⟨s7, s8, s12, s13, s14, rfl⟩ := hI
    rw [tl, Nat.mul_comm m n]
    have hall := cellsTo_all (t := t) (c := c) (r := r) (n := n) (m := m) (by omega) n3 m3
    generalize cellsTo t c r n (n * m) 0 = all at hall ⊢
    show XSs _ _ _ _ _ _
    obtain ⟨mv, kb⟩ := S.gp
    refine xss_cons (xs_set 15 C rfl rfl (x_makeK C.toCxt S.mkC S.okI S.mC kb rfl (k_cons x_int (k_cons x_int (k_cons x_int (k_cons x_int (k_cons x_int (k_cons x_int (k_cons x_int (k_cons (x_tup (a_cons x_int (a_cons x_int a_nil)) (small (Nat.le_of_ble_eq_true rfl))) k_nil))))))))
      ⟨sg 1 1 8, sg_ok (by decide) (by decide) (by decide) (by decide) (by decide) (by decide), rfl, rfl⟩ (fun B y vs r => ⟨_, rfl, r.app (.cons (.int 0) (.cons (.int 8) .nil))⟩)) ?_)
    walk_at "en"
    refine xss_one (xs_ret (x_and (x_eqI (x_lenDT C.toCxt rfl m_len (o_own 11 C.toCxt rfl rfl rfl)) (x_mul (x_var 2 C.toCxt rfl rfl rfl) (x_var 3 C.toCxt rfl rfl rfl) (cmul_of (by omega) (by omega) (by omega) (by omega)))) (fun _ => x_and (x_eqI (x_fld C.toCxt S.T.cl S.T.n_slack (x_var 15 C.toCxt rfl rfl rfl) (fl_slack rfl)) x_int) (fun _ => x_one (x_eqI (x_fld C.toCxt S.T.cl S.T.n_tile (x_var 15 C.toCxt rfl rfl rfl) (fl_tile rfl)) x_int)))) ?_)
    show D.bl _ = .bl true
    have e : ((kvC all).length : Int) = (c : Int) * (r : Int) := by
      unfold kvC
      rw [List.length_map, hall]
      push_cast
      rfl
    rw [e]
    simp
    exact ⟨rfl, rfl⟩
end
end L02

namespace L02
open PySem PySem.Spec PyProof.Rows L2 DL
theorem all_mk {l : PySem.W.OpenLaw} {w : World} {K : PySem.W.Frag} {h : Heap} {mg : Str → Option Value} {fa Ci Dk c Pt f0 f1 f2 f3 f4 f5 f6 f7 f8 : Addr} (X : K.In h) (G : h.Ns mainGlobals mg) (hfa : mg "law" = some (.ref fa))
    {od0 an0 od1 an1 od2 an2 od3 an3 od4 an4 od5 an5 od6 an6 od7 an7 od8 an8 : Option Addr} {sl0 sl1 sl2 sl3 sl4 sl5 sl6 sl7 sl8 : Array (Option Value)} {oc0 kV0 dc0 pm0 cd0 ct0 oc1 kV1 dc1 pm1 cd1 ct1 oc2 kV2 dc2 pm2 cd2 ct2 oc3 kV3 dc3 pm3 cd3 ct3 oc4 kV4 dc4 pm4 ct4 oc5 dc5 pm5 cd5 ct5 oc6 kV6 dc6 pm6 cd6 ct6 oc7 kV7 dc7 pm7 cd7 ct7 oc8 kV8 dc8 pm8 cd8 ct8 : Value} {kt1 kt2 : Tok}
    (a0 : PySem.W.nsIn K mainGlobals "ceiled" = some (some (.ref f0))) (l0 : K.lookup f0 = some ⟨oc0, od0, .func (PySem.W.fnOf "ceiled" "ceiled" (defArgs sCeiled) (defBody sCeiled) (defScope sCeiled) .none kV0 dc0 pm0 an0 cd0 ct0), sl0⟩) (c0 : PySem.W.codeIn K cd0 "ceiled" = true) (k0 : PySem.W.keepIn K (.ref f0) = true)
    (a1 : PySem.W.nsIn K mainGlobals "require" = some (some (.ref f1))) (l1 : K.lookup f1 = some ⟨oc1, od1, .func (PySem.W.fnOf "require" "require" (defArgs sRequire) (defBody sRequire) (defScope sRequire) .none kV1 dc1 pm1 an1 cd1 ct1), sl1⟩) (c1 : PySem.W.codeIn K cd1 "require" = true) (k1 : PySem.W.keepIn K (.ref f1) = true)
    (a2 : PySem.W.nsIn K mainGlobals "_law_state" = some (some (.ref f2))) (l2 : K.lookup f2 = some ⟨oc2, od2, .func (PySem.W.fnOf "_law_state" "_law_state" (defArgs sState) (defBody sState) (defScope sState) .none kV2 dc2 pm2 an2 cd2 ct2), sl2⟩) (c2 : PySem.W.codeIn K cd2 "_law_state" = true) (k2 : PySem.W.keepIn K (.ref f2) = true)
    (a3 : PySem.W.nsIn K mainGlobals "_law_draw" = some (some (.ref f3))) (l3 : K.lookup f3 = some ⟨oc3, od3, .func (PySem.W.fnOf "_law_draw" "_law_draw" (defArgs sDraw) (defBody sDraw) (defScope sDraw) .none kV3 dc3 pm3 an3 cd3 ct3), sl3⟩) (c3 : PySem.W.codeIn K cd3 "_law_draw" = true) (k3 : PySem.W.keepIn K (.ref f3) = true)
    (a4 : PySem.W.nsIn K mainGlobals "law" = some (some (.ref f4))) (l4 : K.lookup f4 = some ⟨oc4, od4, .func (PySem.W.fnOf "law" "law" (defArgs sLaw) (defBody sLaw) (defScope sLaw) .none kV4 dc4 pm4 an4 (.ref c) ct4), sl4⟩) (c4 : PySem.W.codeIn K (.ref c) "law" = true) (k4 : PySem.W.keepIn K (.ref f4) = true)
    (aC : PySem.W.nsIn K mainGlobals "Settings" = some (some (.ref Ci)))
    (a5 : PySem.W.findIn K (.ref Ci) "__init__" = some (some (.ref f5))) (i5 : PySem.W.isFn K (.ref f5) = true) (l5 : K.lookup f5 = some ⟨oc5, od5, .func (PySem.W.fnOf "__init__" "Settings.__init__" (defArgs sInit) (defBody sInit) (defScope sInit) .none (.ref Dk) dc5 pm5 an5 cd5 ct5), sl5⟩) (c5 : PySem.W.codeIn K cd5 "Settings.__init__" = true) (k5 : PySem.W.keepIn K (.ref f5) = true)
    (a6 : PySem.W.findIn K (.ref Ci) "has_cell" = some (some (.ref f6))) (i6 : PySem.W.isFn K (.ref f6) = true) (l6 : K.lookup f6 = some ⟨oc6, od6, .func (PySem.W.fnOf "has_cell" "Settings.has_cell" (defArgs sHas) (defBody sHas) (defScope sHas) .none kV6 dc6 pm6 an6 cd6 ct6), sl6⟩) (c6 : PySem.W.codeIn K cd6 "Settings.has_cell" = true) (k6 : PySem.W.keepIn K (.ref f6) = true)
    (a7 : PySem.W.findIn K (.ref Ci) "tiles" = some (some (.ref f7))) (i7 : PySem.W.isFn K (.ref f7) = true) (l7 : K.lookup f7 = some ⟨oc7, od7, .func (PySem.W.fnOf "tiles" "Settings.tiles" (defArgs sTiles) (defBody sTiles) (defScope sTiles) .none kV7 dc7 pm7 an7 cd7 ct7), sl7⟩) (c7 : PySem.W.codeIn K cd7 "Settings.tiles" = true) (k7 : PySem.W.keepIn K (.ref f7) = true)
    (a8 : PySem.W.findIn K (.ref Ci) "tile_cells" = some (some (.ref f8))) (i8 : PySem.W.isFn K (.ref f8) = true) (l8 : K.lookup f8 = some ⟨oc8, od8, .func (PySem.W.fnOf "tile_cells" "Settings.tile_cells" (defArgs sCells) (defBody sCells) (defScope sCells) .none kV8 dc8 pm8 an8 cd8 ct8), sl8⟩) (c8 : PySem.W.codeIn K cd8 "Settings.tile_cells" = true) (k8 : PySem.W.keepIn K (.ref f8) = true)
    (d1 : PySem.W.nsIn K Dk "slack" = some (some (.int 0 kt1))) (d2 : PySem.W.nsIn K Dk "tile" = some (some (.int 8 kt2)))
    (pg : PySem.W.plainGet K Ci Str.empty = true) (hd : PySem.W.hasDictIn K Ci = true) (po : PySem.W.plainOver K Ci = true) (sa : PySem.W.findIn K (.ref Ci) "__setattr__" = some (some (.builtin "object.__setattr__"))) (mk : PySem.W.makesIn K Ci = true) (kc : PySem.W.keepIn K (.ref Ci) = true)
    (n_columns : PySem.W.findIn K (.ref Ci) "columns" = some none)
    (n_rows : PySem.W.findIn K (.ref Ci) "rows" = some none)
    (n_cell : PySem.W.findIn K (.ref Ci) "cell" = some none)
    (n_level : PySem.W.findIn K (.ref Ci) "level" = some none)
    (n_width : PySem.W.findIn K (.ref Ci) "width" = some none)
    (n_height : PySem.W.findIn K (.ref Ci) "height" = some none)
    (n_step : PySem.W.findIn K (.ref Ci) "step" = some none)
    (n_slope : PySem.W.findIn K (.ref Ci) "slope" = some none)
    (n_slack : PySem.W.findIn K (.ref Ci) "slack" = some none)
    (n_tile : PySem.W.findIn K (.ref Ci) "tile" = some none)
    (n_tall : PySem.W.findIn K (.ref Ci) "tall" = some none)
    (n_rise : PySem.W.findIn K (.ref Ci) "rise" = some none)
    (n_reach : PySem.W.findIn K (.ref Ci) "reach" = some none)
    (z_int : PySem.W.nsIn K mainGlobals "int" = some none)
    (z_abs : PySem.W.nsIn K mainGlobals "abs" = some none)
    (z_len : PySem.W.nsIn K mainGlobals "len" = some none)
    (z_range : PySem.W.nsIn K mainGlobals "range" = some none)
    (z_isinstance : PySem.W.nsIn K mainGlobals "isinstance" = some none)
    (z_bool : PySem.W.nsIn K mainGlobals "bool" = some none)
    (z_min : PySem.W.nsIn K mainGlobals "min" = some none)
    (z_sorted : PySem.W.nsIn K mainGlobals "sorted" = some none)
    (hh : PySem.W.codeHdIn K c Pt = true) (hp : h.get? Pt = some (PySem.W.tabObj #[])) (hn : K.lookup Pt = none) : LamX.LawAtS l w K CX0 4 63 "script" mg fa h := by
  letI : TB := ⟨[(Pt, (("law" : Str) ++ ".<locals>.") ++ "<lambda>")]⟩
  have e := hfa.symm.trans (PySem.W.mg_of X G a4)
  cases e
  have F0 := fun_mk (st := sCeiled) l0 c0 k0
  have b0 := F0.binds (ps := ["number", "unit"]) fun _ _ _ _ _ _ us hl => match us, hl with | [_, _], _ => rfl
  have g0 := PySem.W.mg_of X G a0
  have F1 := fun_mk (st := sRequire) l1 c1 k1
  have b1 := F1.binds (ps := ["name", "holds"]) fun _ _ _ _ _ _ us hl => match us, hl with | [_, _], _ => rfl
  have g1 := PySem.W.mg_of X G a1
  have F2 := fun_mk (st := sState) l2 c2 k2
  have b2 := F2.binds (ps := ["script"]) fun _ _ _ _ _ _ us hl => match us, hl with | [_], _ => rfl
  have g2 := PySem.W.mg_of X G a2
  have F3 := fun_mk (st := sDraw) l3 c3 k3
  have b3 := F3.binds (ps := ["state", "many"]) fun _ _ _ _ _ _ us hl => match us, hl with | [_, _], _ => rfl
  have g3 := PySem.W.mg_of X G a3
  have F4 := fun_mk (st := sLaw) l4 c4 k4
  have F5 : FunD K "__init__" "Settings.__init__" (defArgs sInit) (defBody sInit) (defScope sInit) [] [("slack", .int 0), ("tile", .int 8)] f5 _ := ⟨⟨_, _, _, _, _, _, _, _, _, _, rfl, l5, c5, .inl ⟨rfl, rfl⟩, .inr ⟨Dk, rfl, fun q hq => by
      rcases List.mem_cons.mp hq with rfl | hq
      · exact ⟨_, d1, _, rfl⟩
      · rcases List.mem_cons.mp hq with rfl | hq
        · exact ⟨_, d2, _, rfl⟩
        · cases hq⟩⟩, k5⟩
  have F6 := fun_mk (st := sHas) l6 c6 k6
  have b6 := F6.binds (ps := ["self", "i", "k"]) fun _ _ _ _ _ _ us hl => match us, hl with | [_, _, _], _ => rfl
  have F7 := fun_mk (st := sTiles) l7 c7 k7
  have b7 := F7.binds (ps := ["self"]) fun _ _ _ _ _ _ us hl => match us, hl with | [_], _ => rfl
  have F8 := fun_mk (st := sCells) l8 c8 k8
  have b8 := F8.binds (ps := ["self", "a", "b"]) fun _ _ _ _ _ _ us hl => match us, hl with | [_, _, _], _ => rfl
  have m_int := PySem.W.mg_none_of X G z_int
  have m_abs := PySem.W.mg_none_of X G z_abs
  have m_len := PySem.W.mg_none_of X G z_len
  have m_range := PySem.W.mg_none_of X G z_range
  have m_isinstance := PySem.W.mg_none_of X G z_isinstance
  have m_bool := PySem.W.mg_none_of X G z_bool
  have m_min := PySem.W.mg_none_of X G z_min
  have m_sorted := PySem.W.mg_none_of X G z_sorted
  have T : SgT K Ci := ⟨⟨pg, hd, po, sa⟩, n_columns, n_rows, n_cell, n_level, n_width, n_height, n_step, n_slope, n_slack, n_tile, n_tall, n_rise, n_reach⟩
  refine ⟨PySem.W.fnOf "law" "law" (defArgs sLaw) (defBody sLaw) (defScope sLaw) .none kV4 dc4 pm4 an4 (.ref c) ct4, [(c, Pt)], spLaw K, fun p q => ?_, fun p q => ?_, fun p q => ?_, fun s v => .of_eq rfl, fun H a ns hl _ hT hS => ⟨fun p q => ?_, a, ns, rfl, hS, hl, fun _ => rfl⟩, fun base _ _ hT => ?_⟩
  · rw [List.mem_singleton.mp q]; exact hp
  · rw [List.mem_singleton.mp q]; exact hn
  · rw [List.mem_singleton.mp q]; exact PySem.W.codeHd_of_K X hh
  · rw [List.mem_singleton.mp q]; exact .nil (hT (c, Pt) (List.mem_singleton.mpr rfl))
  have TBc := hT (c, Pt) (List.mem_singleton.mpr rfl)
  have Fc : Fnc l.prog w K mg base "ceiled" 1 _ := fnc (ok_ceiled F0) g0 F0 b0
  have Fr : Fnc l.prog w K mg base "require" 1 _ := fnc (ok_require F1) g1 F1 b1
  have Fs : Fnc l.prog w K mg base "_law_state" 1 _ := fnc (ok_state F2 m_int m_abs) g2 F2 b2
  have Fd : Fnc l.prog w K mg base "_law_draw" 1 _ := fnc (ok_draw F3 m_int m_len) g3 F3 b3
  have S : ClsT l.prog w K mg base := ⟨Ci, T, PySem.W.mg_of X G aC, _, _, ⟨mk, a5, i5, kc⟩, ok_init T F5 Fc Fr (by decide) (by decide), kb_tile F5, _, _, ⟨a6, i6, k6⟩, ok_has T F6, b6, _, _, ⟨a7, i7, k7⟩, ok_tiles T F7 Fc (by decide) m_range, b7, _, _, ⟨a8, i8, k8⟩, ok_cells T F8 m_range m_min, b8, kb_plain F5⟩
  exact law_front l4 c4 Fs Fd S m_range m_isinstance m_bool (fun X C hcode hq sa sc B0 H0 h0 z co ro ti s6 s7 s8 s9 g1 g2 g3 g4 g5 g6 => law_tail S TBc (List.mem_singleton.mpr rfl) (fun p hp _ => by rw [List.mem_singleton.mp hp]) m_sorted m_len X C hcode hq sa sc B0 H0 h0 z co ro ti s6 s7 s8 s9 g1 g2 g3 g4 g5 g6)
end L02
open PySem PySem.W PyProof.Rows
set_option maxHeartbeats 0 in
theorem PySem.Challenge.cw_footpath_k02_tiles_holds : PySem.Challenge.rw_footpath_k02_tiles.Holds := by
  w_on; o_law; k_head; (case hw => w_witness2)
  k_fill
  refine LamX.walk_ofTs (l := PySem.Challenge.rw_footpath_k02_tiles) (n := 63) (k := 4) (x := "script") (CX := fun _ => L2.CX0) rfl (by decide) rfl ⟨rfl, by decide, by decide⟩ (fun w h Y => PySem.W.km_in_of Y) ?F (fun _ _ _ _ _ h => h)
  case F =>
    intro w mg fa h Y KX G hmg
    refine' L02.all_mk KX G hmg ?a0 ?l0 ?c0 ?k0 ?a1 ?l1 ?c1 ?k1 ?a2 ?l2 ?c2 ?k2 ?a3 ?l3 ?c3 ?k3 ?a4 ?l4 ?c4 ?k4 ?aC ?a5 ?i5 ?l5 ?c5 ?k5 ?a6 ?i6 ?l6 ?c6 ?k6 ?a7 ?i7 ?l7 ?c7 ?k7 ?a8 ?i8 ?l8 ?c8 ?k8 ?d1 ?d2 ?pg ?hd ?po ?sa ?mk ?kc ?n_columns ?n_rows ?n_cell ?n_level ?n_width ?n_height ?n_step ?n_slope ?n_slack ?n_tile ?n_tall ?n_rise ?n_reach ?z_int ?z_abs ?z_len ?z_range ?z_isinstance ?z_bool ?z_min ?z_sorted ?hh (PySem.W.km_tabs_of Y _ (List.mem_singleton.mpr rfl)) ?hn
    (case a0 => k_is); (case l0 => k_is); (case c0 => k_is); (case k0 => k_is); (case a1 => k_is); (case l1 => k_is); (case c1 => k_is); (case k1 => k_is); (case a2 => k_is); (case l2 => k_is); (case c2 => k_is); (case k2 => k_is); (case a3 => k_is); (case l3 => k_is); (case c3 => k_is); (case k3 => k_is); (case a4 => k_is); (case l4 => k_is); (case c4 => k_is); (case k4 => k_is); (case aC => k_is); (case a5 => k_is); (case i5 => k_is); (case l5 => k_is); (case c5 => k_is); (case k5 => k_is); (case a6 => k_is); (case i6 => k_is); (case l6 => k_is); (case c6 => k_is); (case k6 => k_is); (case a7 => k_is); (case i7 => k_is); (case l7 => k_is); (case c7 => k_is); (case k7 => k_is); (case a8 => k_is); (case i8 => k_is); (case l8 => k_is); (case c8 => k_is); (case k8 => k_is); (case d1 => k_is); (case d2 => k_is); (case pg => k_is); (case hd => k_is); (case po => k_is); (case sa => k_is); (case mk => k_is); (case kc => k_is); (case n_columns => k_is); (case n_rows => k_is); (case n_cell => k_is); (case n_level => k_is); (case n_width => k_is); (case n_height => k_is); (case n_step => k_is); (case n_slope => k_is); (case n_slack => k_is); (case n_tile => k_is); (case n_tall => k_is); (case n_rise => k_is); (case n_reach => k_is); (case z_int => k_is); (case z_abs => k_is); (case z_len => k_is); (case z_range => k_is); (case z_isinstance => k_is); (case z_bool => k_is); (case z_min => k_is); (case z_sorted => k_is)
    · kernel_rfl
    · kernel_rfl

