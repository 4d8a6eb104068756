import PyProof.Rows.All
import Wide.All
import OpenK.AllK
import Wide.FinOn
import HandS.Base
import HandS.Call
import HandS.List
import HandS.Comp
import HandS.Iter
import HandS.Ends
import HandS.Words
import HandS.WordsList
import HandS.Wide
import HandS.Style
import HandS.IsInst
import HandS.NoneIn
import HandS.Flow
import HandS.Zip
import PySem.Challenge.RW_footpath_k06_extents
set_option Elab.async false
set_option linter.all false
set_option maxRecDepth 100000
set_option maxHeartbeats 4000000
/-! A layer of data over the hand layer: values as trees, a def's body as a change of an environment of data. -/
namespace DL
open PySem PySem.Spec PyProof.Rows L2

/-- data: what a value stands for -/
inductive D where
  | non | bl (b : Bool) | int (i : Int) | str (s : Str)
  | lst (xs : List D) | tup (xs : List D)
  | raw (v : V)
  | ins (C : Addr) (fs : List (Str × D))

def Ex (H H' : Hp) : Prop := ∀ a o, H a = some o → H' a = some o
theorem Ex.refl (H : Hp) : Ex H H := fun _ _ h => h
theorem Ex.trans {H H1 H2 : Hp} (a : Ex H H1) (b : Ex H1 H2) : Ex H H2 := fun x o h => b x o (a x o h)
theorem Ex.new {H : Hp} {p : Addr} {o : HO} (h : H p = none) : Ex H (upd H p o) := fun a u e => by
  rw [upd_ne (ne_of_none e h)]
  exact e
theorem Ex.sqL {K : PySem.W.Frag} {H H' : Hp} {a : Addr} {xs : List V} (e : Ex H H') (h : SqL K H a xs) : SqL K H' a xs := by
  rcases h with (h | ⟨o, h⟩) | h
  · exact .inl (.inl (e _ _ h))
  · exact .inl (.inr ⟨o, e _ _ h⟩)
  · exact .inr h
theorem Ex.sqT {K : PySem.W.Frag} {H H' : Hp} {a : Addr} {xs : List V} (e : Ex H H') (h : SqT K H a xs) : SqT K H' a xs := by
  rcases h with (h | ⟨o, h⟩) | h
  · exact .inl (.inl (e _ _ h))
  · exact .inl (.inr ⟨o, e _ _ h⟩)
  · exact .inr h

mutual
inductive Rep (K : PySem.W.Frag) (B : Hp) : V → D → Prop
  | non : Rep K B .non .non
  | bl (b : Bool) : Rep K B (.bl b) (.bl b)
  | int (i : Int) : Rep K B (.int i) (.int i)
  | str (x : Str) : Rep K B (.str x) (.str x)
  | lst {a : Addr} {vs : List V} {ds : List D} : SqL K B a vs → RepAll K B vs ds → Rep K B (.ref a) (.lst ds)
  | tup {a : Addr} {vs : List V} {ds : List D} : SqT K B a vs → RepAll K B vs ds → Rep K B (.ref a) (.tup ds)
  | raw (v : V) : Rep K B v (.raw v)
  | ins {a C dx : Addr} {vs : List (Str × V)} {fs : List (Str × D)} : B a = some (.ins C dx vs) → RepFs K B vs fs → Rep K B (.ref a) (.ins C fs)
inductive RepAll (K : PySem.W.Frag) (B : Hp) : List V → List D → Prop
  | nil : RepAll K B [] []
  | cons {v : V} {vs : List V} {d : D} {ds : List D} : Rep K B v d → RepAll K B vs ds → RepAll K B (v :: vs) (d :: ds)
inductive RepFs (K : PySem.W.Frag) (B : Hp) : List (Str × V) → List (Str × D) → Prop
  | nil : RepFs K B [] []
  | cons {f : Str} {v : V} {vs : List (Str × V)} {d : D} {ds : List (Str × D)} : Rep K B v d → RepFs K B vs ds → RepFs K B ((f, v) :: vs) ((f, d) :: ds)
end

section
variable {K : PySem.W.Frag} {B B' : Hp}
mutual
theorem Rep.mono (e : Ex B B') : ∀ {v : V} {d : D}, Rep K B v d → Rep K B' v d
  | _, _, .non => .non
  | _, _, .bl b => .bl b
  | _, _, .int i => .int i
  | _, _, .str x => .str x
  | _, _, .lst h r => .lst (e.sqL h) (RepAll.mono e r)
  | _, _, .tup h r => .tup (e.sqT h) (RepAll.mono e r)
  | _, _, .raw v => .raw v
  | _, _, .ins h r => .ins (e _ _ h) (RepFs.mono e r)
theorem RepAll.mono (e : Ex B B') : ∀ {vs : List V} {ds : List D}, RepAll K B vs ds → RepAll K B' vs ds
  | _, _, .nil => .nil
  | _, _, .cons h r => .cons (Rep.mono e h) (RepAll.mono e r)
theorem RepFs.mono (e : Ex B B') : ∀ {vs : List (Str × V)} {ds : List (Str × D)}, RepFs K B vs ds → RepFs K B' vs ds
  | _, _, .nil => .nil
  | _, _, .cons h r => .cons (Rep.mono e h) (RepFs.mono e r)
end

theorem RepAll.len : ∀ {vs : List V} {ds : List D}, RepAll K B vs ds → vs.length = ds.length
  | _, _, .nil => rfl
  | _, _, .cons _ r => congrArg (· + 1) r.len
theorem RepAll.get : ∀ {vs : List V} {ds : List D} {i : Nat} {d : D}, RepAll K B vs ds → ds[i]? = some d → ∃ v, vs[i]? = some v ∧ Rep K B v d
  | _, _, _, _, .nil, e => by simp at e
  | _, _, 0, _, .cons h _, e => by simp at e; subst e; exact ⟨_, rfl, h⟩
  | _, _, i + 1, d, .cons _ r, e => by
    obtain ⟨v, h1, h2⟩ := RepAll.get (i := i) (d := d) r (by simpa using e)
    exact ⟨v, by simpa using h1, h2⟩
theorem RepAll.getV : ∀ {vs : List V} {ds : List D} {i : Nat} {v : V}, RepAll K B vs ds → vs[i]? = some v → ∃ d, ds[i]? = some d ∧ Rep K B v d
  | _, _, _, _, .nil, e => by simp at e
  | _, _, 0, _, .cons h _, e => by simp at e; subst e; exact ⟨_, rfl, h⟩
  | _, _, i + 1, d, .cons _ r, e => by
    obtain ⟨v, h1, h2⟩ := RepAll.getV (i := i) (v := d) r (by simpa using e)
    exact ⟨v, by simpa using h1, h2⟩
theorem RepAll.app : ∀ {vs ws : List V} {ds es : List D}, RepAll K B vs ds → RepAll K B ws es → RepAll K B (vs ++ ws) (ds ++ es)
  | _, _, _, _, .nil, s => s
  | _, _, _, _, .cons h r, s => .cons h (r.app s)
theorem RepAll.set {v : V} {d : D} (h : Rep K B v d) : ∀ {vs : List V} {ds : List D} (i : Nat), RepAll K B vs ds → RepAll K B (vs.set i v) (ds.set i d)
  | _, _, _, .nil => .nil
  | _, _, 0, .cons _ r => .cons h r
  | _, _, i + 1, .cons q r => .cons q (RepAll.set h i r)
theorem RepAll.take : ∀ {vs : List V} {ds : List D} (n : Nat), RepAll K B vs ds → RepAll K B (vs.take n) (ds.take n)
  | _, _, 0, _ => .nil
  | _, _, _ + 1, .nil => .nil
  | _, _, n + 1, .cons h r => .cons h (r.take n)
theorem RepAll.drop : ∀ {vs : List V} {ds : List D} (n : Nat), RepAll K B vs ds → RepAll K B (vs.drop n) (ds.drop n)
  | _, _, 0, r => r
  | _, _, _ + 1, .nil => .nil
  | _, _, n + 1, .cons _ r => r.drop n
theorem RepAll.ints : ∀ (ns : List Int), RepAll K B (ns.map V.int) (ns.map D.int)
  | [] => .nil
  | n :: ns => .cons (.int n) (RepAll.ints ns)
theorem RepAll.ints_inv : ∀ {vs : List V} {ns : List Int}, RepAll K B vs (ns.map D.int) → vs = ns.map V.int
  | _, [], .nil => rfl
  | _, n :: ns, .cons h r => by
    cases h
    rw [RepAll.ints_inv r]; rfl
theorem RepFs.look : ∀ {vs : List (Str × V)} {fs : List (Str × D)} {f : Str} {d : D}, RepFs K B vs fs → fs.lookup f = some d → ∃ v, vs.lookup f = some v ∧ Rep K B v d
  | _, _, _, _, .nil, e => by simp at e
  | (g, v) :: vs, (_, d') :: fs, f, d, .cons h r, e => by
    rw [List.lookup_cons] at e ⊢
    cases q : f == g with
    | true => rw [q] at e; simp at e; subst e; exact ⟨_, rfl, h⟩
    | false => rw [q] at e; exact RepFs.look r e
theorem RepFs.lookN : ∀ {vs : List (Str × V)} {fs : List (Str × D)} {f : Str}, RepFs K B vs fs → fs.lookup f = none → vs.lookup f = none
  | _, _, _, .nil, e => rfl
  | (g, v) :: vs, (_, d') :: fs, f, .cons h r, e => by
    rw [List.lookup_cons] at e ⊢
    cases q : f == g with
    | true => rw [q] at e; simp at e
    | false => rw [q] at e; exact RepFs.lookN r e
end

/-! ### data that can be compared -/
mutual
def D.py : D → PyData
  | .non => .none
  | .bl b => .bool b
  | .int i => .int i
  | .str s => .str s
  | .lst xs => .list (pyAll xs)
  | .tup xs => .tuple (pyAll xs)
  | .raw _ => .none
  | .ins _ _ => .none
def pyAll : List D → List PyData
  | [] => []
  | d :: ds => d.py :: pyAll ds
end
mutual
def D.plain : D → Bool
  | .raw _ => false
  | .ins _ _ => false
  | .lst xs => plainAll xs
  | .tup xs => plainAll xs
  | _ => true
def plainAll : List D → Bool
  | [] => true
  | d :: ds => d.plain && plainAll ds
end
section
variable {K : PySem.W.Frag} {B : Hp}
mutual
theorem Rep.dp : ∀ {v : V} {d : D}, Rep K B v d → d.plain = true → Dp K B v d.py
  | _, _, .non, _ => .non
  | _, _, .bl b, _ => .bl b
  | _, _, .int i, _ => .int i
  | _, _, .str x, _ => .str x
  | _, _, .lst h r, p => .lst h (RepAll.dp r p)
  | _, _, .tup h r, p => .tup h (RepAll.dp r p)
  | _, _, .raw v, p => by cases p
  | _, _, .ins h r, p => by cases p
theorem RepAll.dp : ∀ {vs : List V} {ds : List D}, RepAll K B vs ds → plainAll ds = true → DpAll K B vs (pyAll ds)
  | _, _, .nil, _ => .nil
  | _, _, .cons h r, p => by
    have p' : (_ && _) = true := p
    rw [Bool.and_eq_true] at p'
    exact .cons (Rep.dp h p'.1) (RepAll.dp r p'.2)
end
end
section
variable {K : PySem.W.Frag} {H H' : Hp}
mutual
theorem dp_mono (e : Ex H H') : ∀ {v : V} {d : PyData}, Dp K H v d → Dp K H' v d
  | _, _, .non => .non
  | _, _, .bl b => .bl b
  | _, _, .int i => .int i
  | _, _, .str x => .str x
  | _, _, .lst h r => .lst (e.sqL h) (dpAll_mono e r)
  | _, _, .tup h r => .tup (e.sqT h) (dpAll_mono e r)
theorem dpAll_mono (e : Ex H H') : ∀ {vs : List V} {ds : List PyData}, DpAll K H vs ds → DpAll K H' vs ds
  | _, _, .nil => .nil
  | _, _, .cons h r => .cons (dp_mono e h) (dpAll_mono e r)
end
end

/-! ### the context of a running def: its entry, and a mutable thing that it may change -/
structure G where
  B0 : Hp
  H0 : Hp
  M : Addr → Prop
  Z : Type
  zp : Z → Hp → Hp → Prop
  hd : Nat → V
  zfr : ∀ z B H B' H', zp z B H → Ex B B' → (∀ a, M a → H' a = H a) → (∀ a, M a → B' a = none) → zp z B' H'
  znb : ∀ z B H, zp z B H → ∀ a, M a → B a = none ∧ H a ≠ none
  m0 : ∀ a, M a → H0 a ≠ none

inductive Sl where
  | no | dat (d : D) | own (ds : List D) | hdl (k : Nat)
abbrev En := List Sl

structure Wf (Γ : G) (z : Γ.Z) (B H : Hp) : Prop where
  sub : Ex B H
  eB : Ex Γ.B0 B
  eH : ∀ a o, ¬ Γ.M a → Γ.H0 a = some o → H a = some o
  eM : ∀ a, Γ.H0 a ≠ none → H a ≠ none
  fr : ∀ a, Γ.H0 a ≠ none → B a = Γ.B0 a
  z : Γ.zp z B H

def SlOk (K : PySem.W.Frag) (Γ : G) (B H : Hp) : Sl → Option V → Prop
  | .no, _ => True
  | .dat d, x => ∃ v, x = some v ∧ Rep K B v d
  | .own ds, x => ∃ a vs, x = some (.ref a) ∧ Γ.H0 a = none ∧ B a = none ∧ H a = some (.lst vs) ∧ RepAll K B vs ds
  | .hdl k, x => x = some (Γ.hd k)

structure Sat (K : PySem.W.Frag) (Γ : G) (ρ : En) (z : Γ.Z) (σ : L2.St) (B H : Hp) : Prop where
  wf : Wf Γ z B H
  len : σ.length = ρ.length
  sl : ∀ (i : Nat) (s : Sl), ρ[i]? = some s → ∃ x, σ[i]? = some x ∧ SlOk K Γ B H s x
  dist : ∀ (i j : Nat) (ds es : List D) (a : Addr), i ≠ j → ρ[i]? = some (.own ds) → ρ[j]? = some (.own es) → σ[i]? = some (some (.ref a)) → σ[j]? ≠ some (some (.ref a))

/-- a step that changes nothing that stood -/
structure Stp (B H B' H' : Hp) : Prop where
  eB : Ex B B'
  eH : Ex H H'
  sub : Ex B' H'
  fr : ∀ a, H a ≠ none → B' a = B a
theorem Stp.refl {B H : Hp} (e : Ex B H) : Stp B H B H := ⟨Ex.refl _, Ex.refl _, e, fun _ _ => rfl⟩
theorem some_ne {H : Hp} {a : Addr} {o : HO} (h : H a = some o) : H a ≠ none := fun e => by rw [h] at e; cases e
theorem Ex.ne {H H' : Hp} (e : Ex H H') {a : Addr} (h : H a ≠ none) : H' a ≠ none := by
  cases q : H a with
  | none => exact absurd q h
  | some o => exact some_ne (e a o q)
theorem Stp.trans {B H B1 H1 B2 H2 : Hp} (a : Stp B H B1 H1) (b : Stp B1 H1 B2 H2) : Stp B H B2 H2 :=
  ⟨a.eB.trans b.eB, a.eH.trans b.eH, b.sub, fun x h => (b.fr x (a.eH.ne h)).trans (a.fr x h)⟩
theorem Stp.new {B H : Hp} (e : Ex B H) {p : Addr} {o : HO} (hp : H p = none) : Stp B H (upd B p o) (upd H p o) := by
  have hb : B p = none := by
    cases q : B p with
    | none => rfl
    | some u => rw [e p u q] at hp; cases hp
  refine ⟨Ex.new hb, Ex.new hp, fun a u h => ?_, fun a h => ?_⟩
  · by_cases ha : a = p
    · subst ha; rw [upd_same] at h ⊢; exact h
    · rw [upd_ne ha] at h ⊢; exact e a u h
  · have ha : a ≠ p := fun q => h (q ▸ hp)
    exact upd_ne ha
/-- a new object that is not taken for data -/
theorem Stp.newO {B H : Hp} (e : Ex B H) {p : Addr} {o : HO} (hp : H p = none) : Stp B H B (upd H p o) :=
  ⟨Ex.refl _, Ex.new hp, e.trans (Ex.new hp), fun _ _ => rfl⟩

section
variable {K : PySem.W.Frag} {Γ : G} {ρ : En} {z : Γ.Z} {σ : L2.St} {B H B' H' : Hp}
theorem Wf.step (w : Wf Γ z B H) (s : Stp B H B' H') : Wf Γ z B' H' where
  sub := s.sub
  eB := w.eB.trans s.eB
  eH := fun a o hm h => s.eH a o (w.eH a o hm h)
  eM := fun a h => s.eH.ne (w.eM a h)
  fr := fun a h => (s.fr a (w.eM a h)).trans (w.fr a h)
  z := Γ.zfr _ _ _ _ _ w.z s.eB (fun a hm => by
      have h2 := (Γ.znb _ _ _ w.z a hm).2
      cases q : H a with
      | none => exact absurd q h2
      | some o => exact s.eH a o q) (fun a hm => by
      obtain ⟨h1, h2⟩ := Γ.znb _ _ _ w.z a hm
      rw [s.fr a h2]; exact h1)
theorem SlOk.step {s : Sl} {x : Option V} (t : Stp B H B' H') (h : SlOk K Γ B H s x) : SlOk K Γ B' H' s x := by
  cases s with
  | no => trivial
  | dat d => obtain ⟨v, e, r⟩ := h; exact ⟨v, e, r.mono t.eB⟩
  | own ds =>
    obtain ⟨a, vs, e, h0, hb, hh, r⟩ := h
    exact ⟨a, vs, e, h0, (t.fr a (some_ne hh)).trans hb, t.eH a _ hh, r.mono t.eB⟩
  | hdl k => exact h
theorem Sat.step (s : Sat K Γ ρ z σ B H) (t : Stp B H B' H') : Sat K Γ ρ z σ B' H' :=
  ⟨s.wf.step t, s.len, fun i x h => let ⟨y, e, k⟩ := s.sl i x h; ⟨y, e, k.step t⟩, s.dist⟩
theorem Sat.dat {i : Nat} {d : D} (s : Sat K Γ ρ z σ B H) (h : ρ[i]? = some (.dat d)) : ∃ v, σ[i]? = some (some v) ∧ Rep K B v d := by
  obtain ⟨x, e, v, rfl, r⟩ := s.sl i _ h
  exact ⟨v, e, r⟩
theorem Sat.own {i : Nat} {ds : List D} (s : Sat K Γ ρ z σ B H) (h : ρ[i]? = some (.own ds)) : ∃ a vs, σ[i]? = some (some (.ref a)) ∧ Γ.H0 a = none ∧ B a = none ∧ H a = some (.lst vs) ∧ RepAll K B vs ds := by
  obtain ⟨x, e, a, vs, rfl, r⟩ := s.sl i _ h
  exact ⟨a, vs, e, r⟩
theorem Sat.hdl {i : Nat} {k : Nat} (s : Sat K Γ ρ z σ B H) (h : ρ[i]? = some (.hdl k)) : σ[i]? = some (some (Γ.hd k)) := by
  obtain ⟨x, e, h⟩ := s.sl i _ h
  have h : x = some (Γ.hd k) := h
  rw [e, h]
theorem lt_of_get? {α : Type} {l : List α} {i : Nat} {x : α} (h : l[i]? = some x) : i < l.length := (List.getElem?_eq_some_iff.mp h).1
/-- a slot takes a value -/
theorem Sat.setDat (s : Sat K Γ ρ z σ B H) (i : Nat) {v : V} {d : D} (r : Rep K B v d) : Sat K Γ (ρ.set i (.dat d)) z (σ.set i (some v)) B H := by
  refine ⟨s.wf, by simp [s.len], fun j x h => ?_, fun j k ds es a hjk hj hk => ?_⟩
  · by_cases hij : i = j
    · subst hij
      have hi : i < ρ.length := by have := lt_of_get? h; simpa using this
      rw [List.getElem?_set_self hi] at h
      cases h
      exact ⟨some v, List.getElem?_set_self (by rw [s.len]; exact hi), v, rfl, r⟩
    · rw [List.getElem?_set_ne hij] at h ⊢
      exact s.sl j x h
  · have ne : ∀ {j : Nat} {ds : List D}, (ρ.set i (.dat d))[j]? = some (.own ds) → i ≠ j := fun {j ds} h e => by
      subst e
      have hi : i < ρ.length := by have := lt_of_get? h; simpa using this
      rw [List.getElem?_set_self hi] at h
      cases h
    have h1 := ne hj
    have h2 := ne hk
    rw [List.getElem?_set_ne h1] at hj ⊢
    rw [List.getElem?_set_ne h2] at hk ⊢
    exact s.dist j k ds es a hjk hj hk
/-- a slot takes a new list -/
theorem Sat.setOwn (s : Sat K Γ ρ z σ B H) (i : Nat) {p : Addr} {vs : List V} {ds : List D} (h0 : Γ.H0 p = none) (hb : B p = none) (hp : H p = some (.lst vs)) (r : RepAll K B vs ds)
    (nd : ∀ (j : Nat) (es : List D), ρ[j]? = some (.own es) → σ[j]? ≠ some (some (.ref p))) : Sat K Γ (ρ.set i (.own ds)) z (σ.set i (some (.ref p))) B H := by
  refine ⟨s.wf, by simp [s.len], fun j x h => ?_, fun j k fs es a hjk hj hk => ?_⟩
  · by_cases hij : i = j
    · subst hij
      have hi : i < ρ.length := by have := lt_of_get? h; simpa using this
      rw [List.getElem?_set_self hi] at h
      cases h
      exact ⟨some (.ref p), List.getElem?_set_self (by rw [s.len]; exact hi), p, vs, rfl, h0, hb, hp, r⟩
    · rw [List.getElem?_set_ne hij] at h ⊢
      exact s.sl j x h
  · by_cases h1 : i = j
    · subst h1
      by_cases h2 : i = k
      · exact absurd h2 hjk
      · have hi : i < ρ.length := by have := lt_of_get? hj; simpa using this
        rw [List.getElem?_set_self (by rw [s.len]; exact hi), List.getElem?_set_ne h2]
        rw [List.getElem?_set_ne h2] at hk
        intro e
        cases e
        exact nd k es hk
    · rw [List.getElem?_set_ne h1] at hj ⊢
      by_cases h2 : i = k
      · subst h2
        have hi : i < ρ.length := by have := lt_of_get? hk; simpa using this
        rw [List.getElem?_set_self (by rw [s.len]; exact hi)]
        intro e q
        cases q
        exact nd j fs hj e
      · rw [List.getElem?_set_ne h2] at hk ⊢
        exact s.dist j k fs es a hjk hj hk
/-- a list of one's own changes -/
theorem Sat.mutOwn (s : Sat K Γ ρ z σ B H) {i : Nat} {a : Addr} {ds es : List D} {ws : List V} (hi : ρ[i]? = some (.own ds)) (ha : σ[i]? = some (some (.ref a))) (r : RepAll K B ws es) :
    Sat K Γ (ρ.set i (.own es)) z σ B (upd H a (.lst ws)) := by
  obtain ⟨a', vs, e, h0, hb, hh, r0⟩ := s.own hi
  rw [ha] at e
  cases e
  have hm : ¬ Γ.M a := fun m => Γ.m0 a m h0
  have hl := lt_of_get? hi
  have wf : Wf Γ z B (upd H a (.lst ws)) := by
    refine ⟨fun b o h => ?_, s.wf.eB, fun b o m h => ?_, fun b h => ?_, s.wf.fr, Γ.zfr _ _ _ _ _ s.wf.z (Ex.refl _) (fun b m => ?_) (fun b m => (Γ.znb _ _ _ s.wf.z b m).1)⟩
    · rw [upd_ne (fun q => by rw [q, hb] at h; cases h)]
      exact s.wf.sub b o h
    · rw [upd_ne (fun q => by rw [q, h0] at h; cases h)]
      exact s.wf.eH b o m h
    · rw [upd_ne (fun q => h (by rw [q]; exact h0))]
      exact s.wf.eM b h
    · exact upd_ne (fun q : b = a => hm (by rw [← q]; exact m))
  refine ⟨wf, by simp [s.len], fun j x h => ?_, fun j k fs gs b hjk hj hk => ?_⟩
  · by_cases hij : i = j
    · subst hij
      rw [List.getElem?_set_self hl] at h
      cases h
      exact ⟨some (.ref a), ha, a, ws, rfl, h0, hb, upd_same, r⟩
    · rw [List.getElem?_set_ne hij] at h
      obtain ⟨y, e, k⟩ := s.sl j x h
      refine ⟨y, e, ?_⟩
      cases x with
      | no => trivial
      | dat d => exact k
      | hdl n => exact k
      | own fs =>
        obtain ⟨b, us, rfl, g0, gb, gh, gr⟩ := k
        refine ⟨b, us, rfl, g0, gb, ?_, gr⟩
        rw [upd_ne]
        · exact gh
        · intro q
          subst q
          exact s.dist i j ds fs b hij hi h ha e
  · have back : ∀ {j : Nat} {fs : List D}, (ρ.set i (.own es))[j]? = some (.own fs) → ∃ fs', ρ[j]? = some (.own fs') := fun {j fs} h => by
      by_cases hij : i = j
      · subst hij; exact ⟨_, hi⟩
      · rw [List.getElem?_set_ne hij] at h; exact ⟨_, h⟩
    obtain ⟨f1, q1⟩ := back hj
    obtain ⟨f2, q2⟩ := back hk
    exact s.dist j k f1 f2 b hjk q1 q2
/-- a list of one's own becomes data -/
theorem Sat.freeze (s : Sat K Γ ρ z σ B H) {i : Nat} {ds : List D} (hi : ρ[i]? = some (.own ds)) : ∃ B', Ex B B' ∧ Sat K Γ (ρ.set i (.dat (.lst ds))) z σ B' H := by
  obtain ⟨a, vs, e, h0, hb, hh, r⟩ := s.own hi
  have hl := lt_of_get? hi
  have hm : ¬ Γ.M a := fun m => Γ.m0 a m h0
  have eb : Ex B (upd B a (.lst vs)) := Ex.new hb
  refine ⟨upd B a (.lst vs), eb, ⟨fun b o h => ?_, s.wf.eB.trans eb, s.wf.eH, s.wf.eM, fun b h => ?_, Γ.zfr _ _ _ _ _ s.wf.z eb (fun _ _ => rfl) (fun b m => ?_)⟩, by simp [s.len], fun j x h => ?_, fun j k fs gs b hjk hj hk => ?_⟩
  · by_cases q : b = a
    · subst q; rw [upd_same] at h; rw [← h]; exact hh
    · rw [upd_ne q] at h; exact s.wf.sub b o h
  · rw [upd_ne (fun q => h (by rw [q]; exact h0))]
    exact s.wf.fr b h
  · rw [upd_ne (fun q : b = a => hm (by rw [← q]; exact m))]
    exact (Γ.znb _ _ _ s.wf.z b m).1
  · by_cases hij : i = j
    · subst hij
      rw [List.getElem?_set_self hl] at h
      cases h
      exact ⟨_, e, _, rfl, .lst (.of upd_same) (r.mono eb)⟩
    · rw [List.getElem?_set_ne hij] at h
      obtain ⟨y, e', k⟩ := s.sl j x h
      refine ⟨y, e', ?_⟩
      cases x with
      | no => trivial
      | hdl n => exact k
      | dat d => obtain ⟨v, q, r'⟩ := k; exact ⟨v, q, r'.mono eb⟩
      | own fs =>
        obtain ⟨b, us, rfl, g0, gb, gh, gr⟩ := k
        refine ⟨b, us, rfl, g0, ?_, gh, gr.mono eb⟩
        rw [upd_ne]
        · exact gb
        · intro q
          subst q
          exact s.dist i j ds fs b hij hi h e e'
  · have back : ∀ {j : Nat} {fs : List D}, (ρ.set i (.dat (.lst ds)))[j]? = some (.own fs) → ρ[j]? = some (.own fs) := fun {j fs} h => by
      by_cases hij : i = j
      · subst hij
        rw [List.getElem?_set_self hl] at h
        cases h
      · rw [List.getElem?_set_ne hij] at h; exact h
    exact s.dist j k fs gs b hjk (back hj) (back hk)
/-- forgetting -/
theorem Sat.weak {ρ' : En} {σ' : L2.St} (s : Sat K Γ ρ z σ B H) (hl : σ'.length = ρ'.length) (w : ∀ (i : Nat) (x : Sl), ρ'[i]? = some x → x = .no ∨ (ρ[i]? = some x ∧ σ'[i]? = σ[i]?)) : Sat K Γ ρ' z σ' B H := by
  refine ⟨s.wf, hl, fun i x h => ?_, fun i j ds es a hij hi hj => ?_⟩
  · rcases w i x h with rfl | ⟨q, e⟩
    · have := lt_of_get? h
      exact ⟨σ'[i]'(by omega), List.getElem?_eq_getElem (by omega), trivial⟩
    · rw [e]; exact s.sl i x q
  · rcases w i _ hi with q | ⟨q1, e1⟩
    · cases q
    · rcases w j _ hj with q | ⟨q2, e2⟩
      · cases q
      · rw [e1, e2]
        exact s.dist i j ds es a hij q1 q2
end
end DL

namespace DL
open PySem PySem.Spec PyProof.Rows L2

/-- a step that may change the things at M -/
structure StpM (M : Addr → Prop) (B H B' H' : Hp) : Prop where
  eB : Ex B B'
  eH : ∀ a o, ¬ M a → H a = some o → H' a = some o
  eM : ∀ a, H a ≠ none → H' a ≠ none
  sub : Ex B' H'
  fr : ∀ a, H a ≠ none → B' a = B a
theorem StpM.of {M : Addr → Prop} {B H B' H' : Hp} (s : Stp B H B' H') : StpM M B H B' H' := ⟨s.eB, fun a o _ h => s.eH a o h, fun a h => s.eH.ne h, s.sub, s.fr⟩
theorem StpM.refl {M : Addr → Prop} {B H : Hp} (e : Ex B H) : StpM M B H B H := .of (.refl e)
theorem StpM.trans {M : Addr → Prop} {B H B1 H1 B2 H2 : Hp} (a : StpM M B H B1 H1) (b : StpM M B1 H1 B2 H2) : StpM M B H B2 H2 :=
  ⟨a.eB.trans b.eB, fun x o m h => b.eH x o m (a.eH x o m h), fun x h => b.eM x (a.eM x h), b.sub, fun x h => (b.fr x (a.eM x h)).trans (a.fr x h)⟩
section
variable {K : PySem.W.Frag} {Γ : G} {ρ : En} {z z' : Γ.Z} {σ : L2.St} {B H B' H' : Hp}
theorem Wf.stepM (w : Wf Γ z B H) (s : StpM Γ.M B H B' H') (hz : Γ.zp z' B' H') : Wf Γ z' B' H' where
  sub := s.sub
  eB := w.eB.trans s.eB
  eH := fun a o hm h => s.eH a o hm (w.eH a o hm h)
  eM := fun a h => s.eM a (w.eM a h)
  fr := fun a h => (s.fr a (w.eM a h)).trans (w.fr a h)
  z := hz
theorem Sat.stepM (s : Sat K Γ ρ z σ B H) (t : StpM Γ.M B H B' H') (hz : Γ.zp z' B' H') : Sat K Γ ρ z' σ B' H' := by
  refine ⟨s.wf.stepM t hz, s.len, fun i x h => ?_, s.dist⟩
  obtain ⟨y, e, k⟩ := s.sl i x h
  refine ⟨y, e, ?_⟩
  cases x with
  | no => trivial
  | dat d => obtain ⟨v, e, r⟩ := k; exact ⟨v, e, r.mono t.eB⟩
  | own ds =>
    obtain ⟨a, vs, e, h0, hb, hh, r⟩ := k
    exact ⟨a, vs, e, h0, (t.fr a (some_ne hh)).trans hb, t.eH a _ (fun m => Γ.m0 a m h0) hh, r.mono t.eB⟩
  | hdl k' => exact k
theorem Sat.zp (s : Sat K Γ ρ z σ B H) (t : Stp B H B' H') : Γ.zp z B' H' := (s.step t).wf.z
end

/-! ### what holds of the context of a def's body, of a comprehension's block -/
structure Cxt (X : Cx) (N : List Str) (sc : Scope) (P : Program) (w : World) (K : PySem.W.Frag) (mg : Str → Option Value) (base : Heap) (k : Nat) : Prop where
  hP : X.prog = P
  hw : X.w = w
  hK : X.K = K
  hmg : X.mg = mg
  hb : X.base = base
  hN : X.N = N
  hsc : X.env.scope = sc
  calm : X.calm = true
  nd : N.Nodup
  pass : PassesOwn (model X.prog X.w) X.A X.env X.xe
  room : Room k X.A

def semE (X : Cx) (e : Expr) : TE := fun σ H Q => ∀ pins s, Inv X pins σ H s → wpAny (model X.prog X.w) X.A (eval e X.env) (EP X pins σ Q) X.xe s
def semT (X : Cx) (e : Expr) : TT := fun σ H Q => ∀ pins s, Inv X pins σ H s → wpAny (model X.prog X.w) X.A (isTrue e X.env (eval e X.env)) (TP X pins σ Q) X.xe s
def semW (X : Cx) (e : Expr) : TT := fun σ H Q => ∀ whole pins s, Inv X pins σ H s → wpAny (model X.prog X.w) X.A (isTrue e X.env whole) (TP X pins σ Q) X.xe s
def semA (X : Cx) (es : List Expr) : TA := fun σ H Q => ∀ pos pins s, Inv X pins σ H s → wpAny (model X.prog X.w) X.A (spliced (backTo pos (starEach es X.env))) (AP X pins σ Q) X.xe s
def semS (X : Cx) (st : Stmt) : TS := fun D σ H => ∀ pins s, Inv X pins σ H s → wpAny (model X.prog X.w) X.A (exec st X.env) (SP X pins D) X.xe s
def semSs (X : Cx) (st : List Stmt) : TS := fun D σ H => ∀ pins s, Inv X pins σ H s → wpAny (model X.prog X.w) X.A (execs st X.env) (SP X pins D) X.xe s
section
variable {X : Cx} {e : Expr} {es : List Expr} {st : Stmt} {sts : List Stmt} {σ : L2.St} {H : Hp}
theorem peS : PE X e (semE X e) := ⟨fun pins s σ H Q I h => h pins s I⟩
theorem ptS : PT X e (semT X e) := ⟨fun pins s σ H Q I h => h pins s I⟩
theorem pwS : PW X e (semW X e) := ⟨fun wh pins s σ H Q I h => h wh pins s I⟩
theorem paS : PA X es (semA X es) := ⟨fun pos pins s σ H Q I h => h pos pins s I⟩
theorem psS : PS X st (semS X st) := ⟨fun pins s σ H D I h => h pins s I⟩
theorem pssS : PSs X sts (semSs X sts) := ⟨fun pins s σ H D I h => h pins s I⟩
theorem eOf {t : TE} {Q : VK} (h : PE X e t) (q : t σ H Q) : semE X e σ H Q := fun pins s I => h.run pins s σ H Q I q
theorem tOf {t : TT} {Q : Bool → Hp → Prop} (h : PT X e t) (q : t σ H Q) : semT X e σ H Q := fun pins s I => h.run pins s σ H Q I q
theorem wOf {t : TT} {Q : Bool → Hp → Prop} (h : PW X e t) (q : t σ H Q) : semW X e σ H Q := fun wh pins s I => h.run wh pins s σ H Q I q
theorem aOf {t : TA} {Q : List V → Hp → Prop} (h : PA X es t) (q : t σ H Q) : semA X es σ H Q := fun pos pins s I => h.run pos pins s σ H Q I q
theorem sOf {t : TS} {D : Ends} (h : PS X st t) (q : t D σ H) : semS X st D σ H := fun pins s I => h.run pins s σ H D I q
theorem ssOf {t : TS} {D : Ends} (h : PSs X sts t) (q : t D σ H) : semSs X sts D σ H := fun pins s I => h.run pins s σ H D I q
theorem wt {Q : Bool → Hp → Prop} (h : semW X e σ H Q) : semT X e σ H Q := h _
end

theorem small {ds : List D} (h : ds.length ≤ 1000) : ds.length ≤ sizeLine := Nat.le_of_lt (small1000 h)
/-! ### the judgements -/
section
variable (X : Cx) (Γ : G)
/-- e evaluates to the data d -/
def XE (e : Expr) (ρ : En) (z : Γ.Z) (d : D) (z' : Γ.Z) : Prop := ∀ (σ : L2.St) (B H : Hp) (Q : VK), Sat X.K Γ ρ z σ B H →
  (∀ v B' H', StpM Γ.M B H B' H' → Γ.zp z' B' H' → Rep X.K B' v d → Q v H') → semE X e σ H Q
/-- .. to a new list -/
def XL (e : Expr) (ρ : En) (z : Γ.Z) (ds : List D) (z' : Γ.Z) : Prop := ∀ (σ : L2.St) (B H : Hp) (Q : VK), Sat X.K Γ ρ z σ B H →
  (∀ p vs B' H', StpM Γ.M B H B' H' → Γ.zp z' B' H' → H p = none → B' p = none → H' p = some (.lst vs) → RepAll X.K B' vs ds → Q (.ref p) H') → semE X e σ H Q
def XT (e : Expr) (ρ : En) (z : Γ.Z) (b : Bool) (z' : Γ.Z) : Prop := ∀ (σ : L2.St) (B H : Hp) (Q : Bool → Hp → Prop), Sat X.K Γ ρ z σ B H →
  (∀ B' H', StpM Γ.M B H B' H' → Γ.zp z' B' H' → Q b H') → semT X e σ H Q
def XW (e : Expr) (ρ : En) (z : Γ.Z) (b : Bool) (z' : Γ.Z) : Prop := ∀ (σ : L2.St) (B H : Hp) (Q : Bool → Hp → Prop), Sat X.K Γ ρ z σ B H →
  (∀ B' H', StpM Γ.M B H B' H' → Γ.zp z' B' H' → Q b H') → semW X e σ H Q
def XA (es : List Expr) (ρ : En) (z : Γ.Z) (ds : List D) (z' : Γ.Z) : Prop := ∀ (σ : L2.St) (B H : Hp) (Q : List V → Hp → Prop), Sat X.K Γ ρ z σ B H →
  (∀ vs B' H', StpM Γ.M B H B' H' → Γ.zp z' B' H' → RepAll X.K B' vs ds → Q vs H') → semA X es σ H Q
end

section
variable {X : Cx} {Γ : G} {N : List Str} {sc : Scope} {P : Program} {w : World} {K : PySem.W.Frag} {mg : Str → Option Value} {base : Heap} {k : Nat}
variable {e a b c : Expr} {es : List Expr} {ρ : En} {z z1 z2 z3 : Γ.Z} {d d1 d2 d3 : D} {ds ds1 ds2 : List D} {pos : Pos} {i j : Int}

/-! ### names and constants -/
def visC (sc : Scope) (x : Str) : Bool := match sc.names.lookup x with
  | some .local => true | some .cell => true | some .free => true | _ => false
theorem vis_of {sc : Scope} {x : Str} (h : visC sc x = true) : Vis sc x := by
  unfold visC at h
  unfold Vis
  split at h
  · exact .inl (by assumption)
  · exact .inr (.inl (by assumption))
  · exact .inr (.inr (by assumption))
  · cases h
theorem x_var (n : Nat) {x : Str} (C : Cxt X N sc P w K mg base k) (hN : N[n]? = some x) (hv : visC sc x = true) (h : ρ[n]? = some (.dat d))
    (hd : (x == ("__debug__" : Str)) = false := by decide) (hcd : (x == ("__classdict__" : Str)) = false := by decide) : XE X Γ (.Name x pos) ρ z d z := by
  intro σ B H Q S q
  obtain ⟨v, e, r⟩ := S.dat h
  exact eOf (pe_var (i := n) (by rw [C.hN]; exact hN) (by rw [C.hsc]; exact vis_of hv) hd hcd) ⟨v, e, q v B H (.refl S.wf.sub) S.wf.z r⟩
theorem x_hdl (n : Nat) {x : Str} {m : Nat} (C : Cxt X N sc P w K mg base k) (hN : N[n]? = some x) (hv : visC sc x = true) (h : ρ[n]? = some (.hdl m))
    (hd : (x == ("__debug__" : Str)) = false := by decide) (hcd : (x == ("__classdict__" : Str)) = false := by decide) : XE X Γ (.Name x pos) ρ z (.raw (Γ.hd m)) z := by
  intro σ B H Q S q
  exact eOf (pe_var (i := n) (by rw [C.hN]; exact hN) (by rw [C.hsc]; exact vis_of hv) hd hcd) ⟨_, S.hdl h, q _ B H (.refl S.wf.sub) S.wf.z (.raw _)⟩
theorem x_int {n : Nat} : XE X Γ (.Constant (.int i) n pos) ρ z (.int i) z := fun σ B H Q S q => eOf pe_int (q _ B H (.refl S.wf.sub) S.wf.z (.int _))
theorem x_bl {n : Nat} {t : Bool} : XE X Γ (.Constant (.bool t) n pos) ρ z (.bl t) z := fun σ B H Q S q => eOf pe_bl (q _ B H (.refl S.wf.sub) S.wf.z (.bl _))
theorem x_non {n : Nat} : XE X Γ (.Constant .none n pos) ρ z .non z := fun σ B H Q S q => eOf pe_non (q _ B H (.refl S.wf.sub) S.wf.z .non)
theorem x_str {n : Nat} {t : Str} : XE X Γ (.Constant (.str t) n pos) ρ z (.str t) z := fun σ B H Q S q => eOf pe_str (q _ B H (.refl S.wf.sub) S.wf.z (.str _))
theorem x_to {d' : D} (h : XE X Γ e ρ z d z1) (hd : d = d') : XE X Γ e ρ z d' z1 := hd ▸ h

/-! ### two operands -/
theorem x_two {r : R2} (ha : XE X Γ a ρ z d1 z1) (hb : XE X Γ b ρ z1 d2 z2)
    (hr : ∀ x y B H (Q : VK), Ex B H → Rep X.K B x d1 → Rep X.K B y d2 → (∀ v B' H', Stp B H B' H' → Rep X.K B' v d → Q v H') → r x y H Q) :
    ∀ (σ : L2.St) (B H : Hp) (Q : VK), Sat X.K Γ ρ z σ B H → (∀ v B' H', StpM Γ.M B H B' H' → Γ.zp z2 B' H' → Rep X.K B' v d → Q v H') → tOp r (semE X a) (semE X b) σ H Q := by
  intro σ B H Q S q
  refine ha σ B H _ S fun x B1 H1 t1 p1 r1 => ?_
  refine hb σ B1 H1 _ (S.stepM t1 p1) fun y B2 H2 t2 p2 r2 => ?_
  refine hr x y B2 H2 Q t2.sub (r1.mono t2.eB) r2 fun v B3 H3 t3 r3 => q v B3 H3 ((t1.trans t2).trans (.of t3)) ?_ r3
  exact (((S.stepM t1 p1).stepM t2 p2).step t3).wf.z
theorem x_op {op : Operator} {r : R2} (ho : OpR X (binaryOp op) r) (ha : XE X Γ a ρ z d1 z1) (hb : XE X Γ b ρ z1 d2 z2)
    (hr : ∀ x y B H (Q : VK), Ex B H → Rep X.K B x d1 → Rep X.K B y d2 → (∀ v B' H', Stp B H B' H' → Rep X.K B' v d → Q v H') → r x y H Q) : XE X Γ (.BinOp a op b pos) ρ z d z2 :=
  fun σ B H Q S q => eOf (pe_op ho peS peS) (x_two ha hb hr σ B H Q S q)
theorem rI0_r {g : Int → Int → V} {u : D} (hg : ∀ B, Rep X.K B (g i j) u) : ∀ x y B H (Q : VK), Ex B H → Rep X.K B x (.int i) → Rep X.K B y (.int j) → (∀ v B' H', Stp B H B' H' → Rep X.K B' v u → Q v H') → rI0 g x y H Q := by
  intro x y B H Q e rx ry q
  cases rx; cases ry
  exact ⟨i, j, rfl, rfl, q _ B H (.refl e) (hg B)⟩
theorem rI_r {C : Int → Int → Prop} {g : Int → Int → V} {u : D} (hc : C i j) (hg : ∀ B, Rep X.K B (g i j) u) : ∀ x y B H (Q : VK), Ex B H → Rep X.K B x (.int i) → Rep X.K B y (.int j) → (∀ v B' H', Stp B H B' H' → Rep X.K B' v u → Q v H') → rI C g x y H Q := by
  intro x y B H Q e rx ry q
  cases rx; cases ry
  exact ⟨i, j, rfl, rfl, hc, q _ B H (.refl e) (hg B)⟩
theorem x_add (ha : XE X Γ a ρ z (.int i) z1) (hb : XE X Γ b ρ z1 (.int j) z2) : XE X Γ (.BinOp a .Add b pos) ρ z (.int (i + j)) z2 := x_op op_add ha hb (rI0_r fun _ => .int _)
theorem x_sub (ha : XE X Γ a ρ z (.int i) z1) (hb : XE X Γ b ρ z1 (.int j) z2) : XE X Γ (.BinOp a .Sub b pos) ρ z (.int (i - j)) z2 := x_op op_sub ha hb (rI0_r fun _ => .int _)
/-- two numbers are small enough to be multiplied -/
theorem x_mul (ha : XE X Γ a ρ z (.int i) z1) (hb : XE X Γ b ρ z1 (.int j) z2) (h : CMulW i j) : XE X Γ (.BinOp a .Mult b pos) ρ z (.int (i * j)) z2 := x_op op_mulW ha hb (rI_r h fun _ => .int _)
theorem x_fdiv (ha : XE X Γ a ρ z (.int i) z1) (hb : XE X Γ b ρ z1 (.int j) z2) (h : CDivW i j) : XE X Γ (.BinOp a .FloorDiv b pos) ρ z (.int (i / j)) z2 := x_op op_fdivW ha hb (rI_r h fun _ => .int _)
theorem x_mod (ha : XE X Γ a ρ z (.int i) z1) (hb : XE X Γ b ρ z1 (.int j) z2) (h : 0 < j) : XE X Γ (.BinOp a .Mod b pos) ρ z (.int (i % j)) z2 := x_op (r := rI (fun _ j => 0 < j) fun i j => .int (i % j)) op_mod ha hb (rI_r h fun _ => .int _)
theorem x_neg (ha : XE X Γ a ρ z (.int i) z1) : XE X Γ (.UnaryOp .USub a pos) ρ z (.int (-i)) z1 := fun σ B H Q S q => by
  refine eOf (pe_un un_neg peS) (ha σ B H _ S fun v B1 H1 t1 p1 r1 => ?_)
  cases r1
  exact ⟨i, rfl, q _ B1 H1 t1 p1 (.int _)⟩

/-! ### comparisons -/
theorem x_cmp {op : CmpOp} {r : R2} (ho : OpR X (compareOp op) r) (hm : behindInMarks op b = false) (ha : XE X Γ a ρ z d1 z1) (hb : XE X Γ b ρ z1 d2 z2)
    (hr : ∀ x y B H (Q : VK), Ex B H → Rep X.K B x d1 → Rep X.K B y d2 → (∀ v B' H', Stp B H B' H' → Rep X.K B' v d → Q v H') → r x y H Q) : XE X Γ (.Compare a [op] [b] pos) ρ z d z2 :=
  fun σ B H Q S q => eOf (pe_cmpR ho peS peS hm) (x_two ha hb hr σ B H Q S q)
theorem t_cmp {op : CmpOp} {r : R2} {t : Bool} (ho : OpR X (compareOp op) r) (hm : behindInMarks op b = false) (ha : XE X Γ a ρ z d1 z1) (hb : XE X Γ b ρ z1 d2 z2)
    (hr : ∀ x y B H (Q : VK), Ex B H → Rep X.K B x d1 → Rep X.K B y d2 → (∀ v B' H', Stp B H B' H' → Rep X.K B' v (.bl t) → Q v H') → r x y H Q) : XT X Γ (.Compare a [op] [b] pos) ρ z t z2 :=
  fun σ B H Q S q => tOf (pt_cmpR ho peS peS hm) (x_two ha hb hr σ B H _ S fun v B' H' t p r => by cases r; exact ⟨_, rfl, q B' H' t p⟩)
theorem x_lt (ha : XE X Γ a ρ z (.int i) z1) (hb : XE X Γ b ρ z1 (.int j) z2) : XE X Γ (.Compare a [.Lt] [b] pos) ρ z (.bl (decide (i < j))) z2 := x_cmp op_lt (nomark _) ha hb (rI0_r fun _ => .bl _)
theorem x_le (ha : XE X Γ a ρ z (.int i) z1) (hb : XE X Γ b ρ z1 (.int j) z2) : XE X Γ (.Compare a [.LtE] [b] pos) ρ z (.bl (decide (i ≤ j))) z2 := x_cmp op_le (nomark _) ha hb (rI0_r fun _ => .bl _)
theorem x_gt (ha : XE X Γ a ρ z (.int i) z1) (hb : XE X Γ b ρ z1 (.int j) z2) : XE X Γ (.Compare a [.Gt] [b] pos) ρ z (.bl (decide (j < i))) z2 := x_cmp op_gt (nomark _) ha hb (rI0_r fun _ => .bl _)
theorem x_ge (ha : XE X Γ a ρ z (.int i) z1) (hb : XE X Γ b ρ z1 (.int j) z2) : XE X Γ (.Compare a [.GtE] [b] pos) ρ z (.bl (decide (j ≤ i))) z2 := x_cmp op_ge (nomark _) ha hb (rI0_r fun _ => .bl _)
theorem t_lt (ha : XE X Γ a ρ z (.int i) z1) (hb : XE X Γ b ρ z1 (.int j) z2) : XT X Γ (.Compare a [.Lt] [b] pos) ρ z (decide (i < j)) z2 := t_cmp op_lt (nomark _) ha hb (rI0_r fun _ => .bl _)
theorem t_le (ha : XE X Γ a ρ z (.int i) z1) (hb : XE X Γ b ρ z1 (.int j) z2) : XT X Γ (.Compare a [.LtE] [b] pos) ρ z (decide (i ≤ j)) z2 := t_cmp op_le (nomark _) ha hb (rI0_r fun _ => .bl _)
theorem t_gt (ha : XE X Γ a ρ z (.int i) z1) (hb : XE X Γ b ρ z1 (.int j) z2) : XT X Γ (.Compare a [.Gt] [b] pos) ρ z (decide (j < i)) z2 := t_cmp op_gt (nomark _) ha hb (rI0_r fun _ => .bl _)
theorem t_ge (ha : XE X Γ a ρ z (.int i) z1) (hb : XE X Γ b ρ z1 (.int j) z2) : XT X Γ (.Compare a [.GtE] [b] pos) ρ z (decide (j ≤ i)) z2 := t_cmp op_ge (nomark _) ha hb (rI0_r fun _ => .bl _)
/-- == of ints, bools, texts -/
def scalD : D → Option V
  | .int i => some (.int i)
  | .bl b => some (.bl b)
  | .str s => some (.str s)
  | _ => none
theorem rep_scal {B : Hp} {v x : V} {d : D} (r : Rep K B v d) (h : scalD d = some x) : v = x := by
  cases r <;> first | (cases h; rfl) | cases h
theorem rEq_r {u v : V} (h1 : scalD d1 = some u) (h2 : scalD d2 = some v) (hs : scal u v = true) : ∀ x y B H (Q : VK), Ex B H → Rep X.K B x d1 → Rep X.K B y d2 → (∀ v' B' H', Stp B H B' H' → Rep X.K B' v' (.bl (decide (u = v))) → Q v' H') → rEq x y H Q := by
  intro x y B H Q e rx ry q
  rw [rep_scal rx h1, rep_scal ry h2]
  exact ⟨hs, q _ B H (.refl e) (.bl _)⟩
theorem rNe_r {u v : V} (h1 : scalD d1 = some u) (h2 : scalD d2 = some v) (hs : scal u v = true) : ∀ x y B H (Q : VK), Ex B H → Rep X.K B x d1 → Rep X.K B y d2 → (∀ v' B' H', Stp B H B' H' → Rep X.K B' v' (.bl (!decide (u = v))) → Q v' H') → rNe x y H Q := by
  intro x y B H Q e rx ry q
  rw [rep_scal rx h1, rep_scal ry h2]
  exact ⟨hs, q _ B H (.refl e) (.bl _)⟩
theorem decI : decide (V.int i = V.int j) = decide (i = j) := by
  by_cases h : i = j
  · subst h; simp
  · simp [h]
theorem x_eqI (ha : XE X Γ a ρ z (.int i) z1) (hb : XE X Γ b ρ z1 (.int j) z2) : XE X Γ (.Compare a [.Eq] [b] pos) ρ z (.bl (decide (i = j))) z2 := by
  rw [← decI]
  exact x_cmp op_eq (nomark _) ha hb (rEq_r rfl rfl rfl)
theorem x_neI (ha : XE X Γ a ρ z (.int i) z1) (hb : XE X Γ b ρ z1 (.int j) z2) : XE X Γ (.Compare a [.NotEq] [b] pos) ρ z (.bl (!decide (i = j))) z2 := by
  rw [← decI]
  exact x_cmp op_ne (nomark _) ha hb (rNe_r rfl rfl rfl)
theorem t_eqI (ha : XE X Γ a ρ z (.int i) z1) (hb : XE X Γ b ρ z1 (.int j) z2) : XT X Γ (.Compare a [.Eq] [b] pos) ρ z (decide (i = j)) z2 := by
  rw [← decI]
  exact t_cmp op_eq (nomark _) ha hb (rEq_r rfl rfl rfl)
theorem t_neI (ha : XE X Γ a ρ z (.int i) z1) (hb : XE X Γ b ρ z1 (.int j) z2) : XT X Γ (.Compare a [.NotEq] [b] pos) ρ z (!decide (i = j)) z2 := by
  rw [← decI]
  exact t_cmp op_ne (nomark _) ha hb (rNe_r rfl rfl rfl)
/-- == of data of any shape -/
theorem rEqD_r (h1 : d1.plain = true) (h2 : d2.plain = true) (s1 : SeqAt.shaped d1.py = true) (s2 : SeqAt.shaped d2.py = true) : ∀ x y B H (Q : VK), Ex B H → Rep X.K B x d1 → Rep X.K B y d2 → (∀ v' B' H', Stp B H B' H' → Rep X.K B' v' (.bl (PyData.eqv d1.py d2.py)) → Q v' H') → rEqD X.K x y H Q :=
  fun x y B H Q e rx ry q => ⟨_, _, dp_mono e (rx.dp h1), dp_mono e (ry.dp h2), s1, s2, q _ B H (.refl e) (.bl _)⟩
theorem rNeD_r (h1 : d1.plain = true) (h2 : d2.plain = true) (s1 : SeqAt.shaped d1.py = true) (s2 : SeqAt.shaped d2.py = true) : ∀ x y B H (Q : VK), Ex B H → Rep X.K B x d1 → Rep X.K B y d2 → (∀ v' B' H', Stp B H B' H' → Rep X.K B' v' (.bl (!PyData.eqv d1.py d2.py)) → Q v' H') → rNeD X.K x y H Q :=
  fun x y B H Q e rx ry q => ⟨_, _, dp_mono e (rx.dp h1), dp_mono e (ry.dp h2), s1, s2, q _ B H (.refl e) (.bl _)⟩
theorem x_eqD (C : Cxt X N sc P w K mg base k) (ha : XE X Γ a ρ z d1 z1) (hb : XE X Γ b ρ z1 d2 z2) (h1 : d1.plain = true) (h2 : d2.plain = true) (s1 : SeqAt.shaped d1.py = true) (s2 : SeqAt.shaped d2.py = true) :
    XE X Γ (.Compare a [.Eq] [b] pos) ρ z (.bl (PyData.eqv d1.py d2.py)) z2 := x_cmp (op_eqD C.room.units) (nomark _) ha hb (rEqD_r h1 h2 s1 s2)
theorem x_neD (C : Cxt X N sc P w K mg base k) (ha : XE X Γ a ρ z d1 z1) (hb : XE X Γ b ρ z1 d2 z2) (h1 : d1.plain = true) (h2 : d2.plain = true) (s1 : SeqAt.shaped d1.py = true) (s2 : SeqAt.shaped d2.py = true) :
    XE X Γ (.Compare a [.NotEq] [b] pos) ρ z (.bl (!PyData.eqv d1.py d2.py)) z2 := x_cmp (op_neD C.room.units) (nomark _) ha hb (rNeD_r h1 h2 s1 s2)
theorem t_eqD (C : Cxt X N sc P w K mg base k) (ha : XE X Γ a ρ z d1 z1) (hb : XE X Γ b ρ z1 d2 z2) (h1 : d1.plain = true) (h2 : d2.plain = true) (s1 : SeqAt.shaped d1.py = true) (s2 : SeqAt.shaped d2.py = true) :
    XT X Γ (.Compare a [.Eq] [b] pos) ρ z (PyData.eqv d1.py d2.py) z2 := t_cmp (op_eqD C.room.units) (nomark _) ha hb (rEqD_r h1 h2 s1 s2)
theorem t_neD (C : Cxt X N sc P w K mg base k) (ha : XE X Γ a ρ z d1 z1) (hb : XE X Γ b ρ z1 d2 z2) (h1 : d1.plain = true) (h2 : d2.plain = true) (s1 : SeqAt.shaped d1.py = true) (s2 : SeqAt.shaped d2.py = true) :
    XT X Γ (.Compare a [.NotEq] [b] pos) ρ z (!PyData.eqv d1.py d2.py) z2 := t_cmp (op_neD C.room.units) (nomark _) ha hb (rNeD_r h1 h2 s1 s2)
/-- is None -/
def isNon : D → Bool
  | .non => true
  | _ => false
def notRaw : D → Bool
  | .raw _ => false
  | _ => true
theorem rep_non {B : Hp} {v : V} {d : D} (r : Rep K B v d) (h : notRaw d = true) : decide (v = .non) = isNon d := by
  cases r <;> first | rfl | cases h | exact decide_eq_false (fun q => nomatch q)
theorem x_isN {n : Nat} {p2 : Pos} (ha : XE X Γ a ρ z d z1) (h : notRaw d = true) : XE X Γ (.Compare a [.Is] [.Constant .none n p2] pos) ρ z (.bl (isNon d)) z1 :=
  x_cmp (d2 := .non) op_isN (nomark _) ha x_non fun x y B H Q e rx ry q => by
    cases ry
    exact ⟨rfl, by rw [rep_non rx h]; exact q _ B H (.refl e) (.bl _)⟩
theorem x_notN {n : Nat} {p2 : Pos} (ha : XE X Γ a ρ z d z1) (h : notRaw d = true) : XE X Γ (.Compare a [.IsNot] [.Constant .none n p2] pos) ρ z (.bl (!isNon d)) z1 :=
  x_cmp (d2 := .non) op_notN (nomark _) ha x_non fun x y B H Q e rx ry q => by
    cases ry
    exact ⟨rfl, by rw [rep_non rx h]; exact q _ B H (.refl e) (.bl _)⟩
theorem t_isN {n : Nat} {p2 : Pos} (ha : XE X Γ a ρ z d z1) (h : notRaw d = true) : XT X Γ (.Compare a [.Is] [.Constant .none n p2] pos) ρ z (isNon d) z1 :=
  t_cmp (d2 := .non) op_isN (nomark _) ha x_non fun x y B H Q e rx ry q => by
    cases ry
    exact ⟨rfl, by rw [rep_non rx h]; exact q _ B H (.refl e) (.bl _)⟩
theorem t_notN {n : Nat} {p2 : Pos} (ha : XE X Γ a ρ z d z1) (h : notRaw d = true) : XT X Γ (.Compare a [.IsNot] [.Constant .none n p2] pos) ρ z (!isNon d) z1 :=
  t_cmp (d2 := .non) op_notN (nomark _) ha x_non fun x y B H Q e rx ry q => by
    cases ry
    exact ⟨rfl, by rw [rep_non rx h]; exact q _ B H (.refl e) (.bl _)⟩

/-! ### tests -/
variable {s t u : Bool}
theorem t_val (ha : XE X Γ a ρ z (.bl t) z1) (he : ∀ whole, isTrue a X.env whole = (do let v ← whole; standAt a.pos; holding [v] (truthy v)) := by intro _; rfl) : XT X Γ a ρ z t z1 := fun σ B H Q S q =>
  tOf (pt_val peS he) (ha σ B H _ S fun v B' H' t p r => by cases r; exact ⟨_, rfl, q B' H' t p⟩)
theorem t_not (ha : XT X Γ a ρ z t z1) : XT X Γ (.UnaryOp .Not a pos) ρ z (!t) z1 := fun σ B H Q S q => tOf (pt_not ptS) (ha σ B H _ S fun B' H' t p => q B' H' t p)
theorem w_and1 (ha : XT X Γ a ρ z t z1) : XW X Γ (.BoolOp .And [a] pos) ρ z t z1 := fun σ B H Q S q => wOf (pw_and1 ptS) (ha σ B H _ S q)
theorem w_or1 (ha : XT X Γ a ρ z t z1) : XW X Γ (.BoolOp .Or [a] pos) ρ z t z1 := fun σ B H Q S q => wOf (pw_or1 ptS) (ha σ B H _ S q)
/-- and: the second is asked where the first holds (the state stays) -/
theorem w_and (ha : XT X Γ a ρ z t z) (hb : t = true → XW X Γ (.BoolOp .And (b :: es) pos) ρ z u z) : XW X Γ (.BoolOp .And (a :: b :: es) pos) ρ z (t && u) z := fun σ B H Q S q => by
  refine wOf (pw_and ptS pwS) (ha σ B H _ S fun B1 H1 t1 p1 => ?_)
  cases t with
  | true =>
    rw [if_pos rfl]
    exact hb rfl σ B1 H1 _ (S.stepM t1 p1) fun B2 H2 t2 p2 => q B2 H2 (t1.trans t2) p2
  | false =>
    rw [if_neg Bool.false_ne_true]
    exact q B1 H1 t1 p1
theorem w_or (ha : XT X Γ a ρ z t z) (hb : t = false → XW X Γ (.BoolOp .Or (b :: es) pos) ρ z u z) : XW X Γ (.BoolOp .Or (a :: b :: es) pos) ρ z (t || u) z := fun σ B H Q S q => by
  refine wOf (pw_or ptS pwS) (ha σ B H _ S fun B1 H1 t1 p1 => ?_)
  cases t with
  | false =>
    rw [if_neg Bool.false_ne_true]
    exact hb rfl σ B1 H1 _ (S.stepM t1 p1) fun B2 H2 t2 p2 => q B2 H2 (t1.trans t2) p2
  | true =>
    rw [if_pos rfl]
    exact q B1 H1 t1 p1
theorem t_w (h : XW X Γ a ρ z t z1) : XT X Γ a ρ z t z1 := fun σ B H Q S q => wt (h σ B H Q S q)
theorem t_to (h : XT X Γ a ρ z t z1) (e : t = u) : XT X Γ a ρ z u z1 := e ▸ h
/-- .. as values -/
theorem x_one {op : BoolOp} (ha : XE X Γ a ρ z d z1) : XE X Γ (.BoolOp op [a] pos) ρ z d z1 := fun σ B H Q S q => eOf (pe_one peS) (ha σ B H _ S q)
theorem x_and (ha : XE X Γ a ρ z (.bl t) z) (hb : t = true → XE X Γ (.BoolOp .And (b :: es) pos) ρ z (.bl u) z) : XE X Γ (.BoolOp .And (a :: b :: es) pos) ρ z (.bl (t && u)) z := fun σ B H Q S q => by
  refine eOf (pe_and peS peS) (ha σ B H _ S fun v B1 H1 t1 p1 r1 => ?_)
  cases r1
  refine ⟨t, rfl, ?_⟩
  cases t with
  | true =>
    rw [if_pos rfl]
    exact hb rfl σ B1 H1 _ (S.stepM t1 p1) fun v B2 H2 t2 p2 r2 => q v B2 H2 (t1.trans t2) p2 r2
  | false =>
    rw [if_neg Bool.false_ne_true]
    exact q _ B1 H1 t1 p1 (.bl _)
theorem x_or (ha : XE X Γ a ρ z (.bl t) z) (hb : t = false → XE X Γ (.BoolOp .Or (b :: es) pos) ρ z (.bl u) z) : XE X Γ (.BoolOp .Or (a :: b :: es) pos) ρ z (.bl (t || u)) z := fun σ B H Q S q => by
  refine eOf (pe_or peS peS) (ha σ B H _ S fun v B1 H1 t1 p1 r1 => ?_)
  cases r1
  refine ⟨t, rfl, ?_⟩
  cases t with
  | false =>
    rw [if_neg Bool.false_ne_true]
    exact hb rfl σ B1 H1 _ (S.stepM t1 p1) fun v B2 H2 t2 p2 r2 => q v B2 H2 (t1.trans t2) p2 r2
  | true =>
    rw [if_pos rfl]
    exact q _ B1 H1 t1 p1 (.bl _)
theorem x_not (ha : XE X Γ a ρ z (.bl t) z1) : XE X Γ (.UnaryOp .Not a pos) ρ z (.bl (!t)) z1 := fun σ B H Q S q =>
  eOf (pe_not peS) (ha σ B H _ S fun v B1 H1 t1 p1 r1 => by cases r1; exact ⟨t, rfl, q _ B1 H1 t1 p1 (.bl _)⟩)
theorem x_if (hc : XT X Γ c ρ z t z1) (h1 : t = true → XE X Γ a ρ z1 d z2) (h2 : t = false → XE X Γ b ρ z1 d z2) : XE X Γ (.IfExp c a b pos) ρ z d z2 := fun σ B H Q S q => by
  refine eOf (pe_ifExp ptS peS peS) (hc σ B H _ S fun B1 H1 t1 p1 => ?_)
  cases t with
  | true =>
    rw [if_pos rfl]
    exact h1 rfl σ B1 H1 _ (S.stepM t1 p1) fun v B2 H2 t2 p2 r2 => q v B2 H2 (t1.trans t2) p2 r2
  | false =>
    rw [if_neg Bool.false_ne_true]
    exact h2 rfl σ B1 H1 _ (S.stepM t1 p1) fun v B2 H2 t2 p2 r2 => q v B2 H2 (t1.trans t2) p2 r2

/-! ### arguments, tuples, lists -/
theorem a_nil : XA X Γ [] ρ z [] z := fun σ B H Q S q => aOf pa_nil (q [] B H (.refl S.wf.sub) S.wf.z .nil)
theorem a_cons (ha : XE X Γ a ρ z d z1) (hr : XA X Γ es ρ z1 ds z2) (hs : starEach (a :: es) X.env = (false, eval a X.env) :: starEach es X.env := by rfl) : XA X Γ (a :: es) ρ z (d :: ds) z2 := fun σ B H Q S q => by
  refine aOf (pa_cons peS paS hs) (ha σ B H _ S fun v B1 H1 t1 p1 r1 => ?_)
  exact hr σ B1 H1 _ (S.stepM t1 p1) fun vs B2 H2 t2 p2 r2 => q _ B2 H2 (t1.trans t2) p2 (.cons (r1.mono t2.eB) r2)
theorem x_tup {n : Nat} (h : XA X Γ es ρ z ds z1) (hl : ds.length ≤ sizeLine) : XE X Γ (.Tuple es n pos) ρ z (.tup ds) z1 := fun σ B H Q S q => by
  refine eOf (pe_tup paS) (h σ B H _ S fun vs B1 H1 t1 p1 r1 => ⟨by rw [r1.len]; exact hl, fun p hp => ?_⟩)
  have t2 : Stp B1 H1 _ _ := .new (o := .tup vs) t1.sub hp
  exact q _ _ _ (t1.trans (.of t2)) ((S.stepM t1 p1).zp t2) (.tup (.of upd_same) (r1.mono t2.eB))
theorem l_lst (h : XA X Γ es ρ z ds z1) (hl : ds.length ≤ sizeLine) : XL X Γ (.List es pos) ρ z ds z1 := fun σ B H Q S q => by
  refine eOf (pe_lst paS) (h σ B H _ S fun vs B1 H1 t1 p1 r1 => ⟨by rw [r1.len]; exact hl, fun p hp => ?_⟩)
  have t2 : Stp B1 H1 _ _ := .newO (o := .lst vs) t1.sub hp
  have hb1 : B1 p = none := by
    cases q : B1 p with
    | none => rfl
    | some u => rw [t1.sub p u q] at hp; cases hp
  have h0 : H p = none := by
    cases q : H p with
    | none => rfl
    | some u => exact absurd hp (t1.eM p (some_ne q))
  exact q p vs _ _ (t1.trans (.of t2)) ((S.stepM t1 p1).zp t2) h0 hb1 upd_same (r1.mono t2.eB)
theorem x_ofL (h : XL X Γ a ρ z ds z1) : XE X Γ a ρ z (.lst ds) z1 := fun σ B H Q S q => h σ B H Q S fun p vs B1 H1 t1 p1 h0 hb hp r => by
  have e : Ex B1 (upd B1 p (.lst vs)) := Ex.new hb
  have t2 : StpM Γ.M B H (upd B1 p (.lst vs)) H1 := by
    refine ⟨t1.eB.trans e, t1.eH, t1.eM, fun x o h => ?_, fun x h => ?_⟩
    · by_cases hx : x = p
      · subst hx; rw [upd_same] at h; rw [← h]; exact hp
      · rw [upd_ne hx] at h; exact t1.sub x o h
    · rw [upd_ne (fun q : x = p => h (by rw [q]; exact h0))]
      exact t1.fr x h
  refine q _ _ _ t2 ?_ (.lst (.of upd_same) (r.mono e))
  refine Γ.zfr _ _ _ _ _ p1 e (fun _ _ => rfl) fun x m => ?_
  rw [upd_ne (fun q : x = p => ?_)]
  · exact (Γ.znb _ _ _ p1 x m).1
  · subst q
    exact (Γ.znb _ _ _ S.wf.z x m).2 h0
theorem x_lst (h : XA X Γ es ρ z ds z1) (hl : ds.length ≤ sizeLine) : XE X Γ (.List es pos) ρ z (.lst ds) z1 := x_ofL (l_lst h hl)
theorem l_to {ds' : List D} (h : XL X Γ a ρ z ds z1) (hd : ds = ds') : XL X Γ a ρ z ds' z1 := hd ▸ h

/-! ### items -/
theorem rep_at {B : Hp} {vs : List V} {ds : List D} (r : RepAll K B vs ds) (h : atI ds i = some d) : ∃ v, atI vs i = some v ∧ Rep K B v d := by
  unfold atI at h ⊢
  rw [r.len]
  cases q : ixN ds.length i with
  | none => rw [q] at h; cases h
  | some n =>
    rw [q] at h
    exact r.get h
theorem x_ixL (ha : XE X Γ a ρ z (.lst ds) z1) (hb : XE X Γ b ρ z1 (.int i) z2) (h : atI ds i = some d) (hs : PlainIx b := by exact fun _ _ => rfl) : XE X Γ (.Subscript a b pos) ρ z d z2 := fun σ B H Q S q =>
  eOf (pe_ix ix_list peS peS hs) (x_two ha hb (fun x y B H Q e rx ry q => by
    cases ry
    cases rx with
    | lst hl r =>
      obtain ⟨v, hv, rv⟩ := rep_at r h
      exact ⟨_, _, i, v, rfl, rfl, e.sqL hl, hv, q v B H (.refl e) rv⟩) σ B H Q S q)
theorem x_ixT (ha : XE X Γ a ρ z (.tup ds) z1) (hb : XE X Γ b ρ z1 (.int i) z2) (h : atI ds i = some d) (hs : PlainIx b := by exact fun _ _ => rfl) : XE X Γ (.Subscript a b pos) ρ z d z2 := fun σ B H Q S q =>
  eOf (pe_ix ix_tup peS peS hs) (x_two ha hb (fun x y B H Q e rx ry q => by
    cases ry
    cases rx with
    | tup hl r =>
      obtain ⟨v, hv, rv⟩ := rep_at r h
      exact ⟨_, _, i, v, rfl, rfl, e.sqT hl, hv, q v B H (.refl e) rv⟩) σ B H Q S q)
/-- an item of a list of one's own -/
theorem x_ixO (n : Nat) {x : Str} {p2 : Pos} (C : Cxt X N sc P w K mg base k) (hN : N[n]? = some x) (hv : visC sc x = true) (ho : ρ[n]? = some (.own ds)) (hb : XE X Γ b ρ z (.int i) z1) (h : atI ds i = some d) (hs : PlainIx b := by exact fun _ _ => rfl)
    (hd : (x == ("__debug__" : Str)) = false := by decide) (hcd : (x == ("__classdict__" : Str)) = false := by decide) : XE X Γ (.Subscript (.Name x p2) b pos) ρ z d z1 := fun σ B H Q S q => by
  obtain ⟨a, vs, e, h0, hb0, hh, r⟩ := S.own ho
  refine eOf (pe_ix ix_list (pe_var (i := n) (by rw [C.hN]; exact hN) (by rw [C.hsc]; exact vis_of hv) hd hcd) peS hs) ⟨_, e, hb σ B H _ S fun y B1 H1 t1 p1 r1 => ?_⟩
  cases r1
  obtain ⟨v, hv, rv⟩ := rep_at r h
  exact ⟨_, vs, i, v, rfl, rfl, .of (t1.eH a _ (fun m => Γ.m0 a m h0) hh), hv, q v B1 H1 t1 p1 (rv.mono t1.eB)⟩
end
end DL

namespace DL
open PySem PySem.Spec PyProof.Rows L2

/-- a name that the def reads from the module, or a built-in's -/
def GlS (sc : Scope) (x : Str) : Prop := sc.names.lookup x = some .globalImplicit
theorem Cxt.gl {X : Cx} {N : List Str} {sc : Scope} {P : Program} {w : World} {K : PySem.W.Frag} {mg : Str → Option Value} {base : Heap} {k : Nat} (C : Cxt X N sc P w K mg base k) {x : Str} (h : GlS sc x) : Gl X x := by
  show X.env.scope.names.lookup _ = _
  rw [C.hsc]
  exact h
/-- swapped stores hang on the scope alone -/
def envS (sc : Scope) : Env := { scope := sc, locals := 0, globals := 0, cells := [], qual := "", func := none, code := .none, frame := none, builtins := 0 }
theorem swap_env {ts : List Expr} {v : Expr} {env : Env} {sc : Scope} (h : env.scope = sc) : swappedStores ts v env = swappedStores ts v (envS sc) := by
  subst h
  rfl
def swOk (ts vs : List Expr) (sc : Scope) (names : List Str) : Bool :=
  ((ts.length == 2 || ts.length == 3) && vs.length == ts.length && !((envS sc).blockKind != .function)) && (!(vs.any fun | .Starred .. => true | _ => false) &&
  (decide ((ts.filterMap fun
    | .Name id pos => if (envS sc).kindOf id == some .local && pos.line == (ts.head?.map (·.pos.line)).getD 0 then some id else none
    | _ => none) = names) && (!(names.length != ts.length || names.eraseDups.length != names.length) && (!(vs.all (foldedForSure 8)) && !(vs.all (constantsAlone 8))))))
theorem sw_of {ts vs : List Expr} {k k2 : Nat} {p p2 : Pos} {sc : Scope} {names : List Str} (h : swOk ts vs sc names = true) : swappedStores [.Tuple ts k p] (.Tuple vs k2 p2) (envS sc) = pure (some names) := by
  unfold swOk at h
  rw [Bool.and_eq_true, Bool.and_eq_true, Bool.and_eq_true, Bool.and_eq_true, Bool.and_eq_true, Bool.and_eq_true, Bool.and_eq_true] at h
  obtain ⟨⟨⟨h1, h2⟩, h3⟩, h4, h5, h6, h7, h8⟩ := h
  have e1 : (!(ts.length == 2 || ts.length == 3) || vs.length != ts.length || (envS sc).blockKind != .function) = false := by
    rw [h1]
    have : (vs.length != ts.length) = false := by simpa using h2
    rw [this]
    simpa using h3
  have h5 := of_decide_eq_true h5
  have h4 : (vs.any fun | .Starred .. => true | _ => false) = false := by simpa using h4
  have h6 : (names.length != ts.length || names.eraseDups.length != names.length) = false := by simpa using h6
  have h7 : vs.all (foldedForSure 8) = false := by simpa using h7
  have h8 : vs.all (constantsAlone 8) = false := by simpa using h8
  show (if (!(ts.length == 2 || ts.length == 3) || vs.length != ts.length || (envS sc).blockKind != .function) = true then pure none else
    if (vs.any fun | .Starred .. => true | _ => false) = true then pure none else
    if ((ts.filterMap fun
      | .Name id pos => if (envS sc).kindOf id == some .local && pos.line == (ts.head?.map (·.pos.line)).getD 0 then some id else none
      | _ => none).length != ts.length || (ts.filterMap fun
      | .Name id pos => if (envS sc).kindOf id == some .local && pos.line == (ts.head?.map (·.pos.line)).getD 0 then some id else none
      | _ => none).eraseDups.length != (ts.filterMap fun
      | .Name id pos => if (envS sc).kindOf id == some .local && pos.line == (ts.head?.map (·.pos.line)).getD 0 then some id else none
      | _ => none).length) = true then pure none else if vs.all (foldedForSure 8) = true then pure none else if vs.all (constantsAlone 8) = true then _ else pure (some (ts.filterMap fun
      | .Name id pos => if (envS sc).kindOf id == some .local && pos.line == (ts.head?.map (·.pos.line)).getD 0 then some id else none
      | _ => none))) = _
  rw [h5, e1, h4, h6, h7, h8]
  rfl
theorem getD_of {ds : List D} {m : Nat} {d : D} (h : ds[m]? = some d) : ds.getD m .non = d := by
  rw [List.getD_eq_getElem?_getD, h]; rfl
/-! ### what is wanted behind a statement -/
structure Post (Γ : G) where
  nx : En → Γ.Z → Prop
  rt : D → Γ.Z → Prop
  bk : En → Γ.Z → Prop := fun _ _ => False
  ct : En → Γ.Z → Prop := fun _ _ => False
structure Lk (K : PySem.W.Frag) (Γ : G) (P : Post Γ) (E : Ends) (B : Hp) : Prop where
  nx : ∀ ρ z σ B' H, Ex B B' → Sat K Γ ρ z σ B' H → P.nx ρ z → E.nx σ H
  rt : ∀ v d z B' H, Ex B B' → Wf Γ z B' H → Rep K B' v d → P.rt d z → E.rt v H
  bk : ∀ ρ z σ B' H, Ex B B' → Sat K Γ ρ z σ B' H → P.bk ρ z → E.bk σ H
  ct : ∀ ρ z σ B' H, Ex B B' → Sat K Γ ρ z σ B' H → P.ct ρ z → E.ct σ H
theorem Lk.ex {K : PySem.W.Frag} {Γ : G} {P : Post Γ} {E : Ends} {B B' : Hp} (l : Lk K Γ P E B) (e : Ex B B') : Lk K Γ P E B' :=
  ⟨fun ρ z σ C H x => l.nx ρ z σ C H (e.trans x), fun v d z C H x => l.rt v d z C H (e.trans x), fun ρ z σ C H x => l.bk ρ z σ C H (e.trans x), fun ρ z σ C H x => l.ct ρ z σ C H (e.trans x)⟩

def semG (X : Cx) (tg : Expr) : TG := fun v σ H Q => ∀ pins s u, Inv X pins σ H s → RelV v u → wpAny (model X.prog X.w) X.A (assign tg X.env u) (fun _ s' => ∃ σ' H', Inv X pins σ' H' s' ∧ Q σ' H') X.xe s
theorem pgS {X : Cx} {tg : Expr} : PG X tg (semG X tg) := ⟨fun pins s σ H v u Q I r h => h pins s u I r⟩
theorem gOf {X : Cx} {tg : Expr} {t : TG} {v : V} {σ : L2.St} {H : Hp} {Q : L2.St → Hp → Prop} (h : PG X tg t) (q : t v σ H Q) : semG X tg v σ H Q := fun pins s u I r => h.run pins s σ H v u Q I r q
def semI (X : Cx) (tg it : Expr) : TI := fun σ H R => ∀ pins s, Inv X pins σ H s → wpAny (model X.prog X.w) X.A (eval it X.env) (fun v s1 => wpAny (model X.prog X.w) X.A (pyIter v) (PIE X pins σ tg R) X.xe s1) X.xe s
theorem piS {X : Cx} {tg it : Expr} : PI X tg it (semI X tg it) := ⟨fun pins s σ H R I h => h pins s I⟩
theorem iOf {X : Cx} {tg it : Expr} {t : TI} {σ : L2.St} {H : Hp} {R : It → Hp → Prop} (h : PI X tg it t) (q : t σ H R) : semI X tg it σ H R := fun pins s I => h.run pins s σ H R I q

/-- σ' is σ but at the slots of ns -/
def Sets (ns : List Nat) (σ σ' : L2.St) : Prop := σ'.length = σ.length ∧ ∀ i, i ∉ ns → σ'[i]? = σ[i]?
theorem Sets.refl {σ : L2.St} : Sets [] σ σ := ⟨rfl, fun _ _ => rfl⟩
theorem Sets.one {σ : L2.St} {n : Nat} {x : Option V} : Sets [n] σ (σ.set n x) := ⟨by simp, fun i h => List.getElem?_set_ne (by simpa using fun e => h (by simp [e]))⟩
theorem Sets.trans {σ σ1 σ2 : L2.St} {ns ms : List Nat} (a : Sets ns σ σ1) (b : Sets ms σ1 σ2) : Sets (ns ++ ms) σ σ2 :=
  ⟨b.1.trans a.1, fun i h => (b.2 i fun q => h (List.mem_append_right _ q)).trans (a.2 i fun q => h (List.mem_append_left _ q))⟩
section
variable (X : Cx) (Γ : G)
def XS (st : Stmt) (ρ : En) (z : Γ.Z) (P : Post Γ) : Prop := ∀ (σ : L2.St) (B H : Hp) (E : Ends), Sat X.K Γ ρ z σ B H → Lk X.K Γ P E B → semS X st E σ H
def XSs (sts : List Stmt) (ρ : En) (z : Γ.Z) (P : Post Γ) : Prop := ∀ (σ : L2.St) (B H : Hp) (E : Ends), Sat X.K Γ ρ z σ B H → Lk X.K Γ P E B → semSs X sts E σ H
/-- tg takes the data d -/
def XG (tg : Expr) (ns : List Nat) (d : D) (ρ ρ' : En) : Prop := ∀ (z : Γ.Z) (σ : L2.St) (B H : Hp) (v : V) (Q : L2.St → Hp → Prop), Sat X.K Γ ρ z σ B H → Rep X.K B v d →
  (∀ σ', Sat X.K Γ ρ' z σ' B H → Sets ns σ σ' → Q σ' H) → semG X tg v σ H Q
def semGs (tgs : List Expr) : TGs := fun vs σ H Q => ∀ pins s us, Inv X pins σ H s → Vals vs us → wpAny (model X.prog X.w) X.A (assignInOrder ((assignEach tgs X.env).map (·.2)) us) (fun _ s' => ∃ σ' H', Inv X pins σ' H' s' ∧ Q σ' H') X.xe s
def XGs (tgs : List Expr) (ns : List Nat) (ds : List D) (ρ ρ' : En) : Prop := ∀ (z : Γ.Z) (σ : L2.St) (B H : Hp) (vs : List V) (Q : L2.St → Hp → Prop), Sat X.K Γ ρ z σ B H → RepAll X.K B vs ds →
  (∀ σ', Sat X.K Γ ρ' z σ' B H → Sets ns σ σ' → Q σ' H) → semGs X tgs vs σ H Q
/-- it yields n items, item 0, item 1, .. -/
def XI (tg it : Expr) (ρ : En) (z : Γ.Z) (n : Nat) (item : Nat → D) (z1 : Γ.Z) : Prop := ∀ (σ : L2.St) (B H : Hp) (R : It → Hp → Prop), Sat X.K Γ ρ z σ B H →
  (∀ J B1 H1, StpM Γ.M B H B1 H1 → Γ.zp z1 B1 H1 → (∀ B2 H2, Ex B1 B2 → Ex B2 H2 → J.stop n H2) → (∀ i B2 H2, i < n → Ex B1 B2 → Ex B2 H2 → J.go i H2) →
    (∀ i B2 H2 x H3, i < n → Ex B1 B2 → Ex B2 H2 → J.yld i H2 x H3 → ∃ B3, Stp B2 H2 B3 H3 ∧ Rep X.K B3 x (item i)) → R J H1) → semI X tg it σ H R
end

structure Cxd (X : Cx) (N : List Str) (sc : Scope) (P : Program) (w : World) (K : PySem.W.Frag) (mg : Str → Option Value) (base : Heap) (k : Nat) : Prop extends Cxt X N sc P w K mg base k where
  fn : ∀ x, X.fn x = true
def locC (sc : Scope) (x : Str) : Bool := match sc.names.lookup x with
  | some .local => true | some .cell => true | _ => false
theorem loc_of {sc : Scope} {x : Str} (h : locC sc x = true) : L2.Loc sc x := by
  unfold locC at h
  unfold L2.Loc
  split at h
  · exact .inl (by assumption)
  · exact .inr (by assumption)
  · cases h

section
variable {X : Cx} {Γ : G} {N : List Str} {sc : Scope} {P : Program} {w : World} {K : PySem.W.Frag} {mg : Str → Option Value} {base : Heap} {k : Nat}
variable {e a b c tg it : Expr} {es tgs : List Expr} {st : Stmt} {sts body : List Stmt} {ρ ρ' ρ1 ρ2 : En} {z z1 z2 z3 : Γ.Z} {d d1 d2 d3 : D} {ds ds1 ds2 : List D} {pos : Pos} {i j : Int} {Po : Post Γ} {t : Bool}

/-! ### blocks -/
theorem xss_nil (q : Po.nx ρ z) : XSs X Γ [] ρ z Po := fun σ B H E S l => ssOf pss_nil (l.nx ρ z σ B H (Ex.refl _) S q)
theorem xss_cons (h : XS X Γ st ρ z { Po with nx := fun ρ' z' => XSs X Γ sts ρ' z' Po }) : XSs X Γ (st :: sts) ρ z Po := fun σ B H E S l =>
  ssOf (pss_cons psS pssS) (h σ B H _ S ⟨fun ρ' z' σ' B' H' e S' q => q σ' B' H' E S' (l.ex e), l.rt, l.bk, l.ct⟩)
theorem xss_one (h : XS X Γ st ρ z Po) : XSs X Γ [st] ρ z Po := fun σ B H E S l => ssOf (pss_one psS) (h σ B H _ S l)
/-- a list of one's own is data from here on -/
theorem xss_freeze (n : Nat) (ho : ρ[n]? = some (.own ds)) (h : XSs X Γ sts (ρ.set n (.dat (.lst ds))) z Po) : XSs X Γ sts ρ z Po := fun σ B H E S l => by
  obtain ⟨B', e, S'⟩ := S.freeze ho
  exact h σ B' H E S' (l.ex e)
theorem xs_freeze (n : Nat) (ho : ρ[n]? = some (.own ds)) (h : XS X Γ st (ρ.set n (.dat (.lst ds))) z Po) : XS X Γ st ρ z Po := fun σ B H E S l => by
  obtain ⟨B', e, S'⟩ := S.freeze ho
  exact h σ B' H E S' (l.ex e)
/-- the environment's other form, known or forgotten -/
theorem xss_env (e : ρ = ρ') (h : XSs X Γ sts ρ' z Po) : XSs X Γ sts ρ z Po := e ▸ h
theorem xss_weak (hl : ρ'.length = ρ.length) (hw : ∀ (i : Nat) (x : Sl), ρ'[i]? = some x → x = .no ∨ ρ[i]? = some x) (h : XSs X Γ sts ρ' z Po) : XSs X Γ sts ρ z Po := fun σ B H E S l =>
  h σ B H E (S.weak (by rw [S.len, hl]) fun i x q => (hw i x q).imp id fun q => ⟨q, rfl⟩) l

/-! ### targets -/
theorem xg_name (n : Nat) {x : Str} (C : Cxt X N sc P w K mg base k) (hN : N[n]? = some x) (hl : sc.names.lookup x = some .local) : XG X Γ (.Name x pos) [n] d ρ (ρ.set n (.dat d)) := fun z σ B H v Q S r q =>
  gOf (pg_name (i := n) (by rw [C.hN]; exact C.nd) (by rw [C.hN]; exact hN) (by rw [C.hsc]; exact .inl hl) (.inr (by rw [C.hsc]; exact hl))) (q _ (S.setDat n r) .one)
theorem xg_nameD (n : Nat) {x : Str} (C : Cxd X N sc P w K mg base k) (hN : N[n]? = some x) (hl : locC sc x = true) : XG X Γ (.Name x pos) [n] d ρ (ρ.set n (.dat d)) := fun z σ B H v Q S r q =>
  gOf (pg_name (i := n) (by rw [C.hN]; exact C.nd) (by rw [C.hN]; exact hN) (by rw [C.hsc]; exact loc_of hl) (.inl (C.fn _))) (q _ (S.setDat n r) .one)
theorem xgs_nil : XGs X Γ [] [] [] ρ ρ := fun z σ B H vs Q S r q pins s us I rv => by
  cases r
  exact pgs_nil.run pins s σ H [] us Q I rv ⟨rfl, q σ S .refl⟩
theorem xgs_cons {ns ms : List Nat} (h1 : XG X Γ tg ns d ρ ρ1) (h2 : XGs X Γ tgs ms ds ρ1 ρ2) (hs : (assignEach (tg :: tgs) X.env).map (·.2) = assign tg X.env :: (assignEach tgs X.env).map (·.2) := by rfl) : XGs X Γ (tg :: tgs) (ns ++ ms) (d :: ds) ρ ρ2 := fun z σ B H vs Q S r q pins s us I rv => by
  cases r with
  | cons r rr =>
    have hr : PGs X tgs (semGs X tgs) := ⟨fun pins s σ H vs us Q I r h => h pins s us I r⟩
    exact (pgs_cons pgS hr hs).run pins s σ H _ us Q I rv ⟨_, _, rfl, h1 z σ B H _ _ S r fun σ' S' w1 => h2 z σ' B H _ _ S' rr fun σ2 S2 w2 => q σ2 S2 (w1.trans w2)⟩
theorem xg_tup {ns : List Nat} {m : Nat} (C : Cxt X N sc P w K mg base k) (h : XGs X Γ es ns ds ρ ρ1) (hn : (assignEach es X.env).length = ds.length := by rfl) (hst : (assignEach es X.env).findIdx? (·.1) = none := by rfl) : XG X Γ (.Tuple es m pos) ns (.tup ds) ρ ρ1 := fun z σ B H v Q S r q => by
  have hr : PGs X es (semGs X es) := ⟨fun pins s σ H vs us Q I r h => h pins s us I r⟩
  cases r with
  | tup hl r => exact gOf (pg_tup (n := ds.length) C.calm hr hn hst) ⟨_, _, rfl, S.wf.sub.sqT hl, r.len, h z σ B H _ _ S r q⟩

/-! ### assignments -/
theorem xs_set (n : Nat) {x : Str} {p2 : Pos} (C : Cxd X N sc P w K mg base k) (hN : N[n]? = some x) (hl : locC sc x = true) (h : XE X Γ e ρ z d z1) (q : Po.nx (ρ.set n (.dat d)) z1)
    (hs : swapsWith e (some (.Name x p2)) pos.line X.env = pure false := by rfl) : XS X Γ (.Assign [.Name x p2] e pos) ρ z Po := fun σ B H E S l => by
  refine sOf (ps_set (i := n) (by rw [C.hN]; exact C.nd) (by rw [C.hN]; exact hN) (by rw [C.hsc]; exact loc_of hl) peS hs (.inl (C.fn _))) (h σ B H _ S fun v B1 H1 t1 p1 r1 => ?_)
  exact l.nx _ _ _ B1 H1 t1.eB ((S.stepM t1 p1).setDat n r1) q
theorem Sat.fresh {σ : L2.St} {B H : Hp} (S : Sat K Γ ρ z σ B H) {p : Addr} (hp : H p = none) : ∀ (j : Nat) (es : List D), ρ[j]? = some (.own es) → σ[j]? ≠ some (some (.ref p)) := fun j es hj e => by
  obtain ⟨a, vs, e', _, _, hh, _⟩ := S.own hj
  rw [e'] at e
  cases e
  rw [hp] at hh
  cases hh
theorem Sat.h0 {σ : L2.St} {B H : Hp} (S : Sat K Γ ρ z σ B H) {p : Addr} (hp : H p = none) : Γ.H0 p = none := by
  cases q : Γ.H0 p with
  | none => rfl
  | some o => exact absurd hp (S.wf.eM p (some_ne q))
/-- a new list, one's own -/
theorem xs_setO (n : Nat) {x : Str} {p2 : Pos} (C : Cxd X N sc P w K mg base k) (hN : N[n]? = some x) (hl : locC sc x = true) (h : XL X Γ e ρ z ds z1) (q : Po.nx (ρ.set n (.own ds)) z1)
    (hs : swapsWith e (some (.Name x p2)) pos.line X.env = pure false := by rfl) : XS X Γ (.Assign [.Name x p2] e pos) ρ z Po := fun σ B H E S l => by
  refine sOf (ps_set (i := n) (by rw [C.hN]; exact C.nd) (by rw [C.hN]; exact hN) (by rw [C.hsc]; exact loc_of hl) peS hs (.inl (C.fn _))) (h σ B H _ S fun p vs B1 H1 t1 p1 h0 hb hp r1 => ?_)
  exact l.nx _ _ _ B1 H1 t1.eB ((S.stepM t1 p1).setOwn n (S.h0 h0) hb hp r1 (fun j es hj => S.fresh h0 j es hj)) q
/-- a target of any form -/
theorem xs_asg {ns : List Nat} (C : Cxd X N sc P w K mg base k) (h : XE X Γ e ρ z d z1) (g : XG X Γ tg ns d ρ ρ1) (q : Po.nx ρ1 z1) (hs : swapsWithSole [tg] e pos.line X.env = pure false := by rfl) (hw : swappedStores [tg] e X.env = pure none := by rfl)
    (h1 : (assignEach [tg] X.env).map (·.2) = [assign tg X.env] := by rfl) : XS X Γ (.Assign [tg] e pos) ρ z Po := fun σ B H E S l => by
  refine sOf (ps_asg peS pgS hs hw h1) (h σ B H _ S fun v B1 H1 t1 p1 r1 => ?_)
  exact g _ σ B1 H1 v _ (S.stepM t1 p1) r1 fun σ' S' _ => l.nx _ _ _ B1 H1 t1.eB S' q
theorem xs_par {n m : Nat} {x y : Str} {px py pt : Pos} {kt k2 pt2} (C : Cxd X N sc P w K mg base k) (hn : N[n]? = some x) (hm : N[m]? = some y) (hnm : n ≠ m) (hx : sc.names.lookup x = some .local) (hy : sc.names.lookup y = some .local) (h : XA X Γ [a, b] ρ z [d1, d2] z1)
    (q : Po.nx ((ρ.set n (.dat d1)).set m (.dat d2)) z1)
    (hw : swOk [.Name x px, .Name y py] [a, b] sc [x, y] = true)
    (hs : swapsWithSole [.Tuple [.Name x px, .Name y py] kt pt] (.Tuple [a, b] k2 pt2) pos.line X.env = pure false := by rfl) :
    XS X Γ (.Assign [.Tuple [.Name x px, .Name y py] kt pt] (.Tuple [a, b] k2 pt2) pos) ρ z Po := fun σ B H E S l => by
  refine sOf (ps_par (i := n) (j := m) C.calm (by rw [C.hN]; exact C.nd) (by rw [C.hN]; exact hn) (by rw [C.hN]; exact hm) hnm (by rw [C.hsc]; exact hx) (by rw [C.hsc]; exact hy) paS (by rw [swap_env C.hsc]; exact sw_of hw) hs) (h σ B H _ S fun vs B1 H1 t1 p1 r1 => ?_)
  cases r1 with
  | cons r r1 => cases r1 with
    | cons r' r1 =>
      cases r1
      exact ⟨_, _, rfl, l.nx _ _ _ B1 H1 t1.eB (((S.stepM t1 p1).setDat n r).setDat m r') q⟩
theorem xs_par3 {n m o : Nat} {x y y2 : Str} {px py pz pt : Pos} {kt k2 pt2} (C : Cxd X N sc P w K mg base k) (hn : N[n]? = some x) (hm : N[m]? = some y) (ho : N[o]? = some y2) (hnm : n ≠ m) (hno : n ≠ o) (hmo : m ≠ o)
    (hx : sc.names.lookup x = some .local) (hy : sc.names.lookup y = some .local) (hz : sc.names.lookup y2 = some .local) (h : XA X Γ [a, b, c] ρ z [d1, d2, d3] z1)
    (q : Po.nx (((ρ.set n (.dat d1)).set m (.dat d2)).set o (.dat d3)) z1)
    (hw : swOk [.Name x px, .Name y py, .Name y2 pz] [a, b, c] sc [x, y, y2] = true)
    (hs : swapsWithSole [.Tuple [.Name x px, .Name y py, .Name y2 pz] kt pt] (.Tuple [a, b, c] k2 pt2) pos.line X.env = pure false := by rfl) :
    XS X Γ (.Assign [.Tuple [.Name x px, .Name y py, .Name y2 pz] kt pt] (.Tuple [a, b, c] k2 pt2) pos) ρ z Po := fun σ B H E S l => by
  refine sOf (ps_par3 (i := n) (j := m) (l := o) C.calm (by rw [C.hN]; exact C.nd) (by rw [C.hN]; exact hn) (by rw [C.hN]; exact hm) (by rw [C.hN]; exact ho) hnm hno hmo (by rw [C.hsc]; exact hx) (by rw [C.hsc]; exact hy) (by rw [C.hsc]; exact hz) paS (by rw [swap_env C.hsc]; exact sw_of hw) hs) (h σ B H _ S fun vs B1 H1 t1 p1 r1 => ?_)
  cases r1 with
  | cons r r1 => cases r1 with
    | cons r' r1 => cases r1 with
      | cons r'' r1 =>
        cases r1
        exact ⟨_, _, _, rfl, l.nx _ _ _ B1 H1 t1.eB ((((S.stepM t1 p1).setDat n r).setDat m r').setDat o r'') q⟩

/-! ### other small statements -/
theorem xs_ret (h : XE X Γ e ρ z d z1) (q : Po.rt d z1) : XS X Γ (.Return (some e) pos) ρ z Po := fun σ B H E S l =>
  sOf (ps_ret peS) (h σ B H _ S fun v B1 H1 t1 p1 r1 => l.rt v d z1 B1 H1 t1.eB (S.stepM t1 p1).wf r1 q)
theorem xs_retN (q : Po.rt .non z) : XS X Γ (.Return none pos) ρ z Po := fun σ B H E S l => sOf ps_retN (l.rt _ _ z B H (Ex.refl _) S.wf .non q)
theorem xs_drop (h : XE X Γ e ρ z d z1) (q : Po.nx ρ z1) (hs : swapsWith e none pos.line X.env = pure false := by rfl) : XS X Γ (.Expr e pos) ρ z Po := fun σ B H E S l =>
  sOf (ps_expr peS hs) (h σ B H _ S fun v B1 H1 t1 p1 r1 => l.nx _ _ _ B1 H1 t1.eB (S.stepM t1 p1) q)
theorem xs_if {s1 s2 : List Stmt} (hc : XT X Γ c ρ z t z1) (h1 : t = true → XSs X Γ s1 ρ z1 Po) (h2 : t = false → XSs X Γ s2 ρ z1 Po) : XS X Γ (.If c s1 s2 pos) ρ z Po := fun σ B H E S l => by
  refine sOf (ps_if ptS pssS pssS) (hc σ B H _ S fun B1 H1 t1 p1 => ?_)
  cases t with
  | true =>
    rw [if_pos rfl]
    exact h1 rfl σ B1 H1 E (S.stepM t1 p1) (l.ex t1.eB)
  | false =>
    rw [if_neg Bool.false_ne_true]
    exact h2 rfl σ B1 H1 E (S.stepM t1 p1) (l.ex t1.eB)
theorem xs_pass (q : Po.nx ρ z) : XS X Γ (.Pass pos) ρ z Po := fun σ B H E S l => sOf ps_pass (l.nx _ _ _ B H (Ex.refl _) S q)
theorem xs_break (q : Po.bk ρ z) : XS X Γ (.Break pos) ρ z Po := fun σ B H E S l => sOf ps_break (l.bk _ _ _ B H (Ex.refl _) S q)
theorem xs_cont (q : Po.ct ρ z) : XS X Γ (.Continue pos) ρ z Po := fun σ B H E S l => sOf ps_continue (l.ct _ _ _ B H (Ex.refl _) S q)
theorem xs_aug (n : Nat) {x : Str} {p2 : Pos} {op : Operator} {ti : TIp} {d' : D} (C : Cxd X N sc P w K mg base k) (hN : N[n]? = some x) (hl : locC sc x = true) (ho : PIp X op ti) (hx : ρ[n]? = some (.dat d)) (h : XE X Γ e ρ z d1 z1)
    (hr : ∀ x y B H (Q : VK), Ex B H → Rep X.K B x d → Rep X.K B y d1 → (∀ v B' H', Stp B H B' H' → Rep X.K B' v d' → Q v H') → ti x y H Q) (q : Po.nx (ρ.set n (.dat d')) z1) : XS X Γ (.AugAssign (.Name x p2) op e pos) ρ z Po := fun σ B H E S l => by
  obtain ⟨v, ev, rv⟩ := S.dat hx
  refine sOf (ps_aug (i := n) (by rw [C.hN]; exact C.nd) (by rw [C.hN]; exact hN) (by rw [C.hsc]; exact loc_of hl) peS ho (.inl (C.fn _))) ⟨v, ev, h σ B H _ S fun y B1 H1 t1 p1 r1 => ?_⟩
  refine hr v y B1 H1 _ t1.sub (rv.mono t1.eB) r1 fun u B2 H2 t2 r2 => ?_
  exact l.nx _ _ _ B2 H2 (t1.eB.trans t2.eB) (((S.stepM t1 p1).step t2).setDat n r2) q
theorem xs_incr (n : Nat) {x : Str} {p2 : Pos} (C : Cxd X N sc P w K mg base k) (hN : N[n]? = some x) (hl : locC sc x = true) (hx : ρ[n]? = some (.dat (.int i))) (h : XE X Γ e ρ z (.int j) z1) (q : Po.nx (ρ.set n (.dat (.int (i + j)))) z1) :
    XS X Γ (.AugAssign (.Name x p2) .Add e pos) ρ z Po := xs_aug n C hN hl iop_add hx h (rI0_r fun _ => .int _) q

/-! ### lists of one's own -/
theorem xs_append (n : Nat) {x : Str} {p2 p3 p4 : Pos} (C : Cxd X N sc P w K mg base k) (hN : N[n]? = some x) (hv : visC sc x = true) (ho : ρ[n]? = some (.own ds)) (h : XE X Γ e ρ z d z1) (hlen : ds.length < sizeLine) (q : Po.nx (ρ.set n (.own (ds ++ [d]))) z1)
    (hse : starEach [e] X.env = (false, eval e X.env) :: starEach [] X.env := by rfl)
    (hd : (x == ("__debug__" : Str)) = false := by decide) (hcd : (x == ("__classdict__" : Str)) = false := by decide)
    (hbase : attributeBase (.Name x p2) "append" X.env (eval (.Name x p2) X.env) = eval (.Name x p2) X.env := by rfl)
    (hfew : ((backTo p4 (starEach [e] X.env)).all (fun x => !x.1) && (backToKw p4 (keywordEach [] X.env)).all (fun x => x.1.isSome)
      && decide (([e] : List Expr).length + ([] : List Keyword).length + (if ([] : List Keyword).isEmpty then 0 else 1) < 30)) = true := by rfl)
    (hline : (p3.endLine == p4.line) = true := by rfl)
    (hs : swapsWith (.Call (.Attribute (.Name x p2) "append" p3) [e] [] p4) none pos.line X.env = pure false := by rfl) :
    XS X Γ (.Expr (.Call (.Attribute (.Name x p2) "append" p3) [e] [] p4) pos) ρ z Po := fun σ B H E S l => by
  obtain ⟨a, vs, ea, h0, hb, hh, r⟩ := S.own ho
  have hpe : PE X (.Call (.Attribute (.Name x p2) "append" p3) [e] [] p4) (tBM X.K "list" rAppend (tVar n) (tCons (semE X e) tNil)) :=
    pe_bm PySem.F.plainAttrs_list PySem.F.slot_list_append PySem.F.type_list_append mt_append (pe_var (by rw [C.hN]; exact hN) (by rw [C.hsc]; exact vis_of hv) hd hcd) (pa_cons peS pa_nil hse) hbase hfew hline hse rfl
  refine sOf (ps_expr hpe hs) ⟨_, ea, .inl ⟨rfl, _, .inl (.inl hh)⟩, h σ B H _ S fun v B1 H1 t1 p1 r1 => ?_⟩
  have hh1 : H1 a = some (.lst vs) := t1.eH a _ (fun m => Γ.m0 a m h0) hh
  refine ⟨a, vs, v, rfl, rfl, hh1, by rw [r.len]; exact hlen, ?_⟩
  exact l.nx _ _ _ B1 _ t1.eB ((S.stepM t1 p1).mutOwn ho ea ((r.mono t1.eB).app (.cons r1 .nil))) q
theorem xs_setItem (n : Nat) {x : Str} {p2 p3 : Pos} {m : Nat} (C : Cxd X N sc P w K mg base k) (hN : N[n]? = some x) (hv : visC sc x = true) (ho : ρ[n]? = some (.own ds)) (h : XE X Γ e ρ z d z1) (hi : XE X Γ b ρ z1 (.int i) z2) (hx : ixN ds.length i = some m) (q : Po.nx (ρ.set n (.own (ds.set m d))) z2)
    (hd : (x == ("__debug__" : Str)) = false := by decide) (hcd : (x == ("__classdict__" : Str)) = false := by decide)
    (ha : ∀ v, assign (.Subscript (.Name x p2) b p3) X.env v = (do
      let ov ← holding [v] (eval (.Name x p2) X.env)
      let iv ← holding [v, ov] (eval b X.env)
      standAt p3
      holding [v, ov, iv] (setItem ov iv v)
      release [v, ov, iv] []) := by intro _; rfl)
    (hs : swapsWithSole [.Subscript (.Name x p2) b p3] e pos.line X.env = pure false := by rfl) (hw : swappedStores [.Subscript (.Name x p2) b p3] e X.env = pure none := by rfl)
    (h1 : (assignEach [.Subscript (.Name x p2) b p3] X.env).map (·.2) = [assign (.Subscript (.Name x p2) b p3) X.env] := by rfl) :
    XS X Γ (.Assign [.Subscript (.Name x p2) b p3] e pos) ρ z Po := fun σ B H E S l => by
  obtain ⟨a, vs, ea, h0, hb, hh, r⟩ := S.own ho
  refine sOf (ps_asg peS (pg_sub (pe_var (i := n) (by rw [C.hN]; exact hN) (by rw [C.hsc]; exact vis_of hv) hd hcd) peS set_list ha) hs hw h1) (h σ B H _ S fun v B1 H1 t1 p1 r1 => ?_)
  refine ⟨_, ea, hi σ B1 H1 _ (S.stepM t1 p1) fun y B2 H2 t2 p2 r2 => ?_⟩
  cases r2
  have hh2 : H2 a = some (.lst vs) := t2.eH a _ (fun m => Γ.m0 a m h0) (t1.eH a _ (fun m => Γ.m0 a m h0) hh)
  refine ⟨a, vs, i, m, rfl, rfl, hh2, by rw [r.len]; exact hx, ?_⟩
  exact l.nx _ _ _ B2 _ (t1.eB.trans t2.eB) (((S.stepM t1 p1).stepM t2 p2).mutOwn ho ea (((r.mono t1.eB).mono t2.eB).set (r1.mono t2.eB) m)) q

/-! ### loops -/
theorem xs_for {n : Nat} {item : Nat → D} (I : Nat → En → Γ.Z → Prop) (C : Cxd X N sc P w K mg base k) (hi : XI X Γ tg it ρ z n item z1) (h0 : I 0 ρ z1)
    (hs : ∀ m ρ' z', m < n → I m ρ' z' → ∃ ns ρ2, XG X Γ tg ns (item m) ρ' ρ2 ∧ XSs X Γ body ρ2 z' { nx := I (m + 1), ct := I (m + 1), bk := Po.nx, rt := Po.rt })
    (hd : ∀ ρ' z', I n ρ' z' → Po.nx ρ' z') (hf : ∀ x, foldedSetIterable it X.env x = pure x := by intro _; rfl) : XS X Γ (.For tg it body [] pos) ρ z Po := fun σ B H E S l => by
  refine sOf (ps_for C.pass C.calm piS pgS pssS hf) (hi σ B H _ S fun J B1 H1 t1 p1 hstop hgo hyld => ?_)
  refine ⟨fun i m σ' H' => m = n - i ∧ i ≤ n ∧ ∃ ρ' z' B', Ex B1 B' ∧ Sat X.K Γ ρ' z' σ' B' H' ∧ I i ρ' z', ⟨n, by simp, Nat.zero_le _, ρ, z1, B1, Ex.refl _, S.stepM t1 p1, h0⟩, ?_⟩
  rintro i m σ' H' ⟨rfl, hin, ρ', z', B', eb, S', hI⟩
  by_cases hlt : i < n
  · refine .inr ⟨hgo i B' H' hlt eb S'.wf.sub, fun σ2 H2 => ∃ ρ' z' B', Ex B1 B' ∧ Sat X.K Γ ρ' z' σ2 B' H2 ∧ I (i + 1) ρ' z', fun σ2 H2 q => ⟨n - (i + 1), by omega, rfl, hlt, q⟩, fun x H2 y => ?_⟩
    obtain ⟨B3, t3, r3⟩ := hyld i B' H' x H2 hlt eb S'.wf.sub y
    obtain ⟨ns, ρ2, g, bd⟩ := hs i ρ' z' hlt hI
    refine g z' σ' B3 H2 x _ (S'.step t3) r3 fun σ4 S4 _ => ?_
    refine bd σ4 B3 H2 _ S4 ⟨fun ρ5 z5 σ5 B5 H5 e5 S5 q5 => ⟨ρ5, z5, B5, (eb.trans t3.eB).trans e5, S5, q5⟩, fun v d z5 B5 H5 e5 w5 r5 q5 => ?_, fun ρ5 z5 σ5 B5 H5 e5 S5 q5 => ?_, fun ρ5 z5 σ5 B5 H5 e5 S5 q5 => ⟨ρ5, z5, B5, (eb.trans t3.eB).trans e5, S5, q5⟩⟩
    · exact l.rt v d z5 B5 H5 (((t1.eB.trans eb).trans t3.eB).trans e5) w5 r5 q5
    · exact l.nx _ _ _ B5 H5 (((t1.eB.trans eb).trans t3.eB).trans e5) S5 q5
  · have e : i = n := by omega
    subst e
    exact .inl ⟨hstop B' H' eb S'.wf.sub, l.nx _ _ _ B' H' (t1.eB.trans eb) S' (hd ρ' z' hI)⟩
theorem xs_while (I : Nat → En → Γ.Z → Prop) (m0 : Nat) (C : Cxd X N sc P w K mg base k) (h0 : I m0 ρ z)
    (hs : ∀ m ρ' z', I m ρ' z' → ∃ (b : Bool) (z2 : Γ.Z), XT X Γ c ρ' z' b z2 ∧ (b = true → XSs X Γ body ρ' z2 { nx := fun ρ2 z3 => ∃ m', m' < m ∧ I m' ρ2 z3, ct := fun ρ2 z3 => ∃ m', m' < m ∧ I m' ρ2 z3, bk := Po.nx, rt := Po.rt }) ∧ (b = false → Po.nx ρ' z2)) :
    XS X Γ (.While c body [] pos) ρ z Po := fun σ B H E S l => by
  refine sOf (ps_while C.pass ptS pssS) ⟨fun m σ' H' => ∃ ρ' z' B', Ex B B' ∧ Sat X.K Γ ρ' z' σ' B' H' ∧ I m ρ' z', ⟨m0, ρ, z, B, Ex.refl _, S, h0⟩, ?_⟩
  rintro m σ' H' ⟨ρ', z', B', eb, S', hI⟩
  obtain ⟨b, z2, hc, h1, h2⟩ := hs m ρ' z' hI
  refine hc σ' B' H' _ S' fun B1 H1 t1 p1 => ?_
  cases b with
  | true =>
    rw [if_pos rfl]
    refine ⟨fun σ2 H2 => ∃ m', m' < m ∧ ∃ ρ' z' B', Ex B B' ∧ Sat X.K Γ ρ' z' σ2 B' H2 ∧ I m' ρ' z', fun σ2 H2 ⟨m', a, b⟩ => ⟨m', a, b⟩, ?_⟩
    refine h1 rfl σ' B1 H1 _ (S'.stepM t1 p1) ⟨fun ρ5 z5 σ5 B5 H5 e5 S5 ⟨m', a5, q5⟩ => ⟨m', a5, ρ5, z5, B5, (eb.trans t1.eB).trans e5, S5, q5⟩, fun v d z5 B5 H5 e5 w5 r5 q5 => l.rt v d z5 B5 H5 ((eb.trans t1.eB).trans e5) w5 r5 q5,
      fun ρ5 z5 σ5 B5 H5 e5 S5 q5 => l.nx _ _ _ B5 H5 ((eb.trans t1.eB).trans e5) S5 q5, fun ρ5 z5 σ5 B5 H5 e5 S5 ⟨m', a5, q5⟩ => ⟨m', a5, ρ5, z5, B5, (eb.trans t1.eB).trans e5, S5, q5⟩⟩
  | false =>
    rw [if_neg Bool.false_ne_true]
    exact l.nx _ _ _ B1 H1 (eb.trans t1.eB) (S'.stepM t1 p1) (h2 rfl)

/-! ### what is walked -/
theorem xi_list (h : XE X Γ it ρ z (.lst ds) z1) : XI X Γ tg it ρ z ds.length (fun m => ds.getD m .non) z1 := fun σ B H R S q => by
  refine iOf (pi_list peS) (h σ B H _ S fun v B1 H1 t1 p1 r1 => ?_)
  cases r1 with
  | @lst a vs _ hl r =>
    refine ⟨a, rfl, ⟨vs, t1.sub.sqL hl⟩, q (Itl X.K a) B1 H1 t1 p1 (fun B2 H2 e1 e2 => ⟨vs, (e1.trans e2).sqL hl, by rw [r.len]; exact Nat.le_refl _⟩) (fun m B2 H2 hm e1 e2 => ?_) (fun m B2 H2 x H3 hm e1 e2 y => ?_)⟩
    · have hv : m < vs.length := by rw [r.len]; exact hm
      exact ⟨vs, vs[m], (e1.trans e2).sqL hl, List.getElem?_eq_getElem hv⟩
    · obtain ⟨rfl, y⟩ := y
      have hx := y vs ((e1.trans e2).sqL hl)
      obtain ⟨d, hd, rd⟩ := r.getV hx
      refine ⟨B2, .refl e2, ?_⟩
      show Rep X.K B2 x (ds.getD m .non)
      rw [getD_of hd]
      exact rd.mono e1
theorem xi_tup (h : XE X Γ it ρ z (.tup ds) z1) : XI X Γ tg it ρ z ds.length (fun m => ds.getD m .non) z1 := fun σ B H R S q => by
  refine iOf (pi_tup peS) (h σ B H _ S fun v B1 H1 t1 p1 r1 => ?_)
  cases r1 with
  | @tup a vs _ hl r =>
    refine ⟨a, rfl, ⟨vs, t1.sub.sqT hl⟩, q (Itt X.K a) B1 H1 t1 p1 (fun B2 H2 e1 e2 => ⟨vs, (e1.trans e2).sqT hl, by rw [r.len]; exact Nat.le_refl _⟩) (fun m B2 H2 hm e1 e2 => ?_) (fun m B2 H2 x H3 hm e1 e2 y => ?_)⟩
    · have hv : m < vs.length := by rw [r.len]; exact hm
      exact ⟨vs, vs[m], (e1.trans e2).sqT hl, List.getElem?_eq_getElem hv⟩
    · obtain ⟨rfl, y⟩ := y
      have hx := y vs ((e1.trans e2).sqT hl)
      obtain ⟨d, hd, rd⟩ := r.getV hx
      refine ⟨B2, .refl e2, ?_⟩
      show Rep X.K B2 x (ds.getD m .non)
      rw [getD_of hd]
      exact rd.mono e1
theorem xi_range1 {p : Pos} (C : Cxt X N sc P w K mg base k) (hg : GlS sc "range") (hm : mg "range" = none) (h : XE X Γ a ρ z (.int j) z1) (hb : -(2 ^ 62) ≤ j ∧ j < 2 ^ 62)
    (hs : starEach [a] X.env = [(false, eval a X.env)] := by rfl) : XI X Γ tg (.Call (.Name "range" p) [a] [] pos) ρ z j.toNat (fun m => .int (m : Int)) z1 := fun σ B H R S q => by
  refine iOf (pi_range1 (C.gl hg) (by rw [C.hmg]; exact hm) paS hs) (a_cons h a_nil hs σ B H _ S fun vs B1 H1 t1 p1 r1 => ?_)
  cases r1 with
  | cons r r1 =>
    cases r1
    cases r
    refine ⟨j, rfl, hb.1, hb.2, q _ B1 H1 t1 p1 (fun _ _ _ _ => Nat.le_refl _) (fun _ _ _ hm _ _ => hm) (fun m B2 H2 x H3 hm e1 e2 y => ?_)⟩
    obtain ⟨rfl, rfl⟩ := y
    refine ⟨B2, .refl e2, ?_⟩
    rw [Int.zero_add]
    exact .int _
theorem xi_range2 {p : Pos} (C : Cxt X N sc P w K mg base k) (hg : GlS sc "range") (hm : mg "range" = none) (ha : XE X Γ a ρ z (.int i) z1) (h : XE X Γ b ρ z1 (.int j) z2) (hb : (-(2 ^ 62) ≤ i ∧ i < 2 ^ 62) ∧ -(2 ^ 62) ≤ j ∧ j < 2 ^ 62)
    (hs : starEach [a, b] X.env = [(false, eval a X.env), (false, eval b X.env)] := by rfl) (hs2 : starEach [b] X.env = [(false, eval b X.env)] := by rfl) : XI X Γ tg (.Call (.Name "range" p) [a, b] [] pos) ρ z (j - i).toNat (fun m => .int (i + (m : Int))) z2 := fun σ B H R S q => by
  refine iOf (pi_range2 (C.gl hg) (by rw [C.hmg]; exact hm) paS hs hs2) (a_cons ha (a_cons h a_nil hs2) (by rw [hs, hs2]) σ B H _ S fun vs B1 H1 t1 p1 r1 => ?_)
  cases r1 with
  | cons r r1 => cases r1 with
    | cons r' r1 =>
      cases r1
      cases r
      cases r'
      refine ⟨i, j, rfl, ⟨hb.1.1, hb.1.2, hb.2.1, hb.2.2⟩, q _ B1 H1 t1 p1 (fun _ _ _ _ => Nat.le_refl _) (fun _ _ _ hm _ _ => hm) (fun m B2 H2 x H3 hm e1 e2 y => ?_)⟩
      obtain ⟨rfl, rfl⟩ := y
      exact ⟨B2, .refl e2, .int _⟩
theorem xi_enum {p : Pos} {kk : Nat} {tpos : Pos} (C : Cxt X N sc P w K mg base k) (hg : GlS sc "enumerate") (hm : mg "enumerate" = none) (h : XE X Γ a ρ z (.lst ds) z1)
    (hs : starEach [a] X.env = [(false, eval a X.env)] := by rfl) : XI X Γ (.Tuple tgs kk tpos) (.Call (.Name "enumerate" p) [a] [] pos) ρ z ds.length (fun m => .tup [.int (m : Int), ds.getD m .non]) z1 := fun σ B H R S q => by
  refine iOf (pi_enum (C.gl hg) (by rw [C.hmg]; exact hm) paS hs) (a_cons h a_nil hs σ B H _ S fun vs B1 H1 t1 p1 r1 => ?_)
  cases r1 with
  | cons r1 r0 =>
    cases r0
    cases r1 with
    | @lst a vs _ hl r =>
      refine ⟨a, vs, rfl, t1.sub.sqL hl, q (Ite X.K a) B1 H1 t1 p1 (fun B2 H2 e1 e2 => ⟨vs, (e1.trans e2).sqL hl, by rw [r.len]; exact Nat.le_refl _⟩) (fun m B2 H2 hm e1 e2 => ?_) (fun m B2 H2 x H3 hm e1 e2 y => ?_)⟩
      · have hv : m < vs.length := by rw [r.len]; exact hm
        exact ⟨vs, vs[m], (e1.trans e2).sqL hl, List.getElem?_eq_getElem hv⟩
      · obtain ⟨T, x, rfl, hT, rfl, y⟩ := y
        have hx := y vs ((e1.trans e2).sqL hl)
        obtain ⟨d, hd, rd⟩ := r.getV hx
        have st : Stp B2 H2 _ _ := .new (o := .tup [.int (m : Nat), x]) e2 hT
        refine ⟨_, st, ?_⟩
        show Rep X.K _ _ (.tup [.int (m : Int), ds.getD m .non])
        rw [getD_of hd]
        exact .tup (.of upd_same) (.cons (.int _) (.cons ((rd.mono e1).mono st.eB) .nil))
theorem xi_zip {p : Pos} {kk : Nat} {tpos : Pos} (C : Cxt X N sc P w K mg base k) (hg : GlS sc "zip") (hm : mg "zip" = none) (ha : XE X Γ a ρ z (.lst ds1) z1) (h : XE X Γ b ρ z1 (.lst ds2) z2)
    (hs : starEach [a, b] X.env = (false, eval a X.env) :: starEach [b] X.env := by rfl) (hpl : (backTo pos (starEach [b] X.env)).any (·.1) = false := by rfl) (hs2 : starEach [b] X.env = (false, eval b X.env) :: starEach [] X.env := by rfl) :
    XI X Γ (.Tuple tgs kk tpos) (.Call (.Name "zip" p) [a, b] [] pos) ρ z (min ds1.length ds2.length) (fun m => .tup [ds1.getD m .non, ds2.getD m .non]) z2 := fun σ B H R S q => by
  refine iOf (pi_zip (C.gl hg) (by rw [C.hmg]; exact hm) paS hs hpl) (a_cons ha (a_cons h a_nil hs2) hs σ B H _ S fun vs B1 H1 t1 p1 r1 => ?_)
  cases r1 with
  | cons r1 r0 => cases r0 with
    | cons r2 r0 =>
      cases r0
      cases r1 with
      | @lst a vs _ hl r => cases r2 with
        | @lst b us _ hl2 r2 =>
          refine ⟨a, b, vs, us, rfl, t1.sub.sqL hl, t1.sub.sqL hl2, q (Itz X.K a b) B1 H1 t1 p1 (fun B2 H2 e1 e2 => ⟨vs, us, (e1.trans e2).sqL hl, (e1.trans e2).sqL hl2, by rw [r.len, r2.len]; omega⟩) (fun m B2 H2 hm e1 e2 => ?_) (fun m B2 H2 x H3 hm e1 e2 y => ?_)⟩
          · have hv : m < vs.length := by rw [r.len]; omega
            have hu : m < us.length := by rw [r2.len]; omega
            exact ⟨vs, us, vs[m], us[m], (e1.trans e2).sqL hl, (e1.trans e2).sqL hl2, List.getElem?_eq_getElem hv, List.getElem?_eq_getElem hu⟩
          · obtain ⟨T, x, y', rfl, hT, rfl, y1, y2⟩ := y
            obtain ⟨d, hd, rd⟩ := r.getV (y1 vs ((e1.trans e2).sqL hl))
            obtain ⟨d', hd', rd'⟩ := r2.getV (y2 us ((e1.trans e2).sqL hl2))
            have st : Stp B2 H2 _ _ := .new (o := .tup [x, y']) e2 hT
            refine ⟨_, st, ?_⟩
            show Rep X.K _ _ (.tup [ds1.getD m .non, ds2.getD m .non])
            rw [getD_of hd, getD_of hd']
            exact .tup (.of upd_same) (.cons ((rd.mono e1).mono st.eB) (.cons ((rd'.mono e1).mono st.eB) .nil))
end
end DL

namespace DL
open PySem PySem.Spec PyProof.Rows L2

/-! ### comprehensions -/
theorem wipe_get (σ : L2.St) : ∀ (vs : List Nat) (i : Nat), (wipe σ vs)[i]? = if i ∈ vs ∧ i < σ.length then some none else σ[i]?
  | [], i => by simp [wipe]
  | v :: vs, i => by
    show ((wipe σ vs).set v none)[i]? = _
    by_cases h : v = i
    · subst h
      by_cases hl : v < σ.length
      · rw [List.getElem?_set_self (by rw [wipe_length]; exact hl), if_pos ⟨List.mem_cons_self, hl⟩]
      · rw [if_neg (fun q => hl q.2), List.getElem?_eq_none (by simp [wipe_length]; omega), List.getElem?_eq_none (by omega)]
    · rw [List.getElem?_set_ne h, wipe_get σ vs i]
      have : (i ∈ v :: vs ∧ i < σ.length) ↔ (i ∈ vs ∧ i < σ.length) := by
        rw [List.mem_cons]
        exact ⟨fun ⟨a, b⟩ => ⟨a.resolve_left (fun q => h q.symm), b⟩, fun ⟨a, b⟩ => ⟨.inr a, b⟩⟩
      simp only [this]
theorem wipe_sets {σ σ' : L2.St} {ns vs : List Nat} (h : Sets ns (wipe σ vs) σ') (hs : ∀ n ∈ ns, n ∈ vs) : wipe σ' vs = wipe σ vs := by
  have hl : σ'.length = σ.length := by rw [h.1, wipe_length]
  apply List.ext_getElem?
  intro i
  rw [wipe_get, wipe_get, hl]
  by_cases q : i ∈ vs ∧ i < σ.length
  · rw [if_pos q, if_pos q]
  · rw [if_neg q, if_neg q]
    by_cases hi : i ∈ ns
    · have : ¬ i < σ.length := fun z => q ⟨hs i hi, z⟩
      rw [List.getElem?_eq_none (by omega), List.getElem?_eq_none (by omega)]
    · rw [h.2 i hi, wipe_get, if_neg q]
def wipeE (ρ : En) : List Nat → En
  | [] => ρ
  | v :: vs => (wipeE ρ vs).set v .no
theorem wipeE_length (ρ : En) : ∀ vs, (wipeE ρ vs).length = ρ.length
  | [] => rfl
  | v :: vs => by unfold wipeE; rw [List.length_set, wipeE_length ρ vs]
theorem wipeE_get {ρ : En} : ∀ {vs : List Nat} {i : Nat} {x : Sl}, (wipeE ρ vs)[i]? = some x → x = .no ∨ (ρ[i]? = some x ∧ i ∉ vs)
  | [], i, x, h => .inr ⟨h, by simp⟩
  | v :: vs, i, x, h => by
    have h : ((wipeE ρ vs).set v .no)[i]? = some x := h
    by_cases q : v = i
    · subst q
      have hl : v < (wipeE ρ vs).length := by have := lt_of_get? h; simpa using this
      rw [List.getElem?_set_self hl] at h
      cases h
      exact .inl rfl
    · rw [List.getElem?_set_ne q] at h
      rcases wipeE_get h with h | ⟨h1, h2⟩
      · exact .inl h
      · exact .inr ⟨h1, by rw [List.mem_cons]; exact fun z => z.elim (fun z => q z.symm) h2⟩
theorem Sat.wipe {K : PySem.W.Frag} {Γ : G} {ρ : En} {z : Γ.Z} {σ : L2.St} {B H : Hp} (S : Sat K Γ ρ z σ B H) (vs : List Nat) : Sat K Γ (wipeE ρ vs) z (L2.wipe σ vs) B H :=
  S.weak (by rw [wipe_length, wipeE_length, S.len]) fun i x h => (wipeE_get h).imp id fun ⟨h1, h2⟩ => ⟨h1, by rw [wipe_get, if_neg (fun q => h2 q.1)]⟩

section
variable (X : Cx) (Γ : G)
def semTs (ifs : List Expr) : TT := fun σ H Q => ∀ pins s, Inv X pins σ H s →
    wpAny (model X.prog X.w) X.A (forIn ifs true fun c r => if r = true then do let ok ← isTrue c X.env (eval c X.env); pure (ForInStep.yield ok) else pure (ForInStep.yield r)) (TP X pins σ Q) X.xe s
theorem ptsS {X : Cx} {ifs : List Expr} : PTs X ifs (semTs X ifs) := ⟨fun pins s σ H Q I h => h pins s I⟩
def XTs (ifs : List Expr) (ρ : En) (z : Γ.Z) (b : Bool) (z' : Γ.Z) : Prop := ∀ (σ : L2.St) (B H : Hp) (Q : Bool → Hp → Prop), Sat X.K Γ ρ z σ B H →
  (∀ B' H', StpM Γ.M B H B' H' → Γ.zp z' B' H' → Q b H') → semTs X ifs σ H Q
end
section
variable {X : Cx} {Γ : G} {N : List Str} {sc : Scope} {P : Program} {w : World} {K : PySem.W.Frag} {mg : Str → Option Value} {base : Heap} {k : Nat}
variable {e a b c tg it elt iter : Expr} {es tgs ifs : List Expr} {st : Stmt} {sts body : List Stmt} {ρ ρ' ρ1 ρ2 : En} {z z1 z2 z3 : Γ.Z} {d d1 d2 d3 : D} {ds ds1 ds2 : List D} {pos : Pos} {i j : Int} {Po : Post Γ} {t : Bool}
theorem ts_nil : XTs X Γ [] ρ z true z := fun σ B H Q S q pins s I => (pts_nil).run pins s σ H Q I (q B H (.refl S.wf.sub) S.wf.z)
theorem ts_one (h : XT X Γ c ρ z t z1) : XTs X Γ [c] ρ z t z1 := fun σ B H Q S q pins s I => (pts_one ptS).run pins s σ H Q I (h σ B H Q S q)

/-- the block of a comprehension -/
theorem Cxt.blk (C : Cxt X N sc P w K mg base k) {s : Shared} {H : Hp} {scope : Scope} {cl : List (Str × Addr)} {Ca : Addr} {fp : List Addr} :
    Cxt (X.blk s H scope (compEnvC scope cl Ca X.env) fp) N (relS scope sc) P w K mg base k where
  hP := C.hP
  hw := C.hw
  hK := C.hK
  hmg := C.hmg
  hb := C.hb
  hN := C.hN
  hsc := by
    show relabel scope X.env = _
    rw [← C.hsc]
    rfl
  calm := C.calm
  nd := C.nd
  pass := PassesOwn.never
  room := C.room
/-- what a comprehension's turn does: in every block -/
structure LcStep (N : List Str) (sc : Scope) (P : Program) (w : World) (K : PySem.W.Frag) (mg : Str → Option Value) (base : Heap) (k : Nat) (Γ : G) (tg elt : Expr) (ifs : List Expr) (vs : List Nat) (ρ : En) (d : D) (z z' : Γ.Z) (A A' : List D) : Prop where
  ex : ∃ (ns : List Nat) (ρ2 : En) (t : Bool) (zt : Γ.Z) (y : D), (∀ n ∈ ns, n ∈ vs) ∧ (∀ Xb : Cx, Cxt Xb N sc P w K mg base k → XG Xb Γ tg ns d (wipeE ρ vs) ρ2 ∧ XTs Xb Γ ifs ρ2 z t zt ∧ (t = true → XE Xb Γ elt ρ2 zt y z')) ∧
    (t = true → A' = A ++ [y]) ∧ (t = false → A' = A ∧ z' = zt)
theorem lcStep {ns vs : List Nat} {z' : Γ.Z} {A : List D} {y : D} (hn : ∀ n ∈ ns, n ∈ vs) (h : ∀ Xb : Cx, Cxt Xb N sc P w K mg base k → XG Xb Γ tg ns d (wipeE ρ vs) ρ2 ∧ XE Xb Γ elt ρ2 z y z') :
    LcStep N sc P w K mg base k Γ tg elt [] vs ρ d z z' A (A ++ [y]) := ⟨ns, ρ2, true, z, y, hn, fun Xb C => ⟨(h Xb C).1, ts_nil, fun _ => (h Xb C).2⟩, fun _ => rfl, fun q => nomatch q⟩
theorem lcStepIf {ns vs : List Nat} {z' zt : Γ.Z} {A : List D} {y : D} (hn : ∀ n ∈ ns, n ∈ vs) (h : ∀ Xb : Cx, Cxt Xb N sc P w K mg base k → XG Xb Γ tg ns d (wipeE ρ vs) ρ2 ∧ XT Xb Γ c ρ2 z t zt ∧ (t = true → XE Xb Γ elt ρ2 zt y z')) (h0 : t = false → z' = zt) :
    LcStep N sc P w K mg base k Γ tg elt [c] vs ρ d z z' A (if t = true then A ++ [y] else A) := ⟨ns, ρ2, t, zt, y, hn, fun Xb C => ⟨(h Xb C).1, ts_one (h Xb C).2.1, (h Xb C).2.2⟩, fun q => by rw [if_pos q], fun q => ⟨by rw [if_neg (by rw [q]; decide)], h0 q⟩⟩

theorem lc_read {scope : Scope} {own : List (Str × Nat)} {n : Nat} {item : Nat → D} {pos : Pos} (C : Cxt X N sc P w K mg base k) (hi : XI X Γ tg iter ρ z n item z1) (A : Nat → List D) (zs : Nat → Γ.Z) (hA : A 0 = []) (hz : zs 0 = z1)
    (step : ∀ m, m < n → LcStep N (relS scope sc) P w K mg base k Γ tg elt ifs (own.map (·.2)) ρ (item m) (zs m) (zs (m + 1)) (A m) (A (m + 1))) (hlen : ∀ m, m < n → (A m).length < sizeLine)
    (σ : L2.St) (B H : Hp) (Q : VK) (S : Sat X.K Γ ρ z σ B H)
    (q : ∀ p vs B' H', StpM Γ.M B H B' H' → Γ.zp (zs n) B' H' → H p = none → B' p = none → H' p = some (.lst vs) → RepAll X.K B' vs (A n) → Q (.ref p) H') :
    tLc (semI X tg iter) (fun v σ H Q => ∀ s H0 Ca cl fp, semG (X.blk s H0 scope (compEnvC scope cl Ca X.env) fp) tg v σ H Q) (fun σ H Q => ∀ s H0 Ca cl fp, semTs (X.blk s H0 scope (compEnvC scope cl Ca X.env) fp) ifs σ H Q)
      (fun σ H Q => ∀ s H0 Ca cl fp, semE (X.blk s H0 scope (compEnvC scope cl Ca X.env) fp) elt σ H Q) (own.map (·.2)) σ H Q := by
  refine hi σ B H _ S fun J B1 H1 t1 p1 hstop hgo hyld => fun D hD => ?_
  have S1 := S.stepM t1 p1
  have nM : ¬ Γ.M D := fun m => (Γ.znb _ _ _ p1 D m).2 hD
  have h0 : H D = none := by
    cases q : H D with
    | none => rfl
    | some u => exact absurd hD (t1.eM D (some_ne q))
  have hb1 : B1 D = none := by
    cases q : B1 D with
    | none => rfl
    | some u => rw [t1.sub D u q] at hD; cases hD
  refine ⟨fun i m H' => m = n - i ∧ i ≤ n ∧ ∃ B' vs, StpM Γ.M B1 H1 B' H' ∧ Γ.zp (zs i) B' H' ∧ B' D = none ∧ H' D = some (.lst vs) ∧ RepAll X.K B' vs (A i), ⟨n, by simp, Nat.zero_le _, B1, [], .of (.newO t1.sub hD), by rw [hz]; exact S1.zp (.newO t1.sub hD), hb1, upd_same, by rw [hA]; exact .nil⟩, ?_⟩
  rintro i m H' ⟨rfl, hin, B', vs, t2, p2, hb, hh, r⟩
  by_cases hlt : i < n
  · refine .inr ⟨hgo i B' H' hlt t2.eB t2.sub, fun H2 => ∃ B' vs, StpM Γ.M B1 H1 B' H2 ∧ Γ.zp (zs (i + 1)) B' H2 ∧ B' D = none ∧ H2 D = some (.lst vs) ∧ RepAll X.K B' vs (A (i + 1)), fun H2 q => ⟨n - (i + 1), by omega, rfl, hlt, q⟩, fun x H2 y => ?_⟩
    obtain ⟨B3, t3, r3⟩ := hyld i B' H' x H2 hlt t2.eB t2.sub y
    have S3 : Sat X.K Γ ρ (zs i) σ B3 H2 := (S1.stepM t2 p2).step t3
    have hh2 : H2 D = some (.lst vs) := t3.eH D _ hh
    have hb3 : B3 D = none := (t3.fr D (some_ne hh)).trans hb
    obtain ⟨ns, ρ2, t, zt, yd, hns, hx, ht, hf⟩ := (step i hlt).ex
    intro s H0 Ca cl fp
    have hx0 := hx _ (C.blk (s := s) (H := H0) (scope := scope) (cl := cl) (Ca := Ca) (fp := fp))
    refine hx0.1 (zs i) _ B3 H2 x _ (S3.wipe _) r3 fun σ2 S2 w2 => ⟨wipe_sets w2 hns, ?_⟩
    intro s H0 Ca cl fp
    have hx1 := hx _ (C.blk (s := s) (H := H0) (scope := scope) (cl := cl) (Ca := Ca) (fp := fp))
    refine hx1.2.1 σ2 B3 H2 _ S2 fun B4 H4 t4 p4 => ?_
    have hh4 : H4 D = some (.lst vs) := t4.eH D _ nM hh2
    have hb4 : B4 D = none := (t4.fr D (some_ne hh2)).trans hb3
    cases t with
    | false =>
      rw [if_neg Bool.false_ne_true]
      obtain ⟨e1, e2⟩ := hf rfl
      refine ⟨B4, vs, (t2.trans (.of t3)).trans t4, by rw [e2]; exact p4, hb4, hh4, ?_⟩
      rw [e1]
      exact (r.mono t3.eB).mono t4.eB
    | true =>
      rw [if_pos rfl]
      intro s H0 Ca cl fp
      have hx2 := hx _ (C.blk (s := s) (H := H0) (scope := scope) (cl := cl) (Ca := Ca) (fp := fp))
      refine hx2.2.2 rfl σ2 B4 H4 _ (S2.stepM t4 p4) fun y B5 H5 t5 p5 r5 => ?_
      have hh5 : H5 D = some (.lst vs) := t5.eH D _ nM hh4
      have hb5 : B5 D = none := (t5.fr D (some_ne hh4)).trans hb4
      have tt : StpM Γ.M B1 H1 B5 H5 := ((t2.trans (.of t3)).trans t4).trans t5
      refine ⟨vs, hh5, by rw [r.len]; exact hlen i hlt, B5, vs ++ [y], ⟨tt.eB, fun a o m h => ?_, fun a h => ?_, fun a o h => ?_, tt.fr⟩, ?_, hb5, upd_same, ?_⟩
      · rw [upd_ne (fun q : a = D => by rw [q, hD] at h; cases h)]
        exact tt.eH a o m h
      · rw [upd_ne (fun q : a = D => h (by rw [q]; exact hD))]
        exact tt.eM a h
      · rw [upd_ne (fun q : a = D => by rw [q, hb5] at h; cases h)]
        exact tt.sub a o h
      · exact Γ.zfr _ _ _ _ _ p5 (Ex.refl _) (fun a m => upd_ne (fun q : a = D => nM (by rw [← q]; exact m))) fun a m => (Γ.znb _ _ _ p5 a m).1
      · rw [ht rfl]
        exact (((r.mono t3.eB).mono t4.eB).mono t5.eB).app (.cons r5 .nil)
  · have e : i = n := by omega
    subst e
    exact .inl ⟨hstop B' H' t2.eB t2.sub, q D vs B' H' (t1.trans t2) p2 h0 hb hh r⟩
theorem l_lc {scope : Scope} (own : List (Str × Nat)) {n : Nat} {item : Nat → D} (C : Cxt X N sc P w K mg base k) (hok : blkC N sc scope own = true) (hi : XI X Γ tg iter ρ z n item z1) (A : Nat → List D) (zs : Nat → Γ.Z) (hA : A 0 = []) (hz : zs 0 = z1)
    (step : ∀ m, m < n → LcStep N (relS scope sc) P w K mg base k Γ tg elt ifs (own.map (·.2)) ρ (item m) (zs m) (zs (m + 1)) (A m) (A (m + 1))) (hlen : ∀ m, m < n → (A m).length < sizeLine)
    (hs : ∀ x, foldedSetIterable iter X.env x = pure x := by intro _; rfl) : XL X Γ (.ListComp elt [⟨tg, iter, ifs, 0⟩] scope pos) ρ z (A n) (zs n) := fun σ B H Q S q =>
  eOf (pe_lc (own := own) C.calm (by rw [C.hN]; exact C.nd) piS (blkOk_by (by rw [C.hN, C.hsc]; exact hok)) (fun s H Ca cl fp => ⟨fun pins s σ H v u Q I r h => h _ _ _ _ _ pins s u I r⟩) (fun s H Ca cl fp => ⟨fun pins s σ H Q I h => h _ _ _ _ _ pins s I⟩)
    (fun s H Ca cl fp => ⟨fun pins s σ H Q I h => h _ _ _ _ _ pins s I⟩) hs) (lc_read (pos := pos) C hi A zs hA hz step hlen σ B H Q S q)
theorem xs_setLc {scope : Scope} (o : Nat) (own : List (Str × Nat)) {n : Nat} {item : Nat → D} {y : Str} {py spos : Pos} (C : Cxd X N sc P w K mg base k) (hy : N[o]? = some y) (hyl : sc.names.lookup y = some .local) (hok : blkC N sc scope own = true) (hi : XI X Γ tg iter ρ z n item z1) (A : Nat → List D) (zs : Nat → Γ.Z) (hA : A 0 = []) (hz : zs 0 = z1)
    (step : ∀ m, m < n → LcStep N (relS scope sc) P w K mg base k Γ tg elt ifs (own.map (·.2)) ρ (item m) (zs m) (zs (m + 1)) (A m) (A (m + 1))) (hlen : ∀ m, m < n → (A m).length < sizeLine) (q : Po.nx (ρ.set o (.own (A n))) (zs n))
    (hk : sc.kind = .function := by rfl) (hl : (py.line == pos.line) = true := by rfl) (ha : (scope.names.any fun (n, k) => n == y && (k == .local || k == .cell)) = false := by rfl)
    (hs : ∀ x, foldedSetIterable iter X.env x = pure x := by intro _; rfl) : XS X Γ (.Assign [.Name y py] (.ListComp elt [⟨tg, iter, ifs, 0⟩] scope pos) spos) ρ z Po := fun σ B H E S l => by
  refine sOf (ps_setLc (i := o) (own := own) C.calm (by rw [C.hN]; exact C.nd) (by rw [C.hN]; exact hy) (by rw [C.hsc]; exact hyl) ?hsw piS (blkOk_by (by rw [C.hN, C.hsc]; exact hok)) (fun s H Ca cl fp => ⟨fun pins s σ H v u Q I r h => h _ _ _ _ _ pins s u I r⟩) (fun s H Ca cl fp => ⟨fun pins s σ H Q I h => h _ _ _ _ _ pins s I⟩)
    (fun s H Ca cl fp => ⟨fun pins s σ H Q I h => h _ _ _ _ _ pins s I⟩) hs) (lc_read (pos := pos) C.toCxt hi A zs hA hz step hlen σ B H _ S fun p vs B1 H1 t1 p1 h0 hb hp r => ?_)
  case hsw => exact sw_true (by rw [C.hsc]; exact hk) (by rw [C.hsc]; exact hyl) hl ha
  exact l.nx _ _ _ B1 H1 t1.eB ((S.stepM t1 p1).setOwn o (S.h0 h0) hb hp r (fun j es hj => S.fresh h0 j es hj)) q
end
end DL

namespace DL
open PySem PySem.Spec PyProof.Rows L2

/-! ### defs and their promises -/
/-- a def of data: to arguments ds it answers d, where f ds d -/
def spD (K : PySem.W.Frag) (n : Nat) (f : List D → D → Prop) : Sp := fun vs H Q _ => vs.length = n ∧ ∃ ds d B, f ds d ∧ Ex B H ∧ RepAll K B vs ds ∧ ∀ v B' H', Stp B H B' H' → Rep K B' v d → Q v H'
def gD (B H : Hp) : G where
  B0 := B
  H0 := H
  M := fun _ => False
  Z := Unit
  zp := fun _ _ _ => True
  hd := fun _ => .non
  zfr := fun _ _ _ _ _ _ _ _ _ => trivial
  znb := fun _ _ _ _ _ h => h.elim
  m0 := fun _ h => h.elim
/-- the law's state: a list of the cells left, and a seed -/
def StP (sa sc : Addr) (z : List Int × Int) (B H : Hp) : Prop := sa ≠ sc ∧ B sa = none ∧ B sc = none ∧ H sa = some (.lst [.ref sc, .int z.2]) ∧ H sc = some (.lst (z.1.map V.int))
def gZ (sa sc : Addr) (B H : Hp) (h : H sa ≠ none ∧ H sc ≠ none) : G where
  B0 := B
  H0 := H
  M := fun a => a = sa ∨ a = sc
  Z := List Int × Int
  zp := StP sa sc
  hd := fun _ => .ref sa
  zfr := fun z B H B' H' h e m b => ⟨h.1, b sa (.inl rfl), b sc (.inr rfl), (m sa (.inl rfl)).trans h.2.2.2.1, (m sc (.inr rfl)).trans h.2.2.2.2⟩
  znb := fun z B H h a m => by
    rcases m with rfl | rfl
    · exact ⟨h.2.1, some_ne h.2.2.2.1⟩
    · exact ⟨h.2.2.1, some_ne h.2.2.2.2⟩
  m0 := fun a m => by
    rcases m with rfl | rfl
    · exact h.1
    · exact h.2
/-- a def that is handed the state first, and may change it -/
def spZ (K : PySem.W.Frag) (n : Nat) (f : List D → List Int × Int → D → List Int × Int → Prop) : Sp := fun vs H Q _ => vs.length = n + 1 ∧ ∃ sa sc vs' ds z d z' B, vs = .ref sa :: vs' ∧ f ds z d z' ∧ Ex B H ∧ StP sa sc z B H ∧ RepAll K B vs' ds ∧
  ∀ v B' H', StpM (fun a => a = sa ∨ a = sc) B H B' H' → StP sa sc z' B' H' → Rep K B' v d → Q v H'

/-- a def of the module, called by its name -/
def Fnc (P : Program) (w : World) (K : PySem.W.Frag) (mg : Str → Option Value) (base : Heap) (x : Str) (j : Nat) (sp : Sp) : Prop :=
  ∃ fA fd ps, FnOk P w K mg base CX0 j fA fd ps sp ∧ mg x = some (.ref fA) ∧ PySem.W.keepIn K (.ref fA) = true ∧ Binds K fd ps []

section
variable {P : Program} {w : World} {K : PySem.W.Frag} {mg : Str → Option Value} {base : Heap}
/-- the environment at the entry -/
def envD (n : Nat) (ds : List D) : En := ds.map .dat ++ List.replicate (n - ds.length) .no
def envZ (n : Nat) (ds : List D) : En := .hdl 0 :: (ds.map .dat ++ List.replicate (n - (ds.length + 1)) .no)
theorem start_get {N : List Str} {vs : List V} {i : Nat} {v : V} (h : vs[i]? = some v) : (L2.start N vs)[i]? = some (some v) := by
  have hi := lt_of_get? h
  unfold L2.start
  rw [List.getElem?_append_left (by simpa using hi), List.getElem?_map, h]
  rfl
theorem start_len {N : List Str} {vs : List V} (h : vs.length ≤ N.length) : (L2.start N vs).length = N.length := by
  unfold L2.start
  simp
  omega
theorem sat_start {Γ : G} {z : Γ.Z} {B H : Hp} {vs : List V} {ds : List D} {N : List Str} (w : Wf Γ z B H) (r : RepAll K B vs ds) (hl : ds.length ≤ N.length) : Sat K Γ (envD N.length ds) z (L2.start N vs) B H := by
  refine ⟨w, ?_, fun i s h => ?_, fun i j es fs a _ hi _ _ => ?_⟩
  · rw [start_len (by rw [r.len]; exact hl)]
    unfold envD
    simp
    omega
  · unfold envD at h
    by_cases hi : i < ds.length
    · rw [List.getElem?_append_left (by simpa using hi), List.getElem?_map] at h
      rw [List.getElem?_eq_getElem hi] at h
      cases h
      obtain ⟨v, hv, rv⟩ := r.get (List.getElem?_eq_getElem hi)
      exact ⟨some v, start_get hv, v, rfl, rv⟩
    · rw [List.getElem?_append_right (by simpa using hi), List.getElem?_replicate] at h
      split at h
      · cases h
        refine ⟨none, ?_, trivial⟩
        have hv : vs.length = ds.length := r.len
        unfold L2.start
        rw [List.getElem?_append_right (by simp; omega), List.getElem?_replicate]
        simp at *
        omega
      · cases h
  · unfold envD at hi
    by_cases q : i < ds.length
    · rw [List.getElem?_append_left (by simpa using q), List.getElem?_map, List.getElem?_eq_getElem q] at hi
      cases hi
    · rw [List.getElem?_append_right (by simpa using q), List.getElem?_replicate] at hi
      split at hi <;> cases hi
theorem sat_startZ {sa sc : Addr} {B0 H0 : Hp} {h : H0 sa ≠ none ∧ H0 sc ≠ none} {z : List Int × Int} {B H : Hp} {vs : List V} {ds : List D} {N : List Str} (w : Wf (gZ sa sc B0 H0 h) z B H) (r : RepAll K B vs ds) (hl : ds.length + 1 ≤ N.length) :
    Sat K (gZ sa sc B0 H0 h) (envZ N.length ds) z (L2.start N (.ref sa :: vs)) B H := by
  have hv : vs.length = ds.length := r.len
  refine ⟨w, ?_, fun i s h => ?_, fun i j es fs a _ hi _ _ => ?_⟩
  · rw [start_len (by simp; omega)]
    unfold envZ
    simp
    omega
  · cases i with
    | zero =>
      cases h
      exact ⟨some (.ref sa), rfl, rfl⟩
    | succ i =>
      have h : (ds.map Sl.dat ++ List.replicate (N.length - (ds.length + 1)) Sl.no)[i]? = some s := h
      by_cases hi : i < ds.length
      · rw [List.getElem?_append_left (by simpa using hi), List.getElem?_map, List.getElem?_eq_getElem hi] at h
        cases h
        obtain ⟨v, hv, rv⟩ := r.get (List.getElem?_eq_getElem hi)
        exact ⟨some v, start_get (by simpa using hv), v, rfl, rv⟩
      · rw [List.getElem?_append_right (by simpa using hi), List.getElem?_replicate] at h
        split at h
        · cases h
          refine ⟨none, ?_, trivial⟩
          unfold L2.start
          rw [List.getElem?_append_right (by simp; omega), List.getElem?_replicate]
          simp at *
          omega
        · cases h
  · cases i with
    | zero => cases hi
    | succ i =>
      have hi : (ds.map Sl.dat ++ List.replicate (N.length - (ds.length + 1)) Sl.no)[i]? = some (.own es) := hi
      by_cases q : i < ds.length
      · rw [List.getElem?_append_left (by simpa using q), List.getElem?_map, List.getElem?_eq_getElem q] at hi
        cases hi
      · rw [List.getElem?_append_right (by simpa using q), List.getElem?_replicate] at hi
        split at hi <;> cases hi

variable {x qual : Str} {st : Stmt} {f : Addr} {fd : FuncData} {N ps : List Str} {k n : Nat}
theorem cxd_of {A : Around} {outer : List Env} {s : Shared} {H : Hp} {E : XK} {cdv : Value} {sc : Scope} (hnd : N.Nodup) (hr : Room k (A.deeper (envOfC qual sc s.heap.objs.size f cdv))) :
    Cxd (cxOf CX0 P w K mg base N qual sc f cdv A outer s H E).nox N sc P w K mg base k where
  hP := rfl
  hw := rfl
  hK := rfl
  hmg := rfl
  hb := rfl
  hN := rfl
  hsc := rfl
  calm := rfl
  nd := hnd
  pass := PassesOwn.never
  room := hr
  fn := fun _ => rfl
/-- a def of data -/
theorem fn_D {fr : List D → D → Prop} (F : Fun K x qual st f fd) (S : FnScope N ps (defScope st)) (hn : ps.length = n)
    (body : ∀ (X : Cx), Cxd X N (defScope st) P w K mg base k → ∀ (B0 H0 : Hp) (ds : List D) (d : D), ds.length = n → fr ds d → XSs X (gD B0 H0) (defBody st) (envD N.length ds) () { nx := fun _ _ => d = .non, rt := fun d' _ => d' = d }) :
    FnOk P w K mg base CX0 (k + 1) f fd ps (spD K n fr) := by
  refine F.ok S (fun vs H Q E h => h.1.trans hn.symm) (fun cdv A outer s H vs Q E hr h => ?_)
  obtain ⟨hl, ds, d, B, hf, e, r, q⟩ := h
  have hpl : ps.length ≤ N.length := by have := congrArg List.length S.pre; rw [List.length_take] at this; omega
  have hds : ds.length = n := by rw [← r.len]; exact hl
  refine ⟨_, pssS, ?_⟩
  refine body _ (cxd_of S.nd hr) B H ds d hds hf (L2.start N vs) B H _ (sat_start ⟨e, Ex.refl _, fun _ _ _ h => h, fun _ h => h, fun _ _ => rfl, trivial⟩ r (by omega)) ⟨fun ρ z σ B' H' _ S' e' => ?_, fun v d' z B' H' _ w' r' e' => ?_, fun _ _ _ _ _ _ _ h => h.elim, fun _ _ _ _ _ _ _ h => h.elim⟩
  · have st : Stp B H B' H' := ⟨S'.wf.eB, fun a o h => S'.wf.eH a o (fun z => z) h, S'.wf.sub, S'.wf.fr⟩
    exact q _ B' H' st (by rw [e']; exact .non)
  · have st : Stp B H B' H' := ⟨w'.eB, fun a o h => w'.eH a o (fun z => z) h, w'.sub, w'.fr⟩
    exact q _ B' H' st (by rw [← e']; exact r')
/-- a def that is handed the state -/
theorem fn_Z {fr : List D → List Int × Int → D → List Int × Int → Prop} (F : Fun K x qual st f fd) (S : FnScope N ps (defScope st)) (hn : ps.length = n + 1)
    (body : ∀ (X : Cx), Cxd X N (defScope st) P w K mg base k → ∀ (sa sc : Addr) (B0 H0 : Hp) (h : H0 sa ≠ none ∧ H0 sc ≠ none) (ds : List D) (z : List Int × Int) (d : D) (z' : List Int × Int), ds.length = n → fr ds z d z' →
      XSs X (gZ sa sc B0 H0 h) (defBody st) (envZ N.length ds) z { nx := fun _ z1 => d = .non ∧ z1 = z', rt := fun d' z1 => d' = d ∧ z1 = z' }) :
    FnOk P w K mg base CX0 (k + 1) f fd ps (spZ K n fr) := by
  refine F.ok S (fun vs H Q E h => h.1.trans hn.symm) (fun cdv A outer s H vs Q E hr h => ?_)
  obtain ⟨hl, sa, sc, vs', ds, z, d, z', B, rfl, hf, e, hz, r, q⟩ := h
  have hpl : ps.length ≤ N.length := by have := congrArg List.length S.pre; rw [List.length_take] at this; omega
  have hds : ds.length = n := by rw [← r.len]; simpa using hl
  have h0 : H sa ≠ none ∧ H sc ≠ none := ⟨some_ne hz.2.2.2.1, some_ne hz.2.2.2.2⟩
  refine ⟨_, pssS, ?_⟩
  refine body _ (cxd_of S.nd hr) sa sc B H h0 ds z d z' hds hf (L2.start N _) B H _ (sat_startZ ⟨e, Ex.refl _, fun _ _ _ h => h, fun _ h => h, fun _ _ => rfl, hz⟩ r (by omega)) ⟨fun ρ z1 σ B' H' _ S' e' => ?_, fun v d' z1 B' H' _ w' r' e' => ?_, fun _ _ _ _ _ _ _ h => h.elim, fun _ _ _ _ _ _ _ h => h.elim⟩
  · obtain ⟨e1, e2⟩ := e'
    have st : StpM (fun a => a = sa ∨ a = sc) B H B' H' := ⟨S'.wf.eB, S'.wf.eH, S'.wf.eM, S'.wf.sub, S'.wf.fr⟩
    subst e2
    exact q _ B' H' st S'.wf.z (by rw [e1]; exact .non)
  · obtain ⟨e1, e2⟩ := e'
    have st : StpM (fun a => a = sa ∨ a = sc) B H B' H' := ⟨w'.eB, w'.eH, w'.eM, w'.sub, w'.fr⟩
    subst e2
    exact q _ B' H' st w'.z (by rw [← e1]; exact r')
theorem fnc {sp : Sp} {j : Nat} (h : FnOk P w K mg base CX0 j f fd ps sp) (g : mg x = some (.ref f)) (F : Fun K x qual st f fd) (b : Binds K fd ps []) : Fnc P w K mg base x j sp := ⟨f, fd, ps, h, g, F.kp, b⟩
end

section
variable {X : Cx} {Γ : G} {N : List Str} {sc : Scope} {P : Program} {w : World} {K : PySem.W.Frag} {mg : Str → Option Value} {base : Heap} {k : Nat}
variable {e a b c : Expr} {es : List Expr} {ρ : En} {z z1 z2 : Γ.Z} {d : D} {ds : List D} {pos p : Pos} {i j : Int} {x : Str}
theorem x_call {n jl : Nat} {f : List D → D → Prop} (F : Fnc P w K mg base x jl (spD K n f)) (C : Cxt X N sc P w K mg base k) (hg : GlS sc x) (ha : XA X Γ (e :: es) ρ z ds z1) (hf : f ds d) (hn : ds.length = n := by rfl) (hj : jl ≤ k := by decide)
    (hdb : (x == ("__debug__" : Str)) = false := by decide) (he : starEach (e :: es) X.env = (false, eval e X.env) :: starEach es X.env := by rfl) (hpl : (backTo pos (starEach es X.env)).any (·.1) = false := by rfl) :
    XE X Γ (.Call (.Name x p) (e :: es) [] pos) ρ z d z1 := fun σ B H Q S q => by
  obtain ⟨fA, fd, ps, ok, hm, hk, hb⟩ := F
  have C' := C
  obtain ⟨hP, hw, hK, hmg, hbs, _, _, _, _, _, room⟩ := C'
  subst hP hw hK hmg hbs
  refine eOf (pe_call (ok.mono hj) room (C.gl hg) hm hk hb .nil pass0 paS hdb he hpl) (ha σ B H _ S fun vs B1 H1 t1 p1 r1 => ?_)
  have r2 : RepAll X.K B1 (vs ++ []) ds := by rw [List.append_nil]; exact r1
  exact ⟨by rw [r2.len]; exact hn, ds, d, B1, hf, t1.sub, r2, fun v B2 H2 t2 r3 => q v B2 H2 (t1.trans (.of t2)) ((S.stepM t1 p1).zp t2) r3⟩
theorem x_callZ {n jl : Nat} {sa sb : Addr} {B0 H0 : Hp} {h0 : H0 sa ≠ none ∧ H0 sb ≠ none} {z z1 z2 : List Int × Int} {f : List D → List Int × Int → D → List Int × Int → Prop} (F : Fnc P w K mg base x jl (spZ K n f)) (C : Cxt X N sc P w K mg base k) (hg : GlS sc x)
    (ha : XA X (gZ sa sb B0 H0 h0) (e :: es) ρ z (.raw (.ref sa) :: ds) z1) (hf : f ds z1 d z2) (hn : ds.length = n := by rfl) (hj : jl ≤ k := by decide)
    (hdb : (x == ("__debug__" : Str)) = false := by decide) (he : starEach (e :: es) X.env = (false, eval e X.env) :: starEach es X.env := by rfl) (hpl : (backTo pos (starEach es X.env)).any (·.1) = false := by rfl) :
    XE X (gZ sa sb B0 H0 h0) (.Call (.Name x p) (e :: es) [] pos) ρ z d z2 := fun σ B H Q S q => by
  obtain ⟨fA, fd, ps, ok, hm, hk, hb⟩ := F
  have C' := C
  obtain ⟨hP, hw, hK, hmg, hbs, _, _, _, _, _, room⟩ := C'
  subst hP hw hK hmg hbs
  refine eOf (pe_call (ok.mono hj) room (C.gl hg) hm hk hb .nil pass0 paS hdb he hpl) (ha σ B H _ S fun vs B1 H1 t1 p1 r1 => ?_)
  cases r1 with
  | @cons v0 vs _ _ r0 r1 =>
    cases r0
    have hl : (V.ref sa :: vs ++ []).length = n + 1 := by rw [List.append_nil, List.length_cons, r1.len, hn]
    exact ⟨hl, sa, sb, vs, ds, z1, d, z2, B1, by rw [List.append_nil], hf, t1.sub, p1, r1, fun v B2 H2 t2 p2 r3 => q v B2 H2 (t1.trans t2) p2 r3⟩

/-! ### built-in functions -/
theorem x_cb {id : String} {r : List V → Hp → VK → Prop} (C : Cxt X N sc P w K mg base k) (hc : CallR X (.builtin id) r) (hg : GlS sc x) (hm : mg x = none) (hv : bootBuiltins x = some (.builtin id)) (ha : XA X Γ (e :: es) ρ z ds z1)
    (hr : ∀ vs B H (Q : VK), Ex B H → RepAll X.K B vs ds → (∀ v B' H', Stp B H B' H' → Rep X.K B' v d → Q v H') → r vs H Q)
    (hn : x ≠ "__name__" := by decide) (hdb : (x == ("__debug__" : Str)) = false := by decide) (he : starEach (e :: es) X.env = (false, eval e X.env) :: starEach es X.env := by rfl) (hpl : (backTo pos (starEach es X.env)).any (·.1) = false := by rfl) :
    XE X Γ (.Call (.Name x p) (e :: es) [] pos) ρ z d z1 := fun σ B H Q S q =>
  eOf (pe_callB hc (C.gl hg) (by rw [C.hmg]; exact hm) hv paS hn hdb he hpl) (ha σ B H _ S fun vs B1 H1 t1 p1 r1 => hr vs B1 H1 Q t1.sub r1 fun v B2 H2 t2 r2 => q v B2 H2 (t1.trans (.of t2)) ((S.stepM t1 p1).zp t2) r2)
theorem x_ct {T : String} {r : List V → Hp → VK → Prop} (C : Cxt X N sc P w K mg base k) (hc : CallR X (.type T) r) (hg : GlS sc x) (hm : mg x = none) (hv : bootBuiltins x = some (.type T)) (ha : XA X Γ (e :: es) ρ z ds z1)
    (hr : ∀ vs B H (Q : VK), Ex B H → RepAll X.K B vs ds → (∀ v B' H', Stp B H B' H' → Rep X.K B' v d → Q v H') → r vs H Q)
    (hn : x ≠ "__name__" := by decide) (hdb : (x == ("__debug__" : Str)) = false := by decide) (he : starEach (e :: es) X.env = (false, eval e X.env) :: starEach es X.env := by rfl) (hpl : (backTo pos (starEach es X.env)).any (·.1) = false := by rfl) :
    XE X Γ (.Call (.Name x p) (e :: es) [] pos) ρ z d z1 := fun σ B H Q S q =>
  eOf (pe_callTy hc (C.gl hg) (by rw [C.hmg]; exact hm) hv paS hn hdb he hpl) (ha σ B H _ S fun vs B1 H1 t1 p1 r1 => hr vs B1 H1 Q t1.sub r1 fun v B2 H2 t2 r2 => q v B2 H2 (t1.trans (.of t2)) ((S.stepM t1 p1).zp t2) r2)
theorem rep1 {B : Hp} {vs : List V} {d : D} (r : RepAll K B vs [d]) : ∃ v, vs = [v] ∧ Rep K B v d := by
  cases r with
  | cons a r => cases r; exact ⟨_, rfl, a⟩
theorem rep2 {B : Hp} {vs : List V} {d e : D} (r : RepAll K B vs [d, e]) : ∃ v u, vs = [v, u] ∧ Rep K B v d ∧ Rep K B u e := by
  cases r with
  | cons a r => cases r with
    | cons b r => cases r; exact ⟨_, _, rfl, a, b⟩
theorem x_lenL (C : Cxt X N sc P w K mg base k) (hg : GlS sc "len") (hm : mg "len" = none) (ha : XE X Γ a ρ z (.lst ds) z1) (hs : starEach [a] X.env = (false, eval a X.env) :: starEach [] X.env := by rfl) :
    XE X Γ (.Call (.Name "len" p) [a] [] pos) ρ z (.int ds.length) z1 := x_cb C call_len_seq hg hm PySem.boot_len (he := hs) (ha := a_cons ha a_nil hs) (hr := fun vs B H Q e r q => by
  obtain ⟨v, hvs, r1⟩ := rep1 r
  subst hvs
  cases r1 with
  | lst hl r => exact ⟨_, _, rfl, .inl (e.sqL hl), by rw [r.len]; exact q _ B H (.refl e) (.int _)⟩)
theorem x_lenT (C : Cxt X N sc P w K mg base k) (hg : GlS sc "len") (hm : mg "len" = none) (ha : XE X Γ a ρ z (.tup ds) z1) (hs : starEach [a] X.env = (false, eval a X.env) :: starEach [] X.env := by rfl) :
    XE X Γ (.Call (.Name "len" p) [a] [] pos) ρ z (.int ds.length) z1 := x_cb C call_len_seq hg hm PySem.boot_len (he := hs) (ha := a_cons ha a_nil hs) (hr := fun vs B H Q e r q => by
  obtain ⟨v, hvs, r1⟩ := rep1 r
  subst hvs
  cases r1 with
  | tup hl r => exact ⟨_, _, rfl, .inr (e.sqT hl), by rw [r.len]; exact q _ B H (.refl e) (.int _)⟩)
theorem x_abs (C : Cxt X N sc P w K mg base k) (hg : GlS sc "abs") (hm : mg "abs" = none) (ha : XE X Γ a ρ z (.int i) z1) (hv : bootBuiltins "abs" = some (.builtin "abs") := by decide +kernel) (hs : starEach [a] X.env = (false, eval a X.env) :: starEach [] X.env := by rfl) :
    XE X Γ (.Call (.Name "abs" p) [a] [] pos) ρ z (.int (if i < 0 then -i else i)) z1 := x_cb C call_abs hg hm hv (he := hs) (ha := a_cons ha a_nil hs) (hr := fun vs B H Q e r q => by
  obtain ⟨v, hvs, r1⟩ := rep1 r
  subst hvs
  cases r1
  exact ⟨i, rfl, q _ B H (.refl e) (.int _)⟩)
theorem x_int1 (C : Cxt X N sc P w K mg base k) (hg : GlS sc "int") (hm : mg "int" = none) (ha : XE X Γ a ρ z (.int i) z1) (hv : bootBuiltins "int" = some (.type "int") := by decide +kernel) (hs : starEach [a] X.env = (false, eval a X.env) :: starEach [] X.env := by rfl) :
    XE X Γ (.Call (.Name "int" p) [a] [] pos) ρ z (.int i) z1 := x_ct C call_int1 hg hm hv (he := hs) (ha := a_cons ha a_nil hs) (hr := fun vs B H Q e r q => by
  obtain ⟨v, hvs, r1⟩ := rep1 r
  subst hvs
  cases r1
  exact .inl ⟨i, rfl, q _ B H (.refl e) (.int _)⟩)
theorem x_max2 (C : Cxt X N sc P w K mg base k) (hg : GlS sc "max") (hm : mg "max" = none) (ha : XE X Γ a ρ z (.int i) z1) (hb : XE X Γ b ρ z1 (.int j) z2) (hv : bootBuiltins "max" = some (.builtin "max") := by decide +kernel)
    (hs : starEach [a, b] X.env = (false, eval a X.env) :: starEach [b] X.env := by rfl) (hs2 : starEach [b] X.env = (false, eval b X.env) :: starEach [] X.env := by rfl) (hpl : (backTo pos (starEach [b] X.env)).any (·.1) = false := by rfl) :
    XE X Γ (.Call (.Name "max" p) [a, b] [] pos) ρ z (.int (if j > i then j else i)) z2 := x_cb C (call_max2 C.calm) hg hm hv (a_cons ha (a_cons hb a_nil hs2) hs) (fun vs B H Q e r q => by
  obtain ⟨v, u, hvs, r1, r2⟩ := rep2 r
  subst hvs
  cases r1; cases r2
  exact ⟨i, j, rfl, q _ B H (.refl e) (.int _)⟩) (by decide) (by decide) hs hpl
theorem x_min2 (C : Cxt X N sc P w K mg base k) (hg : GlS sc "min") (hm : mg "min" = none) (ha : XE X Γ a ρ z (.int i) z1) (hb : XE X Γ b ρ z1 (.int j) z2) (hv : bootBuiltins "min" = some (.builtin "min") := by decide +kernel)
    (hs : starEach [a, b] X.env = (false, eval a X.env) :: starEach [b] X.env := by rfl) (hs2 : starEach [b] X.env = (false, eval b X.env) :: starEach [] X.env := by rfl) (hpl : (backTo pos (starEach [b] X.env)).any (·.1) = false := by rfl) :
    XE X Γ (.Call (.Name "min" p) [a, b] [] pos) ρ z (.int (if j < i then j else i)) z2 := x_cb C (call_min2 C.calm) hg hm hv (a_cons ha (a_cons hb a_nil hs2) hs) (fun vs B H Q e r q => by
  obtain ⟨v, u, hvs, r1, r2⟩ := rep2 r
  subst hvs
  cases r1; cases r2
  exact ⟨i, j, rfl, q _ B H (.refl e) (.int _)⟩) (by decide) (by decide) hs hpl
/-- tuple(a list) -/
theorem x_tupleL (C : Cxt X N sc P w K mg base k) (hg : GlS sc "tuple") (hm : mg "tuple" = none) (ha : XE X Γ a ρ z (.lst ds) z1) (hv : bootBuiltins "tuple" = some (.type "tuple") := by decide +kernel) (hs : starEach [a] X.env = (false, eval a X.env) :: starEach [] X.env := by rfl) :
    XE X Γ (.Call (.Name "tuple" p) [a] [] pos) ρ z (.tup ds) z1 := x_ct C call_tuple_of hg hm hv (he := hs) (ha := a_cons ha a_nil hs) (hr := fun vs B H Q e r q => by
  obtain ⟨v, hvs, r1⟩ := rep1 r
  subst hvs
  cases r1 with
  | @lst a us _ hl r =>
    refine ⟨_, us, rfl, .inl ⟨e.sqL hl, fun l hl' => ?_⟩⟩
    have st : Stp B H _ _ := .new (o := .tup us) e hl'
    exact q _ _ _ st (.tup (.of upd_same) (r.mono st.eB)))
/-- list(a list), list(a tuple) -/
theorem x_listL (C : Cxt X N sc P w K mg base k) (hg : GlS sc "list") (hm : mg "list" = none) (ha : XE X Γ a ρ z (.lst ds) z1) (hv : bootBuiltins "list" = some (.type "list") := by decide +kernel) (hs : starEach [a] X.env = (false, eval a X.env) :: starEach [] X.env := by rfl) :
    XE X Γ (.Call (.Name "list" p) [a] [] pos) ρ z (.lst ds) z1 := x_ct C call_list_of hg hm hv (he := hs) (ha := a_cons ha a_nil hs) (hr := fun vs B H Q e r q => by
  obtain ⟨v, hvs, r1⟩ := rep1 r
  subst hvs
  cases r1 with
  | @lst a us _ hl r =>
    refine ⟨_, us, rfl, .inl (e.sqL hl), fun l hl' => ?_⟩
    have st : Stp B H _ _ := .new (o := .lst us) e hl'
    exact q _ _ _ st (.lst (.of upd_same) (r.mono st.eB)))
/-- isinstance(x, a built-in type) -/
def tyD : D → Option String
  | .non => some "NoneType"
  | .bl _ => some "bool"
  | .int _ => some "int"
  | .str _ => some "str"
  | .lst _ => some "list"
  | .tup _ => some "tuple"
  | _ => none
theorem rep_ty {B H : Hp} {v : V} {d : D} {T : String} (r : Rep K B v d) (e : Ex B H) (h : tyD d = some T) : TyX K H v (.type T) := by
  cases r with
  | non => cases h; exact .base .non
  | bl b => cases h; exact .base (.bl _)
  | int b => cases h; exact .base (.int _)
  | str b => cases h; exact .base (.str _)
  | raw v => cases h
  | ins _ _ => cases h
  | lst hl r =>
    cases h
    rcases hl with (h | ⟨o, h⟩) | ⟨o, its, n, h, c, _⟩
    · exact .base (.lst (e _ _ h))
    · exact .base (.frz (e _ _ h))
    · exact .kList h c
  | tup hl r =>
    cases h
    rcases hl with (h | ⟨o, h⟩) | ⟨o, its, n, h, c, _⟩
    · exact .base (.tup (e _ _ h))
    · exact .fTuple (e _ _ h)
    · exact .kTuple h c
theorem x_ty {n : String} (C : Cxt X N sc P w K mg base k) (hg : GlS sc x) (hm : mg x = none) (hv : bootBuiltins x = some (.type n)) (hn : x ≠ "__name__" := by decide) (hdb : (x == ("__debug__" : Str)) = false := by decide) : XE X Γ (.Name x p) ρ z (.raw (.ty n)) z := fun σ B H Q S q =>
  eOf (pe_bltn (v := .ty n) (C.gl hg) (by rw [C.hmg]; exact hm) hv rfl hn hdb) (q _ B H (.refl S.wf.sub) S.wf.z (.raw _))
theorem x_isi {n T : String} {t : Bool} (C : Cxt X N sc P w K mg base k) (hg : GlS sc "isinstance") (hm : mg "isinstance" = none) (ha : XE X Γ a ρ z d z1) (hb : XE X Γ b ρ z1 (.raw (.ty n)) z2) (hT : tyD d = some T) (ht : kitB T n = some t) (hv : bootBuiltins "isinstance" = some (.builtin "isinstance") := by decide +kernel)
    (hs : starEach [a, b] X.env = (false, eval a X.env) :: starEach [b] X.env := by rfl) (hs2 : starEach [b] X.env = (false, eval b X.env) :: starEach [] X.env := by rfl) (hpl : (backTo pos (starEach [b] X.env)).any (·.1) = false := by rfl) :
    XE X Γ (.Call (.Name "isinstance" p) [a, b] [] pos) ρ z (.bl t) z2 := x_cb C call_isi hg hm hv (a_cons ha (a_cons hb a_nil hs2) hs) (fun vs B H Q e r q => by
  obtain ⟨v, u, hvs, r1, r2⟩ := rep2 r
  subst hvs
  cases r2
  exact ⟨v, .ty n, .type T, .type n, t, rfl, .ty n, rep_ty r1 e hT, kit_ty ht, q _ B H (.refl e) (.bl _)⟩) (by decide) (by decide) hs hpl
end
end DL
namespace DL
open PySem PySem.Spec PyProof.Rows L2
/-! ### a list or a tuple -/
def sqD : D → Option (List D)
  | .lst ds => some ds
  | .tup ds => some ds
  | _ => none
section
variable {X : Cx} {Γ : G} {N : List Str} {sc : Scope} {P : Program} {w : World} {K : PySem.W.Frag} {mg : Str → Option Value} {base : Heap} {k : Nat}
variable {e a b c : Expr} {es : List Expr} {ρ : En} {z z1 z2 : Γ.Z} {d d0 d1 d2 : D} {ds : List D} {pos p p2 : Pos} {i j : Int} {x : Str}
theorem x_ix (ha : XE X Γ a ρ z d0 z1) (hb : XE X Γ b ρ z1 (.int i) z2) (hq : sqD d0 = some ds) (h : atI ds i = some d) (hs : PlainIx b := by exact fun _ _ => rfl) : XE X Γ (.Subscript a b pos) ρ z d z2 := by
  cases d0 <;> first | cases hq | skip
  · exact x_ixL ha hb h hs
  · exact x_ixT ha hb h hs
theorem atI_k {n : Nat} {ds : List D} (h : ds[n]? = some d) : atI ds ((n : Nat) : Int) = some d := atI_nat h
/-- an item at a written place -/
theorem x_ixk (n : Nat) {m : Nat} (ha : XE X Γ a ρ z d0 z1) (hq : sqD d0 = some ds) (h : ds[n]? = some d) : XE X Γ (.Subscript a (.Constant (.int (n : Int)) m p2) pos) ρ z d z1 := x_ix ha x_int hq (atI_nat h)
theorem x_len (C : Cxt X N sc P w K mg base k) (hg : GlS sc "len") (hm : mg "len" = none) (ha : XE X Γ a ρ z d0 z1) (hq : sqD d0 = some ds) (hs : starEach [a] X.env = (false, eval a X.env) :: starEach [] X.env := by rfl) :
    XE X Γ (.Call (.Name "len" p) [a] [] pos) ρ z (.int ds.length) z1 := by
  cases d0 <;> first | cases hq | skip
  · exact x_lenL C hg hm ha hs
  · exact x_lenT C hg hm ha hs
theorem x_lenO (n : Nat) {x : Str} (C : Cxt X N sc P w K mg base k) (hg : GlS sc "len") (hm : mg "len" = none) (hN : N[n]? = some x) (hv : visC sc x = true) (ho : ρ[n]? = some (.own ds))
    (hd : (x == ("__debug__" : Str)) = false := by decide) (hcd : (x == ("__classdict__" : Str)) = false := by decide) (hs : starEach [.Name x p2] X.env = (false, eval (.Name x p2) X.env) :: starEach [] X.env := by rfl) :
    XE X Γ (.Call (.Name "len" p) [.Name x p2] [] pos) ρ z (.int ds.length) z := fun σ B H Q S q => by
  obtain ⟨a, vs, e, h0, hb0, hh, r⟩ := S.own ho
  refine eOf (pe_callB call_len_seq (C.gl hg) (by rw [C.hmg]; exact hm) PySem.boot_len (pa_cons (pe_var (i := n) (by rw [C.hN]; exact hN) (by rw [C.hsc]; exact vis_of hv) hd hcd) pa_nil hs) (by decide) (by decide) hs rfl) ⟨_, e, _, vs, rfl, .inl (.of hh), ?_⟩
  rw [r.len]
  exact q _ B H (.refl S.wf.sub) S.wf.z (.int _)
end
/-! ### how great a number may be -/
def NB (a : Nat) (i : Int) : Prop := i.natAbs < 2 ^ a
theorem NB.mul {a b : Nat} {i j : Int} (h : NB a i) (g : NB b j) : NB (a + b) (i * j) := wide_lt h g
theorem NB.up {a b : Nat} {i : Int} (h : NB a i) (l : a ≤ b) : NB b i := Nat.lt_of_lt_of_le h (Nat.pow_le_pow_right (by decide) l)
theorem NB.add {a b : Nat} {i j : Int} (h : NB a i) (g : NB b j) : NB (max a b + 1) (i + j) := by
  have h1 : i.natAbs < 2 ^ max a b := h.up (Nat.le_max_left _ _)
  have h2 : j.natAbs < 2 ^ max a b := g.up (Nat.le_max_right _ _)
  show (i + j).natAbs < 2 ^ (max a b + 1)
  rw [Nat.pow_succ]
  omega
theorem NB.neg {a : Nat} {i : Int} (h : NB a i) : NB a (-i) := by
  have h : i.natAbs < 2 ^ a := h
  show (-i).natAbs < 2 ^ a
  omega
theorem NB.sub {a b : Nat} {i j : Int} (h : NB a i) (g : NB b j) : NB (max a b + 1) (i - j) := by
  rw [Int.sub_eq_add_neg]
  exact h.add g.neg
theorem NB.of {a : Nat} {i : Int} (l : -(2 ^ a : Int) < i) (u : i < 2 ^ a) : NB a i := by
  have e : ((2 ^ a : Nat) : Int) = (2 : Int) ^ a := by push_cast; rfl
  show i.natAbs < 2 ^ a
  omega
theorem NB.cmul {a b : Nat} {i j : Int} (h : NB a i) (g : NB b j) (l : a + b + 2 ≤ 1000000) : CMulW i j := wide_mul (h.up (Nat.le_succ a)) (g.up (Nat.le_succ b)) (Nat.succ_pos _) (Nat.succ_pos _) (by omega)
end DL

namespace DL
open PySem PySem.Spec PyProof.Rows L2

/-! ### the law's drawing -/
@[irreducible] def drawZ (z : List Int × Int) (m : Int) : Int × (List Int × Int) :=
  match z.1.dropWhile (· == 0) with
  | c :: cs => (c % m, (c / m :: cs, z.2))
  | [] => ((z.2 * 48271 + 12345) % 2147483647 / 64 % m, ([], (z.2 * 48271 + 12345) % 2147483647))
theorem drawZ_lo (z : List Int × Int) {m : Int} (h : 0 < m) : 0 ≤ (drawZ z m).1 := by
  unfold drawZ
  split
  · exact Int.emod_nonneg _ (by omega)
  · exact Int.emod_nonneg _ (by omega)
theorem drawZ_hi (z : List Int × Int) {m : Int} (h : 0 < m) : (drawZ z m).1 < m := by
  unfold drawZ
  split
  · exact Int.emod_lt_of_pos _ h
  · exact Int.emod_lt_of_pos _ h
/-- what _law_draw answers -/
def frDraw (ds : List D) (z : List Int × Int) (d : D) (z' : List Int × Int) : Prop := ∃ m : Int, ds = [.int m] ∧ 0 < m ∧ m.natAbs.log2 < 9000 ∧ d = .int (drawZ z m).1 ∧ z' = (drawZ z m).2
def seedOf (ns : List Int) : Int := ns.foldl (fun s c => (s * 31 + c) % 1000003) 7
def absI (i : Int) : Int := if i < 0 then -i else i
/-- what _law_state answers: a new list of a new list and a seed -/
def spState (K : PySem.W.Frag) : Sp := fun vs H Q _ => ∃ (a : Addr) (ns : List Int), vs = [.ref a] ∧ SqL K H a (ns.map V.int) ∧ ns.length ≤ 63 ∧
  ∀ p c H', Ex H H' → p ≠ c → H p = none → H c = none → H' p = some (.lst [.ref c, .int (seedOf ns + 1)]) → H' c = some (.lst ((ns.map absI).map V.int)) → Q (.ref p) H'
/-- what the law answers: True -/
def spLaw (K : PySem.W.Frag) : Sp := fun vs H Q _ => ∃ (a : Addr) (ns : List Int), vs = [.ref a] ∧ SqL K H a (ns.map V.int) ∧ ns.length ≤ 63 ∧ ∀ H', Q (.bl true) H'
/-- the environment behind the law's first statement -/
def envL (n : Nat) : En := .no :: .hdl 0 :: List.replicate (n - 2) .no
section
variable {P : Program} {w : World} {K : PySem.W.Frag} {mg : Str → Option Value} {base : Heap}
variable {qual : Str} {st : Stmt} {f : Addr} {fd : FuncData} {N : List Str} {k j : Nat}
/-- the law: its first statement makes the state, the rest is walked with the state in hand -/
theorem law_mk {rest : List Stmt} {p1 p2 p3 p4 p5 : Pos} {s0 s1 : Str} {N' : List Str} (F : Fun K "law" qual st f fd) (S : FnScope (s0 :: s1 :: N') [s0] (defScope st)) (FS : Fnc P w K mg base "_law_state" j (spState K)) (hj : j ≤ k)
    (hb : defBody st = .Assign [.Name s1 p1] (.Call (.Name "_law_state" p2) [.Name s0 p3] [] p4) p5 :: rest)
    (hg : GlS (defScope st) "_law_state") (hv : visC (defScope st) s0 = true) (hl : locC (defScope st) s1 = true)
    (hd : (s0 == ("__debug__" : Str)) = false) (hcd : (s0 == ("__classdict__" : Str)) = false)
    (body : ∀ (X : Cx), Cxd X (s0 :: s1 :: N') (defScope st) P w K mg base k → ∀ (sa sc : Addr) (B0 H0 : Hp) (h : H0 sa ≠ none ∧ H0 sc ≠ none) (z : List Int × Int),
      XSs X (gZ sa sc B0 H0 h) rest (envL (N'.length + 2)) z { nx := fun _ _ => False, rt := fun d _ => d = .bl true }) :
    FnOk P w K mg base CX0 (k + 1) f fd [s0] (spLaw K) := by
  refine F.ok S (fun vs H Q E h => ?_) (fun cdv A outer s H vs Q E hr h => ?_)
  · obtain ⟨a, ns, rfl, _⟩ := h; rfl
  · obtain ⟨a, ns, rfl, hS, hlen, q⟩ := h
    have C : Cxd (cxOf CX0 P w K mg base (s0 :: s1 :: N') qual (defScope st) f cdv A outer s H E).nox (s0 :: s1 :: N') (defScope st) P w K mg base k := cxd_of S.nd hr
    obtain ⟨fA, fdS, ps, ok, hm, hk, hbd⟩ := FS
    rw [hb]
    refine ⟨_, pss_cons (ps_set (i := 1) S.nd rfl (loc_of hl) (pe_call (ok.mono hj) C.room (C.gl hg) hm hk hbd .nil pass0 (pa_cons (pe_var (i := 0) rfl (vis_of hv) hd hcd) pa_nil)) rfl (.inl rfl)) pssS, ?_⟩
    refine ⟨.ref a, rfl, a, ns, rfl, hS, hlen, fun p c H' e hpc hp hc hp' hc' => ?_⟩
    -- from here on: nothing of what stands now but the state may change
    have h0 : H' p ≠ none ∧ H' c ≠ none := ⟨some_ne hp', some_ne hc'⟩
    have wf : Wf (gZ p c H H' h0) (ns.map absI, seedOf ns + 1) H H' := ⟨e, Ex.refl _, fun _ _ _ h => h, fun _ h => h, fun _ _ => rfl, hpc, hp, hc, hp', hc'⟩
    refine body _ C p c H H' h0 _ _ H H' _ ⟨wf, ?_, fun i s h => ?_, fun i j es fs a' _ hi _ _ => ?_⟩ ⟨fun _ _ _ _ _ _ _ h => h.elim, fun v d z B' H2 _ w' r' e' => ?_, fun _ _ _ _ _ _ _ h => h.elim, fun _ _ _ _ _ _ _ h => h.elim⟩
    · simp [L2.start, envL]
    · unfold envL at h
      match i, h with
      | 0, h => cases h; exact ⟨_, rfl, trivial⟩
      | 1, h => cases h; exact ⟨_, rfl, rfl⟩
      | i + 2, h =>
        have h : (List.replicate (N'.length + 2 - 2) Sl.no)[i]? = some s := h
        rw [List.getElem?_replicate] at h
        split at h
        · cases h
          refine ⟨none, ?_, trivial⟩
          rw [List.getElem?_set_ne (by omega)]
          show (some (V.ref a) :: List.replicate ((s0 :: s1 :: N').length - [V.ref a].length) none)[i + 2]? = _
          rw [List.getElem?_cons_succ, List.getElem?_replicate]
          have : i + 1 < (s0 :: s1 :: N').length - [V.ref a].length := by simp; omega
          rw [if_pos this]
        · cases h
    · unfold envL at hi
      match i, hi with
      | 0, h => cases h
      | 1, h => cases h
      | i + 2, h =>
        have h : (List.replicate (N'.length + 2 - 2) Sl.no)[i]? = some (.own es) := h
        rw [List.getElem?_replicate] at h
        split at h <;> cases h
    · have e' : d = .bl true := e'
      subst e'
      cases r'
      exact q H2
end
end DL

namespace DL
open PySem PySem.Spec PyProof.Rows L2
section
variable {X : Cx} {Γ : G} {N : List Str} {sc : Scope} {P : Program} {w : World} {K : PySem.W.Frag} {mg : Str → Option Value} {base : Heap} {k : Nat}
variable {e a b c tg it elt iter : Expr} {es tgs ifs : List Expr} {st : Stmt} {sts body : List Stmt} {ρ ρ' ρ1 ρ2 : En} {z z1 z2 z3 : Γ.Z} {d d0 d1 d2 d3 : D} {ds ds1 ds2 : List D} {pos p p2 : Pos} {i j : Int} {Po : Post Γ} {s t : Bool} {x : Str}
/-- a statement, then the rest, with a word between them -/
theorem xss_cut (Mid : En → Γ.Z → Prop) (h : XS X Γ st ρ z { Po with nx := Mid }) (q : ∀ ρ' z', Mid ρ' z' → XSs X Γ sts ρ' z' Po) : XSs X Γ (st :: sts) ρ z Po :=
  xss_cons fun σ B H E S l => h σ B H E S ⟨fun ρ' z' σ' B' H' e S' m => l.nx ρ' z' σ' B' H' e S' (q ρ' z' m), l.rt, l.bk, l.ct⟩
theorem xs_imp {Po' : Post Γ} (h : XS X Γ st ρ z Po') (h1 : ∀ ρ' z', Po'.nx ρ' z' → Po.nx ρ' z') (h2 : ∀ d z', Po'.rt d z' → Po.rt d z') (h3 : ∀ ρ' z', Po'.bk ρ' z' → Po.bk ρ' z') (h4 : ∀ ρ' z', Po'.ct ρ' z' → Po.ct ρ' z') : XS X Γ st ρ z Po := fun σ B H E S l =>
  h σ B H E S ⟨fun ρ' z' σ' B' H' e S' m => l.nx ρ' z' σ' B' H' e S' (h1 _ _ m), fun v d z' B' H' e w r m => l.rt v d z' B' H' e w r (h2 _ _ m), fun ρ' z' σ' B' H' e S' m => l.bk ρ' z' σ' B' H' e S' (h3 _ _ m), fun ρ' z' σ' B' H' e S' m => l.ct ρ' z' σ' B' H' e S' (h4 _ _ m)⟩
theorem xss_imp {Po' : Post Γ} (h : XSs X Γ sts ρ z Po') (h1 : ∀ ρ' z', Po'.nx ρ' z' → Po.nx ρ' z') (h2 : ∀ d z', Po'.rt d z' → Po.rt d z') (h3 : ∀ ρ' z', Po'.bk ρ' z' → Po.bk ρ' z') (h4 : ∀ ρ' z', Po'.ct ρ' z' → Po.ct ρ' z') : XSs X Γ sts ρ z Po := fun σ B H E S l =>
  h σ B H E S ⟨fun ρ' z' σ' B' H' e S' m => l.nx ρ' z' σ' B' H' e S' (h1 _ _ m), fun v d z' B' H' e w r m => l.rt v d z' B' H' e w r (h2 _ _ m), fun ρ' z' σ' B' H' e S' m => l.bk ρ' z' σ' B' H' e S' (h3 _ _ m), fun ρ' z' σ' B' H' e S' m => l.ct ρ' z' σ' B' H' e S' (h4 _ _ m)⟩
/-- (a, b, ..) = a list -/
theorem xg_lst {ns : List Nat} {m : Nat} (C : Cxt X N sc P w K mg base k) (h : XGs X Γ es ns ds ρ ρ1) (hn : (assignEach es X.env).length = ds.length := by rfl) (hst : (assignEach es X.env).findIdx? (·.1) = none := by rfl) : XG X Γ (.Tuple es m pos) ns (.lst ds) ρ ρ1 := fun z σ B H v Q S r q => by
  have hr : PGs X es (semGs X es) := ⟨fun pins s σ H vs us Q I r h => h pins s us I r⟩
  cases r with
  | lst hl r => exact gOf (pg_unl (n := ds.length) C.calm hr hn hst) ⟨_, _, rfl, S.wf.sub.sqL hl, r.len, h z σ B H _ _ S r q⟩
theorem decB : decide (V.bl s = V.bl t) = (s == t) := by cases s <;> cases t <;> rfl
theorem x_eqB (ha : XE X Γ a ρ z (.bl s) z1) (hb : XE X Γ b ρ z1 (.bl t) z2) : XE X Γ (.Compare a [.Eq] [b] pos) ρ z (.bl (s == t)) z2 := by
  rw [← decB]
  exact x_cmp op_eq (nomark _) ha hb (rEq_r rfl rfl rfl)
theorem x_neB (ha : XE X Γ a ρ z (.bl s) z1) (hb : XE X Γ b ρ z1 (.bl t) z2) : XE X Γ (.Compare a [.NotEq] [b] pos) ρ z (.bl (!(s == t))) z2 := by
  rw [← decB]
  exact x_cmp op_ne (nomark _) ha hb (rNe_r rfl rfl rfl)
theorem t_eqB (ha : XE X Γ a ρ z (.bl s) z1) (hb : XE X Γ b ρ z1 (.bl t) z2) : XT X Γ (.Compare a [.Eq] [b] pos) ρ z (s == t) z2 := by
  rw [← decB]
  exact t_cmp op_eq (nomark _) ha hb (rEq_r rfl rfl rfl)
theorem t_neB (ha : XE X Γ a ρ z (.bl s) z1) (hb : XE X Γ b ρ z1 (.bl t) z2) : XT X Γ (.Compare a [.NotEq] [b] pos) ρ z (!(s == t)) z2 := by
  rw [← decB]
  exact t_cmp op_ne (nomark _) ha hb (rNe_r rfl rfl rfl)
/-- a truth value of a list, a tuple -/
theorem t_seq (ha : XE X Γ a ρ z d0 z1) (hq : sqD d0 = some ds) (he : ∀ whole, isTrue a X.env whole = (do let v ← whole; standAt a.pos; holding [v] (truthy v)) := by intro _; rfl) : XT X Γ a ρ z (!ds.isEmpty) z1 := fun σ B H Q S q => by
  refine tOf (pt_truth peS he) (ha σ B H _ S fun v B1 H1 t1 p1 r1 => ?_)
  have ie : ∀ {vs : List V} {ds : List D}, RepAll X.K B1 vs ds → (!vs.isEmpty) = !ds.isEmpty := fun r => by cases r <;> rfl
  cases r1 with
  | lst hl r => cases hq; exact ⟨_, .inl ⟨_, t1.sub.sqL hl, rfl⟩, by rw [ie r]; exact q B1 H1 t1 p1⟩
  | tup hl r => cases hq; exact ⟨_, .inr (.inl ⟨_, t1.sub.sqT hl, rfl⟩), by rw [ie r]; exact q B1 H1 t1 p1⟩
  | _ => cases hq
/-- in every block of this kind e evaluates to one and the same thing, of which R holds -/
def XEx (N : List Str) (scB : Scope) (P : Program) (w : World) (K : PySem.W.Frag) (mg : Str → Option Value) (base : Heap) (k : Nat) (Γ : G) (e : Expr) (ρ : En) (z : Γ.Z) (R : D → Prop) : Prop :=
  ∃ y z', R y ∧ ∀ Xb : Cx, Cxt Xb N scB P w K mg base k → XE Xb Γ e ρ z y z'
def XLx (N : List Str) (scB : Scope) (P : Program) (w : World) (K : PySem.W.Frag) (mg : Str → Option Value) (base : Heap) (k : Nat) (Γ : G) (e : Expr) (ρ : En) (z : Γ.Z) (R : List D → Prop) : Prop :=
  ∃ ds z', R ds ∧ ∀ Xb : Cx, Cxt Xb N scB P w K mg base k → XL Xb Γ e ρ z ds z'
section
variable {scB : Scope} {R : D → Prop} {RL : List D → Prop}
theorem ex_of {y : D} {z' : Γ.Z} (h : ∀ Xb : Cx, Cxt Xb N scB P w K mg base k → XE Xb Γ e ρ z y z') (r : R y) : XEx N scB P w K mg base k Γ e ρ z R := ⟨y, z', r, h⟩
theorem ex_tuple (hg : GlS scB "tuple") (hm : mg "tuple" = none) (h : XLx N scB P w K mg base k Γ a ρ z RL) (hr : ∀ ds, RL ds → R (.tup ds)) (hv : bootBuiltins "tuple" = some (.type "tuple") := by decide +kernel)
    (hs : ∀ Xb : Cx, starEach [a] Xb.env = (false, eval a Xb.env) :: starEach [] Xb.env := by intro _; rfl) : XEx N scB P w K mg base k Γ (.Call (.Name "tuple" p) [a] [] pos) ρ z R := by
  obtain ⟨ds, z', r, h⟩ := h
  exact ⟨_, z', hr ds r, fun Xb C => x_tupleL C hg hm (x_ofL (h Xb C)) hv (hs Xb)⟩
theorem ex_lst (h : XLx N scB P w K mg base k Γ a ρ z RL) (hr : ∀ ds, RL ds → R (.lst ds)) : XEx N scB P w K mg base k Γ a ρ z R := by
  obtain ⟨ds, z', r, h⟩ := h
  exact ⟨_, z', hr ds r, fun Xb C => x_ofL (h Xb C)⟩
end
/-- a comprehension whose every item is of one sort; the state turns as it may -/
theorem lc_some {vs : List Nat} {n : Nat} {item : Nat → D} {scB : Scope} (R : D → Prop) (hz : n ≤ 1000)
    (step : ∀ m (z : Γ.Z), m < n → ∃ ns ρ2, (∀ n ∈ ns, n ∈ vs) ∧ (∀ Xb : Cx, Cxt Xb N scB P w K mg base k → XG Xb Γ tg ns (item m) (wipeE ρ vs) ρ2) ∧ XEx N scB P w K mg base k Γ elt ρ2 z R) (z1 : Γ.Z) :
    ∃ (A : Nat → List D) (zs : Nat → Γ.Z), A 0 = [] ∧ zs 0 = z1 ∧ (∀ m, m < n → LcStep N scB P w K mg base k Γ tg elt [] vs ρ (item m) (zs m) (zs (m + 1)) (A m) (A (m + 1))) ∧ (∀ m, m < n → (A m).length < sizeLine) ∧ (A n).length = n ∧ ∀ d ∈ A n, R d := by
  have ch : ∃ f : Nat → Γ.Z → D × Γ.Z, ∀ m z, m < n → R (f m z).1 ∧ ∃ ns ρ2, (∀ n ∈ ns, n ∈ vs) ∧ ∀ Xb : Cx, Cxt Xb N scB P w K mg base k → XG Xb Γ tg ns (item m) (wipeE ρ vs) ρ2 ∧ XE Xb Γ elt ρ2 z (f m z).1 (f m z).2 := by
    have h : ∀ m (z : Γ.Z), ∃ yz : D × Γ.Z, m < n → R yz.1 ∧ ∃ ns ρ2, (∀ n ∈ ns, n ∈ vs) ∧ ∀ Xb : Cx, Cxt Xb N scB P w K mg base k → XG Xb Γ tg ns (item m) (wipeE ρ vs) ρ2 ∧ XE Xb Γ elt ρ2 z yz.1 yz.2 := fun m z => by
      by_cases hm : m < n
      · obtain ⟨ns, ρ2, h1, h2, y, z', r, h3⟩ := step m z hm
        exact ⟨(y, z'), fun _ => ⟨r, ns, ρ2, h1, fun Xb C => ⟨h2 Xb C, h3 Xb C⟩⟩⟩
      · exact ⟨(.non, z), fun q => absurd q hm⟩
    exact ⟨fun m z => Classical.choose (h m z), fun m z hm => Classical.choose_spec (h m z) hm⟩
  obtain ⟨f, hf⟩ := ch
  let zs : Nat → Γ.Z := fun m => Nat.rec z1 (fun m z => (f m z).2) m
  let A : Nat → List D := fun m => (List.range m).map fun i => (f i (zs i)).1
  have hA : ∀ m, (A m).length = m := fun m => by simp [A]
  refine ⟨A, zs, rfl, rfl, fun m hm => ?_, fun m hm => by rw [hA]; exact small1000 (by omega), hA n, fun d hd => ?_⟩
  · obtain ⟨h1, ns, ρ2, h2, h3⟩ := hf m (zs m) hm
    have e : A (m + 1) = A m ++ [(f m (zs m)).1] := by simp [A, List.range_succ]
    rw [e]
    exact lcStep h2 h3
  · obtain ⟨i, hi, rfl⟩ := List.mem_map.mp hd
    exact (hf i (zs i) (List.mem_range.mp hi)).1
theorem lx_some {scB scope : Scope} {n : Nat} {item : Nat → D} {RL : List D → Prop} (own : List (Str × Nat)) (R : D → Prop) (hok : blkC N scB scope own = true) (hi : ∀ Xb : Cx, Cxt Xb N scB P w K mg base k → XI Xb Γ tg iter ρ z n item z1) (hz : n ≤ 1000)
    (step : ∀ m (z : Γ.Z), m < n → ∃ ns ρ2, (∀ n ∈ ns, n ∈ own.map (·.2)) ∧ (∀ Xb : Cx, Cxt Xb N (relS scope scB) P w K mg base k → XG Xb Γ tg ns (item m) (wipeE ρ (own.map (·.2))) ρ2) ∧ XEx N (relS scope scB) P w K mg base k Γ elt ρ2 z R)
    (hr : ∀ ds : List D, ds.length = n → (∀ d ∈ ds, R d) → RL ds) (hs : ∀ (Xb : Cx) x, foldedSetIterable iter Xb.env x = pure x := by intro _ _; rfl) : XLx N scB P w K mg base k Γ (.ListComp elt [⟨tg, iter, [], 0⟩] scope pos) ρ z RL := by
  obtain ⟨A, zs, h1, h2, h3, h4, h5, h6⟩ := lc_some R hz step z1
  exact ⟨A n, zs n, hr _ h5 h6, fun Xb C => l_lc own C hok (hi Xb C) A zs h1 h2 h3 h4 (hs Xb)⟩
theorem xs_setSome {scope : Scope} (o : Nat) (own : List (Str × Nat)) {n : Nat} {item : Nat → D} {y : Str} {py spos : Pos} (R : D → Prop) (C : Cxd X N sc P w K mg base k) (hy : N[o]? = some y) (hyl : sc.names.lookup y = some .local) (hok : blkC N sc scope own = true) (hi : XI X Γ tg iter ρ z n item z1) (hz : n ≤ 1000)
    (step : ∀ m (z : Γ.Z), m < n → ∃ ns ρ2, (∀ n ∈ ns, n ∈ own.map (·.2)) ∧ (∀ Xb : Cx, Cxt Xb N (relS scope sc) P w K mg base k → XG Xb Γ tg ns (item m) (wipeE ρ (own.map (·.2))) ρ2) ∧ XEx N (relS scope sc) P w K mg base k Γ elt ρ2 z R)
    (q : ∀ ds z', ds.length = n → (∀ d ∈ ds, R d) → Po.nx (ρ.set o (.own ds)) z')
    (hk : sc.kind = .function := by rfl) (hl : (py.line == pos.line) = true := by rfl) (ha : (scope.names.any fun (n, k) => n == y && (k == .local || k == .cell)) = false := by rfl)
    (hs : ∀ x, foldedSetIterable iter X.env x = pure x := by intro _; rfl) : XS X Γ (.Assign [.Name y py] (.ListComp elt [⟨tg, iter, [], 0⟩] scope pos) spos) ρ z Po := by
  obtain ⟨A, zs, h1, h2, h3, h4, h5, h6⟩ := lc_some R hz step z1
  exact xs_setLc o own C hy hyl hok hi A zs h1 h2 h3 h4 (q _ _ h5 h6) hk hl ha hs
/-- the answer is a function of the item; the state stays -/
theorem lc_map {vs : List Nat} {n : Nat} {item : Nat → D} {scB : Scope} (f : Nat → D) (z1 : Γ.Z) (hz : n ≤ 1000)
    (step : ∀ m, m < n → ∃ ns ρ2, (∀ n ∈ ns, n ∈ vs) ∧ ∀ Xb : Cx, Cxt Xb N scB P w K mg base k → XG Xb Γ tg ns (item m) (wipeE ρ vs) ρ2 ∧ XE Xb Γ elt ρ2 z1 (f m) z1) :
    (∀ m, m < n → LcStep N scB P w K mg base k Γ tg elt [] vs ρ (item m) z1 z1 ((List.range m).map f) ((List.range (m + 1)).map f)) ∧ (∀ m, m < n → ((List.range m).map f).length < sizeLine) := by
  refine ⟨fun m hm => ?_, fun m hm => by simp; exact small1000 (by omega)⟩
  obtain ⟨ns, ρ2, h1, h2⟩ := step m hm
  have e : (List.range (m + 1)).map f = (List.range m).map f ++ [f m] := by simp [List.range_succ]
  rw [e]
  exact lcStep h1 h2
theorem l_map {scope : Scope} (own : List (Str × Nat)) {n : Nat} {item : Nat → D} (f : Nat → D) (C : Cxt X N sc P w K mg base k) (hok : blkC N sc scope own = true) (hi : XI X Γ tg iter ρ z n item z1) (hz : n ≤ 1000)
    (step : ∀ m, m < n → ∃ ns ρ2, (∀ n ∈ ns, n ∈ own.map (·.2)) ∧ ∀ Xb : Cx, Cxt Xb N (relS scope sc) P w K mg base k → XG Xb Γ tg ns (item m) (wipeE ρ (own.map (·.2))) ρ2 ∧ XE Xb Γ elt ρ2 z1 (f m) z1)
    (hs : ∀ x, foldedSetIterable iter X.env x = pure x := by intro _; rfl) : XL X Γ (.ListComp elt [⟨tg, iter, [], 0⟩] scope pos) ρ z ((List.range n).map f) z1 :=
  l_lc own C hok hi (fun m => (List.range m).map f) (fun _ => z1) rfl rfl (lc_map f z1 hz step).1 (lc_map f z1 hz step).2 hs
theorem xs_setMap {scope : Scope} (o : Nat) (own : List (Str × Nat)) {n : Nat} {item : Nat → D} {y : Str} {py spos : Pos} (f : Nat → D) (C : Cxd X N sc P w K mg base k) (hy : N[o]? = some y) (hyl : sc.names.lookup y = some .local) (hok : blkC N sc scope own = true) (hi : XI X Γ tg iter ρ z n item z1) (hz : n ≤ 1000)
    (step : ∀ m, m < n → ∃ ns ρ2, (∀ n ∈ ns, n ∈ own.map (·.2)) ∧ ∀ Xb : Cx, Cxt Xb N (relS scope sc) P w K mg base k → XG Xb Γ tg ns (item m) (wipeE ρ (own.map (·.2))) ρ2 ∧ XE Xb Γ elt ρ2 z1 (f m) z1) (q : Po.nx (ρ.set o (.own ((List.range n).map f))) z1)
    (hk : sc.kind = .function := by rfl) (hl : (py.line == pos.line) = true := by rfl) (ha : (scope.names.any fun (n, k) => n == y && (k == .local || k == .cell)) = false := by rfl)
    (hs : ∀ x, foldedSetIterable iter X.env x = pure x := by intro _; rfl) : XS X Γ (.Assign [.Name y py] (.ListComp elt [⟨tg, iter, [], 0⟩] scope pos) spos) ρ z Po :=
  xs_setLc o own C hy hyl hok hi (fun m => (List.range m).map f) (fun _ => z1) rfl rfl (lc_map f z1 hz step).1 (lc_map f z1 hz step).2 q hk hl ha hs
theorem sw_cell {elt : Expr} {gs : List Comprehension} {scope : Scope} {pos py : Pos} {y : Str} {l : Nat} {env : Env} (hy : env.scope.names.lookup y = some .cell) : swapsWith (.ListComp elt gs scope pos) (some (.Name y py)) l env = pure false := by
  have ky : env.kindOf y = some .cell := hy
  unfold swapsWith
  simp only [ky]
  have e : ((some NameKind.cell : Option NameKind) == some .local) = false := rfl
  simp only [e, Bool.and_false, Bool.false_and] <;> rfl
/-- the same to a name that a block captures -/
theorem xs_setSomeC {scope : Scope} (o : Nat) (own : List (Str × Nat)) {n : Nat} {item : Nat → D} {y : Str} {py spos : Pos} (R : D → Prop) (C : Cxd X N sc P w K mg base k) (hy : N[o]? = some y) (hyl : sc.names.lookup y = some .cell) (hok : blkC N sc scope own = true) (hi : XI X Γ tg iter ρ z n item z1) (hz : n ≤ 1000)
    (step : ∀ m (z : Γ.Z), m < n → ∃ ns ρ2, (∀ n ∈ ns, n ∈ own.map (·.2)) ∧ (∀ Xb : Cx, Cxt Xb N (relS scope sc) P w K mg base k → XG Xb Γ tg ns (item m) (wipeE ρ (own.map (·.2))) ρ2) ∧ XEx N (relS scope sc) P w K mg base k Γ elt ρ2 z R)
    (q : ∀ ds z', ds.length = n → (∀ d ∈ ds, R d) → Po.nx (ρ.set o (.own ds)) z')
    (hs : ∀ x, foldedSetIterable iter X.env x = pure x := by intro _; rfl) : XS X Γ (.Assign [.Name y py] (.ListComp elt [⟨tg, iter, [], 0⟩] scope pos) spos) ρ z Po := by
  obtain ⟨A, zs, h1, h2, h3, h4, h5, h6⟩ := lc_some R hz step z1
  exact xs_setO o C hy (by unfold locC; rw [hyl]) (l_lc own C.toCxt hok hi A zs h1 h2 h3 h4 hs) (q _ _ h5 h6) (sw_cell (by rw [C.hsc]; exact hyl))
theorem xs_setMapC {scope : Scope} (o : Nat) (own : List (Str × Nat)) {n : Nat} {item : Nat → D} {y : Str} {py spos : Pos} (f : Nat → D) (C : Cxd X N sc P w K mg base k) (hy : N[o]? = some y) (hyl : sc.names.lookup y = some .cell) (hok : blkC N sc scope own = true) (hi : XI X Γ tg iter ρ z n item z1) (hz : n ≤ 1000)
    (step : ∀ m, m < n → ∃ ns ρ2, (∀ n ∈ ns, n ∈ own.map (·.2)) ∧ ∀ Xb : Cx, Cxt Xb N (relS scope sc) P w K mg base k → XG Xb Γ tg ns (item m) (wipeE ρ (own.map (·.2))) ρ2 ∧ XE Xb Γ elt ρ2 z1 (f m) z1) (q : Po.nx (ρ.set o (.own ((List.range n).map f))) z1)
    (hs : ∀ x, foldedSetIterable iter X.env x = pure x := by intro _; rfl) : XS X Γ (.Assign [.Name y py] (.ListComp elt [⟨tg, iter, [], 0⟩] scope pos) spos) ρ z Po :=
  xs_setO o C hy (by unfold locC; rw [hyl]) (l_map own f C.toCxt hok hi hz step hs) q (sw_cell (by rw [C.hsc]; exact hyl))
/-- a number below n at a written list of n -/
theorem at_menu {ds : List D} {i : Int} (h0 : 0 ≤ i) (h1 : i < ds.length) : atI ds i = some (ds.getD i.toNat .non) := by
  obtain ⟨n, rfl⟩ : ∃ n : Nat, i = n := ⟨i.toNat, by omega⟩
  have hn : n < ds.length := by omega
  refine atI_nat ?_
  rw [List.getElem?_eq_getElem hn, List.getD_eq_getElem?_getD, Int.toNat_natCast, List.getElem?_eq_getElem hn]
  rfl
theorem log_ok {m : Int} (h : 0 < m) (h2 : m < 2 ^ 64) : m.natAbs.log2 < 9000 := by
  have : m.natAbs < 2 ^ 64 := by omega
  exact Nat.lt_of_lt_of_le (PySem.Flt.log2_lt_of (by decide) this) (by decide)
end
/-- the draw, whatever comes -/
theorem x_draw {X : Cx} {N : List Str} {sc : Scope} {P : Program} {w : World} {K : PySem.W.Frag} {mg : Str → Option Value} {base : Heap} {k jl : Nat} {e : Expr} {es : List Expr} {pos p : Pos} {sa sb : Addr} {B0 H0 : Hp} {h0 : H0 sa ≠ none ∧ H0 sb ≠ none} {ρ : En} {z z1 : List Int × Int} {m : Int}
    (F : Fnc P w K mg base "_law_draw" jl (spZ K 1 frDraw)) (C : Cxt X N sc P w K mg base k) (hg : GlS sc "_law_draw") (ha : XA X (gZ sa sb B0 H0 h0) (e :: es) ρ z [.raw (.ref sa), .int m] z1) (hm : 0 < m) (hm2 : m < 2 ^ 64) (hj : jl ≤ k := by decide)
    (he : starEach (e :: es) X.env = (false, eval e X.env) :: starEach es X.env := by rfl) (hpl : (backTo pos (starEach es X.env)).any (·.1) = false := by rfl) :
    XE X (gZ sa sb B0 H0 h0) (.Call (.Name "_law_draw" p) (e :: es) [] pos) ρ z (.int (drawZ z1 m).1) (drawZ z1 m).2 := x_callZ F C hg ha ⟨m, rfl, hm, log_ok hm hm2, rfl, rfl⟩ rfl hj (by decide) he hpl
end DL

namespace DL
open PySem PySem.Spec PyProof.Rows L2
section
variable {X : Cx} {Γ : G} {N : List Str} {sc : Scope} {P : Program} {w : World} {K : PySem.W.Frag} {mg : Str → Option Value} {base : Heap} {k : Nat}
variable {e a b c tg it elt iter : Expr} {es tgs ifs : List Expr} {st : Stmt} {sts body : List Stmt} {ρ ρ' ρ1 ρ2 : En} {z z1 z2 z3 : Γ.Z} {d d0 d1 d2 d3 : D} {ds ds1 ds2 : List D} {pos p p2 : Pos} {i j : Int} {Po : Post Γ} {s t : Bool} {x : Str}
/-- zip of two tuples -/
theorem xi_zipT {kk : Nat} {tpos : Pos} (C : Cxt X N sc P w K mg base k) (hg : GlS sc "zip") (hm : mg "zip" = none) (ha : XE X Γ a ρ z (.tup ds1) z1) (h : XE X Γ b ρ z1 (.tup ds2) z2)
    (hs : starEach [a, b] X.env = (false, eval a X.env) :: starEach [b] X.env := by rfl) (hpl : (backTo pos (starEach [b] X.env)).any (·.1) = false := by rfl) (hs2 : starEach [b] X.env = (false, eval b X.env) :: starEach [] X.env := by rfl) :
    XI X Γ (.Tuple tgs kk tpos) (.Call (.Name "zip" p) [a, b] [] pos) ρ z (min ds1.length ds2.length) (fun m => .tup [ds1.getD m .non, ds2.getD m .non]) z2 := fun σ B H R S q => by
  refine iOf (RZ.pi_zipA (C.gl hg) (by rw [C.hmg]; exact hm) paS hs hpl) (a_cons ha (a_cons h a_nil hs2) hs σ B H _ S fun vs B1 H1 t1 p1 r1 => ?_)
  cases r1 with
  | cons r1 r0 => cases r0 with
    | cons r2 r0 =>
      cases r0
      cases r1 with
      | @tup a vs _ hl r => cases r2 with
        | @tup b us _ hl2 r2 =>
          refine ⟨a, b, vs, us, rfl, .inr ⟨t1.sub.sqT hl, t1.sub.sqT hl2, q (RZ.ItzT X.K a b) B1 H1 t1 p1 (fun B2 H2 e1 e2 => ⟨vs, us, (e1.trans e2).sqT hl, (e1.trans e2).sqT hl2, by rw [r.len, r2.len]; omega⟩) (fun m B2 H2 hm e1 e2 => ?_) (fun m B2 H2 x H3 hm e1 e2 y => ?_)⟩⟩
          · have hv : m < vs.length := by rw [r.len]; omega
            have hu : m < us.length := by rw [r2.len]; omega
            exact ⟨vs, us, vs[m], us[m], (e1.trans e2).sqT hl, (e1.trans e2).sqT hl2, List.getElem?_eq_getElem hv, List.getElem?_eq_getElem hu⟩
          · obtain ⟨T, x, y', rfl, hT, rfl, y1, y2⟩ := y
            obtain ⟨d, hd, rd⟩ := r.getV (y1 vs ((e1.trans e2).sqT hl))
            obtain ⟨d', hd', rd'⟩ := r2.getV (y2 us ((e1.trans e2).sqT hl2))
            have st : Stp B2 H2 _ _ := .new (o := .tup [x, y']) e2 hT
            refine ⟨_, st, ?_⟩
            show Rep X.K _ _ (.tup [ds1.getD m .non, ds2.getD m .non])
            rw [getD_of hd, getD_of hd']
            exact .tup (.of upd_same) (.cons ((rd.mono e1).mono st.eB) (.cons ((rd'.mono e1).mono st.eB) .nil))
/-- a = b = e -/
theorem xs_asg2 {tg2 : Expr} {ns ms : List Nat} (C : Cxd X N sc P w K mg base k) (h : XE X Γ e ρ z d z1) (g : XG X Γ tg ns d ρ ρ1) (g2 : XG X Γ tg2 ms d ρ1 ρ2) (q : Po.nx ρ2 z1) (ha : (assignEach [tg, tg2] X.env).map (·.2) = [assign tg X.env, assign tg2 X.env] := by rfl) (hw : swappedStores [tg, tg2] e X.env = pure none := by rfl) :
    XS X Γ (.Assign [tg, tg2] e pos) ρ z Po := fun σ B H E S l => by
  refine sOf (ps_asg2 peS pgS pgS ha hw) (h σ B H _ S fun v B1 H1 t1 p1 r1 => ?_)
  exact g _ σ B1 H1 v _ (S.stepM t1 p1) r1 fun σ' S' _ => g2 _ σ' B1 H1 v _ S' r1 fun σ2 S2 _ => l.nx _ _ _ B1 H1 t1.eB S2 q
/-- names that are not all plain locals are not stored in the other order -/
def swNo (ts vs : List Expr) (sc : Scope) : Bool :=
  !(!(ts.length == 2 || ts.length == 3) || vs.length != ts.length || (envS sc).blockKind != .function) && (!(vs.any fun | .Starred .. => true | _ => false) &&
  ((ts.filterMap fun
    | .Name id pos => if (envS sc).kindOf id == some .local && pos.line == (ts.head?.map (·.pos.line)).getD 0 then some id else none
    | _ => none).length != ts.length))
theorem sw_no {ts vs : List Expr} {k k2 : Nat} {p p2 : Pos} {sc : Scope} (h : swNo ts vs sc = true) : swappedStores [.Tuple ts k p] (.Tuple vs k2 p2) (envS sc) = pure none := by
  unfold swNo at h
  rw [Bool.and_eq_true, Bool.and_eq_true] at h
  obtain ⟨h1, h4, h5⟩ := h
  have e1 := (Bool.not_eq_true' _).mp h1
  have h4 := (Bool.not_eq_true' _).mp h4
  show (if (!(ts.length == 2 || ts.length == 3) || vs.length != ts.length || (envS sc).blockKind != .function) = true then pure none else
    if (vs.any fun | .Starred .. => true | _ => false) = true then pure none else
    if ((ts.filterMap fun
      | .Name id pos => if (envS sc).kindOf id == some .local && pos.line == (ts.head?.map (·.pos.line)).getD 0 then some id else none
      | _ => none).length != ts.length || (ts.filterMap fun
      | .Name id pos => if (envS sc).kindOf id == some .local && pos.line == (ts.head?.map (·.pos.line)).getD 0 then some id else none
      | _ => none).eraseDups.length != (ts.filterMap fun
      | .Name id pos => if (envS sc).kindOf id == some .local && pos.line == (ts.head?.map (·.pos.line)).getD 0 then some id else none
      | _ => none).length) = true then pure none else _) = _
  rw [e1, h4, h5]
  rfl
/-- a, b = x, y by way of the pair -/
theorem xs_pair {ts vs : List Expr} {ns : List Nat} {k1 k2 : Nat} {p1 p2 : Pos} (C : Cxd X N sc P w K mg base k) (h : XE X Γ (.Tuple vs k2 p2) ρ z d z1) (g : XG X Γ (.Tuple ts k1 p1) ns d ρ ρ1) (q : Po.nx ρ1 z1) (hw : swNo ts vs sc = true)
    (hs : swapsWithSole [.Tuple ts k1 p1] (.Tuple vs k2 p2) pos.line X.env = pure false := by rfl)
    (h1 : (assignEach [.Tuple ts k1 p1] X.env).map (·.2) = [assign (.Tuple ts k1 p1) X.env] := by rfl) : XS X Γ (.Assign [.Tuple ts k1 p1] (.Tuple vs k2 p2) pos) ρ z Po := xs_asg C h g q hs (by rw [swap_env C.hsc]; exact sw_no hw) h1
theorem xg_to {ns : List Nat} {d' : D} (h : XG X Γ tg ns d ρ ρ') (e : d = d') : XG X Γ tg ns d' ρ ρ' := e ▸ h
end
end DL

namespace L06
open PySem PySem.Spec PyProof.Rows L2 DL
def topS (i : Nat) : Stmt := PySem.Challenge.pw_footpath_k06_extents.main.body.getD i (.Pass ⟨0, 0, 0, 0⟩)
abbrev sState : Stmt := topS 6
abbrev sDraw : Stmt := topS 7
theorem scState : FnScope ["script", "seed", "cell"] ["script"] (defScope sState) := ⟨rfl, rfl, rfl, by decide +kernel, rfl, by decide +kernel, by decide +kernel⟩
theorem scDraw : FnScope ["state", "many", "cells", "value", "mixed"] ["state", "many"] (defScope sDraw) := ⟨rfl, rfl, rfl, by decide +kernel, rfl, by decide +kernel, by decide +kernel⟩
section
variable {P : Program} {w : World} {K : PySem.W.Frag} {mg : Str → Option Value} {base : Heap}
theorem ixN_zero {n : Nat} (h : 0 < n) : ixN n 0 = some 0 := by
  unfold ixN
  rw [if_pos (by decide), if_pos (by omega)]
  rfl
theorem ok_state {f : Addr} {fd : FuncData} {k : Nat} (F : Fun K "_law_state" "_law_state" sState f fd) (m_int : mg "int" = none) (m_abs : mg "abs" = none) : FnOk P w K mg base CX0 (k + 1) f fd ["script"] (spState K) := by
  refine F.ok scState (fun vs H Q E h => ?_) (fun cdv A outer s H vs Q E hr h => ?_)
  · obtain ⟨a, ns, rfl, _⟩ := h; rfl
  · obtain ⟨a, ns, rfl, hS, hlen, q⟩ := h
    refine ⟨_, pss_cons (ps_set (i := 1) scState.nd rfl (.inl rfl) pe_int)
      (pss_cons (ps_for PassesOwn.never rfl (pi_list (pv 0)) (pg_name (i := 2) scState.nd rfl (.inl rfl))
        (pss_one (ps_set (i := 1) scState.nd rfl (.inl rfl) (pe_op op_mod (pe_callTy call_int1 (by rfl) m_int (by decide +kernel) (pa_cons (pe_op op_add (pe_op op_mul (pv 1) pe_int) (pv 2)) pa_nil)) pe_int))))
      (pss_one (ps_ret (pe_lst (pa_cons (pe_lc (own := [("cell", 2)]) (g := gName 2) (tt := tYes) rfl scState.nd (pi_list (pv 0)) (blkOk_by (N := ["script", "seed", "cell"]) (sc := defScope sState) (by decide +kernel))
          (fun _ _ _ _ _ => pg_name (i := 2) scState.nd rfl (Or.inl rfl)) (fun _ _ _ _ _ => pts_nil) (fun _ _ _ _ _ => pe_callB call_abs (by rfl) m_abs (by decide +kernel) (pa_cons (pv 2) pa_nil)))
        (pa_cons (pe_op op_add (pv 1) pe_int) pa_nil)))))), ?_⟩
    refine ⟨.ref a, rfl, a, rfl, ⟨_, hS⟩, ?_⟩
    refine for_list (xs := ns.map V.int) (fun i σ H' => H = H' ∧ ∃ y2, σ = [some (.ref a), some (.int ((ns.take i).foldl (fun s c => (s * 31 + c) % 1000003) 7)), y2]) ⟨rfl, none, rfl⟩ (fun i σ H' _ h => by rw [← h.1]; exact hS) (fun i x σ H' hx h => ?_) (fun σ H' h => ?_)
    · obtain ⟨rfl, y2, rfl⟩ := h
      rw [List.getElem?_map] at hx
      cases hn : ns[i]? with
      | none => rw [hn] at hx; cases hx
      | some c =>
        rw [hn] at hx
        cases hx
        refine ⟨_, rfl, _, 31, rfl, rfl, .inr ⟨by decide, by decide⟩, .int c, rfl, _, c, rfl, rfl, .inl ⟨_, rfl, _, 1000003, rfl, rfl, (show (0 : Int) < 1000003 by decide), rfl, some (.int c), ?_⟩⟩
        show [some (V.ref a), some (V.int _), some (V.int c)] = _
        rw [List.take_add_one, hn, List.foldl_append]
        rfl
    · obtain ⟨rfl, y2, rfl⟩ := h
      rw [List.take_of_length_le (by simp)]
      refine ⟨.ref a, rfl, a, rfl, ⟨_, hS⟩, fun D hD => ?_⟩
      refine lc_list (K := K) (a := a) (xs := ns.map V.int) (fun i (H' : Hp) => Ex _ H' ∧ H' D = some (.lst (((ns.take i).map absI).map V.int))) ⟨Ex.new hD, upd_same⟩ (fun i H' _ h => h.1.sqL hS) (fun i x H' hx h => ?_) (fun H' h => ?_)
      · rw [List.getElem?_map] at hx
        cases hn : ns[i]? with
        | none => rw [hn] at hx; cases hx
        | some c =>
          rw [hn] at hx
          cases hx
          refine ⟨rfl, ?_⟩
          refine iteT (B := Ex H H' ∧ H' D = some (.lst (((ns.take (i + 1)).map absI).map V.int))) ?_
          refine ⟨_, rfl, c, rfl, _, h.2, ?_, fun b o e => ?_, ?_⟩
          · rw [List.length_map, List.length_map, List.length_take]
            exact Nat.lt_of_le_of_lt (Nat.min_le_right _ _) (small1000 (by omega))
          · rw [upd_ne (ne_of_none e hD)]
            exact h.1 b o e
          · rw [upd_same, List.take_add_one, hn]
            simp [absI]
      · rw [List.length_map, List.take_of_length_le (Nat.le_refl _)] at h
        refine ⟨_, rfl, _, 1, rfl, rfl, (by show 2 ≤ sizeLine; decide), fun p hp => ?_⟩
        have hpD : p ≠ D := fun e => by rw [e, h.2] at hp; cases hp
        have hpH : H p = none := by
          cases e : H p with
          | none => rfl
          | some o => rw [h.1 p o e] at hp; cases hp
        exact q p D _ (h.1.trans (Ex.new hp)) hpD hpH hD upd_same (by rw [upd_ne hpD.symm]; exact h.2)
theorem ok_draw {f : Addr} {fd : FuncData} {k : Nat} (F : Fun K "_law_draw" "_law_draw" sDraw f fd) (m_int : mg "int" = none) (m_len : mg "len" = none) : FnOk P w K mg base CX0 (k + 1) f fd ["state", "many"] (spZ K 1 frDraw) := by
  refine F.ok scDraw (fun vs H Q E h => h.1) (fun cdv A outer s H vs Q E hr h => ?_)
  obtain ⟨hl, sa, sc, vs', ds, z, d, z', B, rfl, ⟨m, rfl, hm, hmb, rfl, rfl⟩, e, hz, r, q⟩ := h
  obtain ⟨v, rfl, rv⟩ := rep1 r
  cases rv
  obtain ⟨hne, hba, hbc, hsa, hsc⟩ := hz
  refine ⟨_, pss_cons (ps_set (i := 2) scDraw.nd rfl (.inl rfl) (pe_ix ix_list (pv 0) pe_int (fun _ _ => rfl)))
    (pss_cons (ps_while PassesOwn.never (PW.pt (pw_and (pt_cmpR op_gt (pe_callB call_len_seq (by rfl) m_len PySem.boot_len (pa_cons (pv 2) pa_nil)) pe_int (nomark _)) (pw_and1 (pt_cmpR op_eq (pe_ix ix_list (pv 2) pe_int (fun _ _ => rfl)) pe_int (nomark _)))))
      (pss_one (ps_expr (pe_bm PySem.F.plainAttrs_list PySem.F.slot_list_pop PySem.F.type_list_pop mt_popAt (pv 2) (pa_cons pe_int pa_nil)))))
    (pss_cons (ps_if (pt_cmpR op_gt (pe_callB call_len_seq (by rfl) m_len PySem.boot_len (pa_cons (pv 2) pa_nil)) pe_int (nomark _))
      (pss_cons (ps_set (i := 3) scDraw.nd rfl (.inl rfl) (pe_ix ix_list (pv 2) pe_int (fun _ _ => rfl)))
      (pss_cons (ps_asg (pe_op op_fdivW (pv 3) (pv 1)) (pg_sub (pv 2) pe_int set_list))
      (pss_one (ps_ret (pe_op op_mod (pe_callTy call_int1 (by rfl) m_int (by decide +kernel) (pa_cons (pv 3) pa_nil)) (pv 1)))))) pss_nil)
    (pss_cons (ps_set (i := 4) scDraw.nd rfl (.inl rfl) (pe_op op_mod (pe_callTy call_int1 (by rfl) m_int (by decide +kernel) (pa_cons (pe_op op_add (pe_op op_mul (pe_ix ix_list (pv 0) pe_int (fun _ _ => rfl)) pe_int) pe_int) pa_nil)) pe_int))
    (pss_cons (ps_asg (pv 4) (pg_sub (pv 0) pe_int set_list))
    (pss_one (ps_ret (pe_op op_mod (pe_callTy call_int1 (by rfl) m_int (by decide +kernel) (pa_cons (pe_op op_fdiv (pv 4) pe_int) pa_nil)) (pv 1)))))))), ?_⟩
  refine ⟨_, rfl, sa, _, 0, .ref sc, rfl, rfl, .of hsa, atI_nat (j := 0) rfl, ?_⟩
  -- the zeros ahead
  have mutSt : ∀ {H' : Hp} {xs : List V} {s : Int}, (∀ b, b ≠ sa → b ≠ sc → H' b = H b) → H' sa = some (.lst [.ref sc, .int s]) → H' sc = some (.lst xs) → StpM (fun a => a = sa ∨ a = sc) B H B H' := fun {H' xs s} h1 h2 h3 => by
    refine ⟨Ex.refl _, fun a o m h => ?_, fun a h => ?_, fun a o h => ?_, fun _ _ => rfl⟩
    · rw [h1 a (fun q => m (.inl q)) (fun q => m (.inr q))]; exact h
    · by_cases q1 : a = sa
      · rw [q1, h2]; exact fun q => nomatch q
      · by_cases q2 : a = sc
        · rw [q2, h3]; exact fun q => nomatch q
        · rw [h1 a q1 q2]; exact h
    · rw [h1 a (fun q => by rw [q, hba] at h; cases h) (fun q => by rw [q, hbc] at h; cases h)]
      exact e a o h
  refine ⟨fun n σ H' => ∃ cs : List Int, n = cs.length ∧ cs.dropWhile (· == 0) = z.1.dropWhile (· == 0) ∧ σ = [some (.ref sa), some (.int m), some (.ref sc), none, none] ∧ (∀ b, b ≠ sa → b ≠ sc → H' b = H b) ∧ H' sa = some (.lst [.ref sc, .int z.2]) ∧ H' sc = some (.lst (cs.map V.int)),
    ⟨z.1.length, z.1, rfl, rfl, rfl, fun _ _ _ => rfl, hsa, hsc⟩, ?_⟩
  rintro n σ H' ⟨cs, rfl, hd, rfl, hf, ha', hc'⟩
  have fin : ∀ {H' : Hp} {cs : List Int}, cs.dropWhile (· == 0) = z.1.dropWhile (· == 0) → (∀ c r, cs = c :: r → c ≠ 0) → (∀ b, b ≠ sa → b ≠ sc → H' b = H b) → H' sa = some (.lst [.ref sc, .int z.2]) → H' sc = some (.lst (cs.map V.int)) →
      ∀ c r, cs = c :: r → drawZ z m = (c % m, (c / m :: r, z.2)) := fun {H' cs} hd hn _ _ _ c r e => by
    subst e
    have h0 := hn c r rfl
    have e1 : (c :: r).dropWhile (· == 0) = c :: r := by
      rw [List.dropWhile_cons, if_neg (by simpa using h0)]
    unfold drawZ
    rw [← hd, e1]
  refine ⟨.ref sc, rfl, sc, _, rfl, .inl (.of hc'), _, 0, rfl, rfl, _, rfl, ?_⟩
  cases cs with
  | nil =>
    rw [decide_eq_false (by decide)]
    refine iteF (iteF ?_)
    refine ⟨.ref sc, rfl, sc, _, rfl, .inl (.of hc'), _, 0, rfl, rfl, _, rfl, ?_⟩
    rw [decide_eq_false (by decide)]
    refine iteF ?_
    have ed : drawZ z m = ((z.2 * 48271 + 12345) % 2147483647 / 64 % m, ([], (z.2 * 48271 + 12345) % 2147483647)) := by
      unfold drawZ
      rw [← hd]
      rfl
    refine ⟨_, rfl, sa, _, 1, .int z.2, rfl, rfl, .of ha', atI_nat (j := 1) rfl, z.2, 48271, rfl, rfl, .inr ⟨by decide, by decide⟩, _, 12345, rfl, rfl, .inl ⟨_, rfl, _, 2147483647, rfl, rfl, (show (0 : Int) < 2147483647 by decide), ?_⟩⟩
    refine ⟨_, rfl, _, rfl, sa, _, 1, 1, rfl, rfl, ha', rfl, ?_⟩
    refine ⟨_, rfl, _, 64, rfl, rfl, ⟨by decide, by decide⟩, .inl ⟨_, rfl, _, rfl, _, m, rfl, rfl, (show (0 : Int) < m from hm), ?_⟩⟩
    rw [ed] at q
    refine q _ B _ (mutSt (xs := []) (s := (z.2 * 48271 + 12345) % 2147483647) (fun b h1 h2 => ?_) upd_same ?_) ⟨hne, hba, hbc, upd_same, ?_⟩ (.int _)
    · rw [upd_ne h1]; exact hf b h1 h2
    · rw [upd_ne hne.symm]; exact hc'
    · rw [upd_ne hne.symm]; exact hc'
  | cons c r =>
    rw [decide_eq_true (by simp)]
    refine iteT ?_
    refine ⟨.ref sc, rfl, sc, _, 0, .int c, rfl, rfl, .of hc', atI_nat (j := 0) rfl, rfl, _, rfl, ?_⟩
    by_cases hc0 : c = 0
    · subst hc0
      rw [decide_eq_true rfl]
      refine iteT ?_
      refine ⟨fun σ' H2 => ∃ n', n' < (0 :: r : List Int).length ∧ ∃ cs : List Int, n' = cs.length ∧ cs.dropWhile (· == 0) = z.1.dropWhile (· == 0) ∧ σ' = [some (.ref sa), some (.int m), some (.ref sc), none, none] ∧ (∀ b, b ≠ sa → b ≠ sc → H2 b = H b) ∧ H2 sa = some (.lst [.ref sc, .int z.2]) ∧ H2 sc = some (.lst (cs.map V.int)),
        fun _ _ h => h, ?_⟩
      refine ⟨.ref sc, rfl, .inl ⟨rfl, _, .inl (.inl hc')⟩, sc, _, 0, 0, .int 0, rfl, rfl, hc', by decide, by decide, (ixN_seq (ixN_zero (by simp))).1, rfl, ?_⟩
      refine ⟨r.length, Nat.lt_succ_self _, r, rfl, ?_, rfl, fun b h1 h2 => ?_, ?_, upd_same⟩
      · rw [← hd, List.dropWhile_cons, if_pos (by decide)]
      · rw [upd_ne h2]; exact hf b h1 h2
      · rw [upd_ne hne]; exact ha'
    · rw [decide_eq_false (fun q => hc0 (V.int.inj q))]
      refine iteF ?_
      refine ⟨.ref sc, rfl, sc, _, rfl, .inl (.of hc'), _, 0, rfl, rfl, _, rfl, ?_⟩
      rw [decide_eq_true (by simp)]
      refine iteT ?_
      have ed := fin hd (fun c' r' e => by cases e; exact hc0) hf ha' hc' c r rfl
      refine ⟨.ref sc, rfl, sc, _, 0, .int c, rfl, rfl, .of hc', atI_nat (j := 0) rfl, ?_⟩
      refine ⟨_, rfl, _, rfl, c, m, rfl, rfl, ⟨hm, hmb⟩, .ref sc, rfl, sc, _, 0, 0, rfl, rfl, hc', ixN_zero (by simp), ?_⟩
      refine ⟨_, rfl, .inl ⟨_, rfl, _, rfl, c, m, rfl, rfl, (show (0 : Int) < m from hm), ?_⟩⟩
      rw [ed] at q
      refine q _ B _ (mutSt (xs := (c / m :: r).map V.int) (s := z.2) (fun b h1 h2 => ?_) ?_ upd_same) ⟨hne, hba, hbc, ?_, upd_same⟩ (.int _)
      · rw [upd_ne h2]; exact hf b h1 h2
      · rw [upd_ne hne]; exact ha'
      · rw [upd_ne hne]; exact ha'
end
end L06

namespace L06
open PySem PySem.Spec PyProof.Rows L2 DL
local macro_rules | `(tactic| walk_at "nb1") => `(tactic| first
  | assumption
  | (apply NB.mul <;> walk_at "nb1")
  | (apply NB.add <;> walk_at "nb1")
  | (apply NB.sub <;> walk_at "nb1")
  | (apply NB.neg <;> walk_at "nb1"))
local macro_rules | `(tactic| walk_at "nb") => `(tactic| (apply NB.cmul; walk_at "nb1"; walk_at "nb1"; first | decide | omega))
abbrev P4 := Int × Int × Int × Int
def t4 (p : P4) : D := .tup [.int p.1, .int p.2.1, .int p.2.2.1, .int p.2.2.2]
local macro_rules | `(tactic| walk_at "en") => `(tactic| (show XSs _ _ _ _ _ _; refine xss_env (by (dsimp only [envD, envZ, envL, t4, List.set, List.length, List.map, List.replicate, List.append_eq, List.cons_append, List.nil_append, Nat.reduceAdd, Nat.reduceSub] <;> rfl)) ?_))
def ax (axis : Int) (p : P4) : Int := if axis = 0 then p.1 else p.2.2.1
def dep (axis sign at' : Int) (p : P4) : Int := sign * (ax axis p - at' * p.2.2.2)
def crossF (a b : Int) (p q : P4) : P4 := (absI b * p.1 + absI a * q.1, absI b * p.2.1 + absI a * q.2.1, absI b * p.2.2.1 + absI a * q.2.2.1, absI b * p.2.2.2 + absI a * q.2.2.2)
def psAt (ps : List P4) (m : Nat) : P4 := ps.getD m (0, 0, 0, 0)
def prev (ps : List P4) (m : Nat) : P4 := if m = 0 then psAt ps (ps.length - 1) else psAt ps (m - 1)
def cutP (f : P4 → Int) (p q : P4) : List P4 := if f p * f q < 0 then [crossF (f p) (f q) p q] else []
def keepP (f : P4 → Int) (q : P4) : List P4 := if 0 ≤ f q then [q] else []
def partC (f : P4 → Int) (ps : List P4) (m : Nat) : List P4 := (List.range m).flatMap fun i => cutP f (prev ps i) (psAt ps i) ++ keepP f (psAt ps i)
def clipF (f : P4 → Int) (ps : List P4) : List P4 := partC f ps ps.length
theorem partC_succ (f : P4 → Int) (ps : List P4) (m : Nat) : partC f ps (m + 1) = (partC f ps m ++ cutP f (prev ps m) (psAt ps m)) ++ keepP f (psAt ps m) := by
  unfold partC
  rw [List.range_succ, List.flatMap_append, List.append_assoc]
  simp
def B4 (n : Nat) (p : P4) : Prop := NB n p.1 ∧ NB n p.2.1 ∧ NB n p.2.2.1 ∧ NB n p.2.2.2
def GB (n : Nat) (ps : List P4) : Prop := ∀ p ∈ ps, B4 n p
theorem psAt_mem {ps : List P4} {m : Nat} (h : m < ps.length) : psAt ps m ∈ ps := by
  unfold psAt
  rw [List.getD_eq_getElem?_getD, List.getElem?_eq_getElem h]
  exact List.getElem_mem h
theorem prev_mem {ps : List P4} {m : Nat} (h : m < ps.length) : prev ps m ∈ ps := by
  unfold prev
  split
  · exact psAt_mem (by omega)
  · exact psAt_mem (by omega)
theorem psAt_get {ps : List P4} {m : Nat} (h : m < ps.length) : ps[m]? = some (psAt ps m) := by
  unfold psAt
  rw [List.getD_eq_getElem?_getD, List.getElem?_eq_getElem h]
  rfl
theorem map_get {g : P4 → D} {ps : List P4} {m : Nat} (h : m < ps.length) : (ps.map g)[m]? = some (g (psAt ps m)) := by
  rw [List.getElem?_map, psAt_get h]
  rfl
theorem map_getD {g : P4 → D} {ps : List P4} {m : Nat} (h : m < ps.length) : (ps.map g).getD m .non = g (psAt ps m) := getD_of (map_get h)
theorem at_cur {g : P4 → D} {ps : List P4} {m : Nat} (h : m < ps.length) : atI (ps.map g) (m : Int) = some (g (psAt ps m)) := atI_nat (map_get h)
theorem at_prev {g : P4 → D} {ps : List P4} {m : Nat} (h : m < ps.length) : atI (ps.map g) ((m : Int) - 1) = some (g (prev ps m)) := by
  unfold prev
  by_cases h0 : m = 0
  · subst h0
    rw [if_pos rfl]
    unfold atI ixN
    rw [if_neg (by omega), if_pos (by rw [List.length_map]; omega)]
    show (ps.map g)[((((0 : Nat) : Int) - 1) + ((ps.map g).length : Int)).toNat]? = _
    rw [show ((((0 : Nat) : Int) - 1) + ((ps.map g).length : Int)).toNat = ps.length - 1 by rw [List.length_map]; omega]
    exact map_get (by omega)
  · rw [if_neg h0, show (m : Int) - 1 = ((m - 1 : Nat) : Int) by omega]
    exact atI_nat (map_get (by omega))
theorem absI_b {n : Nat} {i : Int} (h : NB n i) : NB n (absI i) := by
  have h : i.natAbs < 2 ^ n := h
  show (absI i).natAbs < 2 ^ n
  unfold absI
  split <;> omega
theorem ax_b {n : Nat} {p : P4} {axis : Int} (h : B4 n p) : NB n (ax axis p) := by
  unfold ax
  split
  · exact h.1
  · exact h.2.2.1
theorem dep_b {n : Nat} {p : P4} {axis sign at' : Int} (h : B4 n p) (hs : NB 1 sign) (ha : NB 20 at') : NB (n + 30) (dep axis sign at' p) := by
  have q := hs.mul ((ax_b (axis := axis) h).sub (ha.mul h.2.2.2))
  exact q.up (by omega)
theorem cross_b {n : Nat} {p q : P4} {a b : Int} (hp : B4 n p) (hq : B4 n q) (ha : NB (n + 30) a) (hb : NB (n + 30) b) : B4 (2 * n + 31) (crossF a b p q) := by
  have h : ∀ {x y : Int}, NB n x → NB n y → NB (2 * n + 31) (absI b * x + absI a * y) := fun hx hy => (((absI_b hb).mul hx).add ((absI_b ha).mul hy)).up (by omega)
  exact ⟨h hp.1 hq.1, h hp.2.1 hq.2.1, h hp.2.2.1 hq.2.2.1, h hp.2.2.2 hq.2.2.2⟩
theorem B4.up {n m : Nat} {p : P4} (h : B4 n p) (l : n ≤ m) : B4 m p := ⟨h.1.up l, h.2.1.up l, h.2.2.1.up l, h.2.2.2.up l⟩
theorem clip_b {n : Nat} {ps : List P4} {axis sign at' : Int} (h : GB n ps) (hs : NB 1 sign) (ha : NB 20 at') : GB (2 * n + 31) (clipF (dep axis sign at') ps) := by
  intro p hp
  obtain ⟨i, hi, hp⟩ := List.mem_flatMap.mp hp
  have hi : i < ps.length := List.mem_range.mp hi
  have b1 := h _ (psAt_mem hi)
  have b2 := h _ (prev_mem hi)
  rcases List.mem_append.mp hp with hp | hp
  · unfold cutP at hp
    split at hp
    · rw [List.mem_singleton.mp hp]
      exact cross_b b2 b1 (dep_b b2 hs ha) (dep_b b1 hs ha)
    · cases hp
  · unfold keepP at hp
    split at hp
    · rw [List.mem_singleton.mp hp]
      exact b1.up (by omega)
    · cases hp
theorem partC_len (f : P4 → Int) (ps : List P4) : ∀ m, (partC f ps m).length ≤ 2 * m
  | 0 => Nat.le_refl _
  | m + 1 => by
    have ih := partC_len f ps m
    have h1 : (cutP f (prev ps m) (psAt ps m)).length ≤ 1 := by unfold cutP; split <;> simp
    have h2 : (keepP f (psAt ps m)).length ≤ 1 := by unfold keepP; split <;> simp
    rw [partC_succ, List.length_append, List.length_append]
    omega
def WP (ps : List P4) : Prop := ∀ p ∈ ps, 0 < p.2.2.2
theorem clip_w {ps : List P4} {f : P4 → Int} (h : WP ps) : WP (clipF f ps) := by
  intro p hp
  obtain ⟨i, hi, hp⟩ := List.mem_flatMap.mp hp
  have hi : i < ps.length := List.mem_range.mp hi
  have b1 := h _ (psAt_mem hi)
  have b2 := h _ (prev_mem hi)
  rcases List.mem_append.mp hp with hp | hp
  · unfold cutP at hp
    split at hp
    · rename_i hc
      rw [List.mem_singleton.mp hp]
      have e1 : f (prev ps i) ≠ 0 := fun z => by rw [z, Int.zero_mul] at hc; omega
      have e2 : f (psAt ps i) ≠ 0 := fun z => by rw [z, Int.mul_zero] at hc; omega
      have g1 : 0 < absI (f (prev ps i)) := by unfold absI; split <;> omega
      have g2 : 0 < absI (f (psAt ps i)) := by unfold absI; split <;> omega
      exact Int.add_pos (Int.mul_pos g2 b2) (Int.mul_pos g1 b1)
    · cases hp
  · unfold keepP at hp
    split at hp
    · rw [List.mem_singleton.mp hp]
      exact b1
    · cases hp
def p2 (a : Int × Int) : D := .tup [.int a.1, .int a.2]
def frLess (ds : List D) (d : D) : Prop := ∃ (x y : D) (a b : Int × Int), sqD x = some [.int a.1, .int a.2] ∧ sqD y = some [.int b.1, .int b.2] ∧ NB 5000 a.1 ∧ NB 5000 a.2 ∧ NB 5000 b.1 ∧ NB 5000 b.2 ∧ ds = [x, y] ∧ d = .bl (decide (a.1 * b.2 < b.1 * a.2))
def frCross (ds : List D) (d : D) : Prop := ∃ (p q : P4) (a b : Int) (n : Nat), B4 n p ∧ B4 n q ∧ NB n a ∧ NB n b ∧ n ≤ 5000 ∧ ds = [t4 p, .int a, t4 q, .int b] ∧ d = t4 (crossF a b p q)
def frClip (ds : List D) (d : D) : Prop := ∃ (ps : List P4) (axis sign at' : Int) (n : Nat), (axis = 0 ∨ axis = 2) ∧ NB 1 sign ∧ NB 20 at' ∧ GB n ps ∧ n ≤ 4000 ∧ ps.length ≤ 100 ∧ ds = [.lst (ps.map t4), .int axis, .int sign, .int at'] ∧ d = .lst ((clipF (dep axis sign at') ps).map t4)
theorem ax_at {axis : Int} {p : P4} (h : axis = 0 ∨ axis = 2) : atI [D.int p.1, .int p.2.1, .int p.2.2.1, .int p.2.2.2] axis = some (.int (ax axis p)) := by
  rcases h with rfl | rfl <;> rfl
section
variable {P : Program} {w : World} {K : PySem.W.Frag} {mg : Str → Option Value} {base : Heap}

abbrev sLess : Stmt := topS 1
theorem scLess : FnScope ["one", "other"] ["one", "other"] (defScope sLess) := ⟨rfl, rfl, rfl, by decide +kernel, rfl, by decide +kernel, by decide +kernel⟩
abbrev sCross : Stmt := topS 4
theorem scCross : FnScope ["one", "depth", "other", "other_depth", "share", "other_share", "p", "q"] ["one", "depth", "other", "other_depth"] (defScope sCross) := ⟨rfl, rfl, rfl, by decide +kernel, rfl, by decide +kernel, by decide +kernel⟩
abbrev sClip : Stmt := topS 3
theorem scClip : FnScope ["corners", "axis", "sign", "bound", "depths", "corner", "kept", "at"] ["corners", "axis", "sign", "bound"] (defScope sClip) := ⟨rfl, rfl, rfl, by decide +kernel, rfl, by decide +kernel, by decide +kernel⟩

theorem ok_less {f : Addr} {fd : FuncData} {k : Nat} (F : Fun K "less" "less" sLess f fd) : FnOk P w K mg base CX0 (k + 1) f fd ["one", "other"] (spD K 2 frLess) := by
  refine fn_D F scLess rfl (fun X C B0 H0 ds d hl hf => ?_)
  obtain ⟨x, y, ⟨a1, a2⟩, ⟨b1, b2⟩, hx, hy, h1, h2, h3, h4, rfl, rfl⟩ := hf
  walk_at "en"
  exact xss_cons (xs_ret (x_lt (x_mul (x_ixk 0 (x_var 0 C.toCxt rfl rfl rfl) hx rfl) (x_ixk 1 (x_var 1 C.toCxt rfl rfl rfl) hy rfl) (by walk_at "nb")) (x_mul (x_ixk 0 (x_var 1 C.toCxt rfl rfl rfl) hy rfl) (x_ixk 1 (x_var 0 C.toCxt rfl rfl rfl) hx rfl) (by walk_at "nb"))) rfl)

def co (p : P4) (m : Nat) : Int := if m = 0 then p.1 else if m = 1 then p.2.1 else if m = 2 then p.2.2.1 else p.2.2.2
theorem co_getD (p : P4) {m : Nat} (h : m < 4) : [D.int p.1, .int p.2.1, .int p.2.2.1, .int p.2.2.2].getD m .non = .int (co p m) := by
  have h : m = 0 ∨ m = 1 ∨ m = 2 ∨ m = 3 := by omega
  rcases h with rfl | rfl | rfl | rfl <;> rfl
theorem co_b {n : Nat} {p : P4} (h : B4 n p) (m : Nat) : NB n (co p m) := by
  unfold co
  split
  · exact h.1
  · split
    · exact h.2.1
    · split
      · exact h.2.2.1
      · exact h.2.2.2
theorem ok_cross {f : Addr} {fd : FuncData} {k : Nat} (F : Fun K "crossing" "crossing" sCross f fd) (m_abs : mg "abs" = none) (m_tuple : mg "tuple" = none) (m_zip : mg "zip" = none) : FnOk P w K mg base CX0 (k + 1) f fd ["one", "depth", "other", "other_depth"] (spD K 4 frCross) := by
  refine fn_D F scCross rfl (fun X C B0 H0 ds d hl hf => ?_)
  obtain ⟨p, q, a, b, n, hp, hq, ha, hb, hn, rfl, rfl⟩ := hf
  have hA := absI_b ha
  have hB := absI_b hb
  walk_at "en"
  refine xss_cons (xs_pair C (x_tup (a_cons (x_abs C.toCxt rfl m_abs (x_var 3 C.toCxt rfl rfl rfl)) (a_cons (x_abs C.toCxt rfl m_abs (x_var 1 C.toCxt rfl rfl rfl)) a_nil)) (small (Nat.le_of_ble_eq_true rfl))) (xg_tup C.toCxt (xgs_cons (xg_nameD 4 C rfl rfl) (xgs_cons (xg_nameD 5 C rfl rfl) xgs_nil))) ?_ (by decide +kernel))
  show XSs _ _ _ _ _ _
  refine xss_env (ρ' := [.dat (t4 p), .dat (.int a), .dat (t4 q), .dat (.int b), .dat (.int (absI b)), .dat (.int (absI a)), .no, .no]) rfl ?_
  refine xss_cons (xs_ret (x_tupleL C.toCxt rfl m_tuple (x_ofL (l_map [("p", 6), ("q", 7)] (fun m => .int (absI b * co p m + absI a * co q m)) C.toCxt (by decide +kernel) (xi_zipT C.toCxt rfl m_zip (x_var 0 C.toCxt rfl rfl rfl) (x_var 2 C.toCxt rfl rfl rfl)) (Nat.le_of_ble_eq_true rfl)
    (fun m hm => ?_)))) rfl)
  have hm : m < 4 := hm
  have c1 := co_b hp m
  have c2 := co_b hq m
  refine ⟨[6, 7], _, by simp, fun Xb Cb => ⟨xg_to (xg_tup Cb (xgs_cons (d := .int (co p m)) (xg_name 6 Cb rfl rfl) (xgs_cons (d := .int (co q m)) (xg_name 7 Cb rfl rfl) xgs_nil))) ?_, x_add (x_mul (x_var 4 Cb rfl rfl rfl) (x_var 6 Cb rfl rfl rfl) (by walk_at "nb")) (x_mul (x_var 5 Cb rfl rfl rfl) (x_var 7 Cb rfl rfl rfl) (by walk_at "nb"))⟩⟩
  rw [← co_getD p hm, ← co_getD q hm]

end
end L06

namespace L06
open PySem PySem.Spec PyProof.Rows L2 DL
local macro_rules | `(tactic| walk_at "nb1") => `(tactic| first
  | assumption
  | (apply NB.mul <;> walk_at "nb1")
  | (apply NB.add <;> walk_at "nb1")
  | (apply NB.sub <;> walk_at "nb1")
  | (apply NB.neg <;> walk_at "nb1"))
local macro_rules | `(tactic| walk_at "nb") => `(tactic| (apply NB.cmul; walk_at "nb1"; walk_at "nb1"; first | decide | omega))
local macro_rules | `(tactic| walk_at "en") => `(tactic| (show XSs _ _ _ _ _ _; refine xss_env (by (dsimp only [envD, envZ, envL, t4, List.set, List.length, List.map, List.replicate, List.append_eq, List.cons_append, List.nil_append, Nat.reduceAdd, Nat.reduceSub] <;> rfl)) ?_))
section
variable {P : Program} {w : World} {K : PySem.W.Frag} {mg : Str → Option Value} {base : Heap}

def envC (ps : List P4) (axis sign bd : Int) (dp : List D) (ks : List P4) (x y : Sl) : En := [.dat (.lst (ps.map t4)), .dat (.int axis), .dat (.int sign), .dat (.int bd), .dat (.lst dp), x, .own (ks.map t4), y]
theorem env_app {ps : List P4} {a s b : Int} {dp : List D} {ks : List P4} {x y : Sl} {p : P4} : List.set (envC ps a s b dp ks x y) 6 (.own (ks.map t4 ++ [t4 p])) = envC ps a s b dp (ks ++ [p]) x y := by
  unfold envC
  rw [List.map_append]
  rfl
theorem small_of {n : Nat} (h : n ≤ 1000) : n < sizeLine := small1000 h
theorem ok_clip {f : Addr} {fd : FuncData} {k : Nat} (F : Fun K "clipped" "clipped" sClip f fd) (F_crossing : Fnc P w K mg base "crossing" 1 (spD K 4 frCross)) (m_enumerate : mg "enumerate" = none) : FnOk P w K mg base CX0 (k + 2) f fd ["corners", "axis", "sign", "bound"] (spD K 4 frClip) := by
  refine fn_D F scClip rfl (fun X C B0 H0 ds d hl hf => ?_)
  obtain ⟨ps, axis, sign, bd, n, hax, hs, hb, hg, hn, hlen, rfl, rfl⟩ := hf
  walk_at "en"
  refine xss_cons (xs_setMap 4 [("corner", 5)] (fun m => .int (dep axis sign bd (psAt ps m))) C rfl rfl (by decide +kernel) (xi_list (x_var 0 C.toCxt rfl rfl rfl)) (by rw [List.length_map]; omega) (fun m hm => ?_) ?_)
  · rw [List.length_map] at hm
    have b1 := hg _ (psAt_mem hm)
    have b2 := ax_b (axis := axis) b1
    obtain ⟨_, _, _, b3⟩ := b1
    exact ⟨[5], _, by simp, fun Xb Cb => ⟨xg_to (xg_name 5 Cb rfl rfl) (map_getD hm).symm, x_mul (x_var 2 Cb rfl rfl rfl) (x_sub (x_ix (x_var 5 Cb rfl rfl rfl) (x_var 1 Cb rfl rfl rfl) rfl (ax_at hax)) (x_mul (x_var 3 Cb rfl rfl rfl) (x_ixk 3 (x_var 5 Cb rfl rfl rfl) rfl rfl) (by walk_at "nb"))) (by walk_at "nb")⟩⟩
  refine xss_freeze 4 rfl ?_
  have ed : (List.range (ps.map t4).length).map (fun m => D.int (dep axis sign bd (psAt ps m))) = ps.map fun p => D.int (dep axis sign bd p) := by
    apply List.ext_getElem?
    intro j
    rw [List.getElem?_map, List.length_map]
    by_cases hj : j < ps.length
    · rw [List.getElem?_range hj, List.getElem?_map, psAt_get hj]
      rfl
    · rw [List.getElem?_eq_none (by simp; omega), List.getElem?_eq_none (by simp; omega)]
      rfl
  refine xss_env (show _ = _ from congrArg (fun l => List.set _ 4 (Sl.dat (.lst l))) ed) ?_
  refine xss_cons (xs_setO 6 C rfl rfl (l_lst a_nil (small (Nat.le_of_ble_eq_true rfl))) ?_)
  show XSs _ _ _ _ _ _
  refine xss_env (ρ' := envC ps axis sign bd (ps.map fun p => D.int (dep axis sign bd p)) [] .no .no) rfl ?_
  refine xss_cons (xs_for (fun m ρ z => ∃ x y, ρ = envC ps axis sign bd (ps.map fun p => D.int (dep axis sign bd p)) (partC (dep axis sign bd) ps m) x y) C (xi_enum C.toCxt rfl m_enumerate (x_var 0 C.toCxt rfl rfl rfl)) ⟨.no, .no, rfl⟩ (fun m ρ' z' hm hI => ?_) (fun ρ' z' hI => ?_))
  · obtain ⟨x, y, rfl⟩ := hI
    rw [List.length_map] at hm
    have b1 := hg _ (psAt_mem hm)
    have b2 := hg _ (prev_mem hm)
    have d1 := dep_b (axis := axis) b1 hs hb
    have d2 := dep_b (axis := axis) b2 hs hb
    refine ⟨_, _, xg_to (xg_tup C.toCxt (xgs_cons (d := .int (m : Int)) (xg_nameD 7 C rfl rfl) (xgs_cons (d := t4 (psAt ps m)) (xg_nameD 5 C rfl rfl) xgs_nil))) (by rw [map_getD hm]), ?_⟩
    refine xss_env (ρ' := envC ps axis sign bd (ps.map fun p => D.int (dep axis sign bd p)) (partC (dep axis sign bd) ps m) (.dat (t4 (psAt ps m))) (.dat (.int (m : Int)))) rfl ?_
    refine xss_cut (fun ρ z => ρ = envC ps axis sign bd (ps.map fun p => D.int (dep axis sign bd p)) (partC (dep axis sign bd) ps m ++ cutP (dep axis sign bd) (prev ps m) (psAt ps m)) (.dat (t4 (psAt ps m))) (.dat (.int (m : Int))))
      (xs_if (t_lt (x_mul (x_ix (x_var 4 C.toCxt rfl rfl rfl) (x_sub (x_var 7 C.toCxt rfl rfl rfl) x_int) rfl (at_prev (g := fun p => D.int (dep axis sign bd p)) hm)) (x_ix (x_var 4 C.toCxt rfl rfl rfl) (x_var 7 C.toCxt rfl rfl rfl) rfl (at_cur (g := fun p => D.int (dep axis sign bd p)) hm)) (by walk_at "nb")) x_int) (fun ht => ?_) (fun ht => ?_)) (fun ρ' z2 hM => ?_)
    · have hc := of_decide_eq_true ht
      have pl := partC_len (dep axis sign bd) ps m
      refine xss_cons (xs_append 6 C rfl rfl rfl (x_call F_crossing C.toCxt rfl (a_cons (x_ix (x_var 0 C.toCxt rfl rfl rfl) (x_sub (x_var 7 C.toCxt rfl rfl rfl) x_int) rfl (at_prev (g := t4) hm)) (a_cons (x_ix (x_var 4 C.toCxt rfl rfl rfl) (x_sub (x_var 7 C.toCxt rfl rfl rfl) x_int) rfl (at_prev (g := fun p => D.int (dep axis sign bd p)) hm))
          (a_cons (x_var 5 C.toCxt rfl rfl rfl) (a_cons (x_ix (x_var 4 C.toCxt rfl rfl rfl) (x_var 7 C.toCxt rfl rfl rfl) rfl (at_cur (g := fun p => D.int (dep axis sign bd p)) hm)) a_nil)))) ⟨prev ps m, psAt ps m, _, _, n + 30, b2.up (by omega), b1.up (by omega), d2, d1, by omega, rfl, rfl⟩ rfl (by omega)) (by rw [List.length_map]; exact small_of (by omega)) (xss_nil ?_))
      show List.set _ 6 _ = _
      unfold cutP
      rw [if_pos hc]
      exact env_app
    · have hc := of_decide_eq_false ht
      refine xss_nil ?_
      show _ = envC _ _ _ _ _ _ _ _
      unfold cutP
      rw [if_neg hc, List.append_nil]
    subst hM
    refine xss_cons (xs_if (t_ge (x_ix (x_var 4 C.toCxt rfl rfl rfl) (x_var 7 C.toCxt rfl rfl rfl) rfl (at_cur (g := fun p => D.int (dep axis sign bd p)) hm)) x_int) (fun ht => ?_) (fun ht => ?_))
    · have hc := of_decide_eq_true ht
      have pl := partC_len (dep axis sign bd) ps m
      have cl : (cutP (dep axis sign bd) (prev ps m) (psAt ps m)).length ≤ 1 := by unfold cutP; split <;> simp
      refine xss_cons (xs_append 6 C rfl rfl rfl (x_var 5 C.toCxt rfl rfl rfl) (by rw [List.length_map, List.length_append]; exact small_of (by omega)) (xss_nil (xss_nil ⟨.dat (t4 (psAt ps m)), .dat (.int (m : Int)), ?_⟩)))
      show List.set _ 6 _ = _
      rw [partC_succ]
      unfold keepP
      rw [if_pos hc]
      exact env_app
    · have hc := of_decide_eq_false ht
      refine xss_nil (xss_nil ⟨.dat (t4 (psAt ps m)), .dat (.int (m : Int)), ?_⟩)
      rw [partC_succ]
      unfold keepP
      rw [if_neg hc, List.append_nil]
  · obtain ⟨x, y, rfl⟩ := hI
    refine xss_freeze 6 rfl ?_
    refine xss_cons (xs_ret (x_var 6 C.toCxt rfl rfl rfl) ?_)
    show D.lst _ = .lst _
    rw [List.length_map]
    rfl

end
end L06

namespace L06
open PySem PySem.Spec PyProof.Rows L2 DL
abbrev V3 := Int × Int × Int
def t3 (a : V3) : D := .tup [.int a.1, .int a.2.1, .int a.2.2]
end L06
namespace L06
open PySem PySem.Spec PyProof.Rows L2 DL
local macro_rules | `(tactic| walk_at "nb1") => `(tactic| first
  | assumption
  | (apply NB.mul <;> walk_at "nb1")
  | (apply NB.add <;> walk_at "nb1")
  | (apply NB.sub <;> walk_at "nb1")
  | (apply NB.neg <;> walk_at "nb1"))
local macro_rules | `(tactic| walk_at "nb") => `(tactic| (apply NB.cmul; walk_at "nb1"; walk_at "nb1"; first | decide | omega))
local macro_rules | `(tactic| walk_at "en") => `(tactic| (show XSs _ _ _ _ _ _; refine xss_env (by (dsimp only [envD, t3, envZ, envL, t4, List.set, List.length, List.map, List.replicate, List.append_eq, List.cons_append, List.nil_append, Nat.reduceAdd, Nat.reduceSub] <;> rfl)) ?_))
section
variable {P : Program} {w : World} {K : PySem.W.Frag} {mg : Str → Option Value} {base : Heap}

abbrev sExtent : Stmt := topS 2
theorem scExtent : FnScope ["triangle", "x0", "z0", "x1", "z1", "corners", "x", "y", "z", "axis", "sign", "bound", "heights", "corner", "low", "high", "height"] ["triangle", "x0", "z0", "x1", "z1"] (defScope sExtent) := ⟨rfl, rfl, rfl, by decide +kernel, rfl, by decide +kernel, by decide +kernel⟩

def B3 (n : Nat) (a : V3) : Prop := NB n a.1 ∧ NB n a.2.1 ∧ NB n a.2.2
def up4 (a : V3) : P4 := (a.1, a.2.1, a.2.2, 1)
def pick (a b c : V3) (m : Nat) : V3 := if m = 0 then a else if m = 1 then b else c
theorem pick_at (a b c : V3) {m : Nat} (h : m < 3) : [t3 a, t3 b, t3 c].getD m .non = t3 (pick a b c m) := by
  have h : m = 0 ∨ m = 1 ∨ m = 2 := by omega
  rcases h with rfl | rfl | rfl <;> rfl
def stp (x0 z0 x1 z1 : Int) (m : Nat) : Int × Int × Int := if m = 0 then (0, 1, x0) else if m = 1 then (0, -1, x1) else if m = 2 then (2, 1, z0) else (2, -1, z1)
def overM (ps : List P4) (x0 z0 x1 z1 : Int) : Nat → List P4
  | 0 => ps
  | m + 1 => clipF (dep (stp x0 z0 x1 z1 m).1 (stp x0 z0 x1 z1 m).2.1 (stp x0 z0 x1 z1 m).2.2) (overM ps x0 z0 x1 z1 m)
def overF (a b c : V3) (x0 z0 x1 z1 : Int) : List P4 := overM [up4 a, up4 b, up4 c] x0 z0 x1 z1 4
def nm : Nat → Nat
  | 0 => 12
  | m + 1 => 2 * nm m + 31
theorem nm_le : ∀ {m : Nat}, m ≤ 4 → nm m ≤ 1000 := by
  intro m h
  have h : m = 0 ∨ m = 1 ∨ m = 2 ∨ m = 3 ∨ m = 4 := by omega
  rcases h with rfl | rfl | rfl | rfl | rfl <;> decide
theorem nb_1 : NB 1 1 := NB.of (by decide) (by decide)
theorem nb_m : NB 1 (-1) := NB.of (by decide) (by decide)
theorem stp_ok {x0 z0 x1 z1 : Int} (h0 : NB 12 x0) (h1 : NB 12 z0) (h2 : NB 12 x1) (h3 : NB 12 z1) (m : Nat) : ((stp x0 z0 x1 z1 m).1 = 0 ∨ (stp x0 z0 x1 z1 m).1 = 2) ∧ NB 1 (stp x0 z0 x1 z1 m).2.1 ∧ NB 20 (stp x0 z0 x1 z1 m).2.2 := by
  unfold stp
  split
  · exact ⟨.inl rfl, nb_1, h0.up (by decide)⟩
  · split
    · exact ⟨.inl rfl, nb_m, h2.up (by decide)⟩
    · split
      · exact ⟨.inr rfl, nb_1, h1.up (by decide)⟩
      · exact ⟨.inr rfl, nb_m, h3.up (by decide)⟩
theorem over_b {a b c : V3} {x0 z0 x1 z1 : Int} (ha : B3 12 a) (hb : B3 12 b) (hc : B3 12 c) (h0 : NB 12 x0) (h1 : NB 12 z0) (h2 : NB 12 x1) (h3 : NB 12 z1) : ∀ m, GB (nm m) (overM [up4 a, up4 b, up4 c] x0 z0 x1 z1 m)
  | 0 => by
    intro p hp
    have one : NB 12 1 := nb_1.up (by decide)
    rcases List.mem_cons.mp hp with rfl | hp
    · exact ⟨ha.1, ha.2.1, ha.2.2, one⟩
    · rcases List.mem_cons.mp hp with rfl | hp
      · exact ⟨hb.1, hb.2.1, hb.2.2, one⟩
      · rw [List.mem_singleton.mp hp]
        exact ⟨hc.1, hc.2.1, hc.2.2, one⟩
  | m + 1 => clip_b (over_b ha hb hc h0 h1 h2 h3 m) (stp_ok h0 h1 h2 h3 m).2.1 (stp_ok h0 h1 h2 h3 m).2.2
theorem over_len {a b c : V3} {x0 z0 x1 z1 : Int} : ∀ m, (overM [up4 a, up4 b, up4 c] x0 z0 x1 z1 m).length ≤ 3 * 2 ^ m
  | 0 => by simp [overM]
  | m + 1 => by
    have ih := over_len (a := a) (b := b) (c := c) (x0 := x0) (z0 := z0) (x1 := x1) (z1 := z1) m
    have h := partC_len (dep (stp x0 z0 x1 z1 m).1 (stp x0 z0 x1 z1 m).2.1 (stp x0 z0 x1 z1 m).2.2) (overM [up4 a, up4 b, up4 c] x0 z0 x1 z1 m) (overM [up4 a, up4 b, up4 c] x0 z0 x1 z1 m).length
    show (clipF _ _).length ≤ _
    rw [Nat.pow_succ]
    unfold clipF
    omega
theorem len_lt {m n : Nat} (h : m ≤ 4) (l : n ≤ 3 * 2 ^ m) : n ≤ 48 := by
  have h : m = 0 ∨ m = 1 ∨ m = 2 ∨ m = 3 ∨ m = 4 := by omega
  rcases h with rfl | rfl | rfl | rfl | rfl <;> omega
theorem over_w {a b c : V3} {x0 z0 x1 z1 : Int} : ∀ m, WP (overM [up4 a, up4 b, up4 c] x0 z0 x1 z1 m)
  | 0 => by
    intro p hp
    rcases List.mem_cons.mp hp with rfl | hp
    · exact Int.one_pos
    · rcases List.mem_cons.mp hp with rfl | hp
      · exact Int.one_pos
      · rw [List.mem_singleton.mp hp]
        exact Int.one_pos
  | m + 1 => clip_w (over_w m)
def lowS (l p : P4) : P4 := if p.2.1 * l.2.2.2 < l.2.1 * p.2.2.2 then p else l
def highS (l p : P4) : P4 := if l.2.1 * p.2.2.2 < p.2.1 * l.2.2.2 then p else l
def lowF (ps : List P4) (m : Nat) : P4 := (ps.take m).foldl lowS (psAt ps 0)
def highF (ps : List P4) (m : Nat) : P4 := (ps.take m).foldl highS (psAt ps 0)
def hw (p : P4) : Int × Int := (p.2.1, p.2.2.2)
def extD (ps : List P4) : D := if ps.isEmpty = true then .non else .tup [p2 (hw (lowF ps ps.length)), p2 (hw (highF ps ps.length))]
theorem lowF_succ {ps : List P4} {m : Nat} (h : m < ps.length) : lowF ps (m + 1) = lowS (lowF ps m) (psAt ps m) := by
  unfold lowF
  rw [List.take_add_one, psAt_get h, List.foldl_append]
  rfl
theorem highF_succ {ps : List P4} {m : Nat} (h : m < ps.length) : highF ps (m + 1) = highS (highF ps m) (psAt ps m) := by
  unfold highF
  rw [List.take_add_one, psAt_get h, List.foldl_append]
  rfl
theorem lowF_mem {ps : List P4} (h0 : 0 < ps.length) : ∀ {m : Nat}, m ≤ ps.length → lowF ps m ∈ ps ∧ highF ps m ∈ ps
  | 0, _ => ⟨psAt_mem h0, psAt_mem h0⟩
  | m + 1, h => by
    have ih := lowF_mem h0 (m := m) (by omega)
    rw [lowF_succ (by omega), highF_succ (by omega)]
    unfold lowS highS
    constructor
    · split
      · exact psAt_mem (by omega)
      · exact ih.1
    · split
      · exact psAt_mem (by omega)
      · exact ih.2
def frExtent (ds : List D) (d : D) : Prop := ∃ (a b c : V3) (x0 z0 x1 z1 : Int), B3 12 a ∧ B3 12 b ∧ B3 12 c ∧ NB 12 x0 ∧ NB 12 z0 ∧ NB 12 x1 ∧ NB 12 z1 ∧ ds = [.tup [t3 a, t3 b, t3 c], .int x0, .int z0, .int x1, .int z1] ∧ d = extD (overF a b c x0 z0 x1 z1)
def envE (tr : D) (x0 z0 x1 z1 : Int) (s5 s9 s10 s11 s12 s14 s15 s16 : Sl) : En := [.dat tr, .dat (.int x0), .dat (.int z0), .dat (.int x1), .dat (.int z1), s5, .no, .no, .no, s9, s10, s11, s12, .no, s14, s15, s16]
theorem ok_extent {f : Addr} {fd : FuncData} {k : Nat} (F : Fun K "extent" "extent" sExtent f fd) (F_clipped : Fnc P w K mg base "clipped" 2 (spD K 4 frClip)) (F_less : Fnc P w K mg base "less" 1 (spD K 2 frLess)) : FnOk P w K mg base CX0 (k + 3) f fd ["triangle", "x0", "z0", "x1", "z1"] (spD K 5 frExtent) := by
  refine fn_D F scExtent rfl (fun X C B0 H0 ds d hl hf => ?_)
  obtain ⟨a, b, c, x0, z0, x1, z1, ha, hb, hc, h0, h1, h2, h3, rfl, rfl⟩ := hf
  show XSs _ _ _ _ _ _
  refine xss_env (ρ' := envE (.tup [t3 a, t3 b, t3 c]) x0 z0 x1 z1 .no .no .no .no .no .no .no .no) rfl ?_
  refine xss_cons (xs_setMap 5 [("x", 6), ("y", 7), ("z", 8)] (fun m => t4 (up4 (pick a b c m))) C rfl rfl (by decide +kernel) (xi_tup (x_var 0 C.toCxt rfl rfl rfl)) (Nat.le_of_ble_eq_true rfl)
    (fun m hm => ⟨[6, 7, 8], _, by simp, fun Xb Cb => ⟨xg_to (xg_tup Cb (xgs_cons (xg_name 6 Cb rfl rfl) (xgs_cons (xg_name 7 Cb rfl rfl) (xgs_cons (xg_name 8 Cb rfl rfl) xgs_nil)))) (pick_at a b c hm).symm,
      x_tup (a_cons (x_var 6 Cb rfl rfl rfl) (a_cons (x_var 7 Cb rfl rfl rfl) (a_cons (x_var 8 Cb rfl rfl rfl) (a_cons x_int a_nil)))) (small (Nat.le_of_ble_eq_true rfl))⟩⟩) ?_)
  refine xss_freeze 5 rfl ?_
  refine xss_env (ρ' := envE (.tup [t3 a, t3 b, t3 c]) x0 z0 x1 z1 (.dat (.lst ((overM [up4 a, up4 b, up4 c] x0 z0 x1 z1 0).map t4))) .no .no .no .no .no .no .no) rfl ?_
  refine xss_cons (xs_for (fun m ρ z => ∃ s9 s10 s11, ρ = envE (.tup [t3 a, t3 b, t3 c]) x0 z0 x1 z1 (.dat (.lst ((overM [up4 a, up4 b, up4 c] x0 z0 x1 z1 m).map t4))) s9 s10 s11 .no .no .no .no) C (xi_tup (x_tup (a_cons (x_tup (a_cons x_int (a_cons x_int (a_cons (x_var 1 C.toCxt rfl rfl rfl) a_nil))) (small (Nat.le_of_ble_eq_true rfl))) (a_cons (x_tup (a_cons x_int (a_cons (x_neg x_int) (a_cons (x_var 3 C.toCxt rfl rfl rfl) a_nil))) (small (Nat.le_of_ble_eq_true rfl))) (a_cons (x_tup (a_cons x_int (a_cons x_int (a_cons (x_var 2 C.toCxt rfl rfl rfl) a_nil))) (small (Nat.le_of_ble_eq_true rfl))) (a_cons (x_tup (a_cons x_int (a_cons (x_neg x_int) (a_cons (x_var 4 C.toCxt rfl rfl rfl) a_nil))) (small (Nat.le_of_ble_eq_true rfl))) a_nil)))) (small (Nat.le_of_ble_eq_true rfl)))) ⟨.no, .no, .no, rfl⟩ (fun m ρ' z' hm hI => ?_) (fun ρ' z' hI => ?_))
  · obtain ⟨s9, s10, s11, rfl⟩ := hI
    have hm : m < 4 := hm
    have hit : [D.tup [.int 0, .int 1, .int x0], .tup [.int 0, .int (-1), .int x1], .tup [.int 2, .int 1, .int z0], .tup [.int 2, .int (-1), .int z1]].getD m .non = .tup [.int (stp x0 z0 x1 z1 m).1, .int (stp x0 z0 x1 z1 m).2.1, .int (stp x0 z0 x1 z1 m).2.2] := by
      have h : m = 0 ∨ m = 1 ∨ m = 2 ∨ m = 3 := by omega
      rcases h with rfl | rfl | rfl | rfl <;> rfl
    refine ⟨_, _, xg_to (xg_tup C.toCxt (xgs_cons (xg_nameD 9 C rfl rfl) (xgs_cons (xg_nameD 10 C rfl rfl) (xgs_cons (xg_nameD 11 C rfl rfl) xgs_nil)))) hit.symm, ?_⟩
    obtain ⟨g1, g2, g3⟩ := stp_ok h0 h1 h2 h3 m
    refine xss_cons (xs_set 5 C rfl rfl (x_call F_clipped C.toCxt rfl (a_cons (x_var 5 C.toCxt rfl rfl rfl) (a_cons (x_var 9 C.toCxt rfl rfl rfl) (a_cons (x_var 10 C.toCxt rfl rfl rfl) (a_cons (x_var 11 C.toCxt rfl rfl rfl) a_nil)))) ⟨_, _, _, _, _, g1, g2, g3, over_b ha hb hc h0 h1 h2 h3 m, Nat.le_trans (nm_le (by omega)) (by decide), Nat.le_trans (len_lt (m := m) (by omega) (over_len m)) (by decide), rfl, rfl⟩ rfl (by omega)) (xss_nil ⟨_, _, _, rfl⟩))
  obtain ⟨s9, s10, s11, rfl⟩ := hI
  have gb : GB 1000 (overF a b c x0 z0 x1 z1) := fun p hp => (over_b ha hb hc h0 h1 h2 h3 4 p hp).up (nm_le (Nat.le_refl _))
  have gl : (overF a b c x0 z0 x1 z1).length ≤ 48 := len_lt (m := 4) (Nat.le_refl _) (over_len 4)
  show XSs _ _ _ (envE _ x0 z0 x1 z1 (.dat (.lst ((overF a b c x0 z0 x1 z1).map t4))) s9 s10 s11 .no .no .no .no) _ _
  generalize overF a b c x0 z0 x1 z1 = ps at gb gl ⊢
  refine xss_cons (xs_if (t_not (t_seq (x_var 5 C.toCxt rfl rfl rfl) rfl)) (fun ht => ?_) (fun ht => ?_))
  · refine xss_cons (xs_ret x_non ?_)
    have e : ps.isEmpty = true := by simpa using ht
    show D.non = extD ps
    unfold extD
    rw [if_pos e]
  have e : ps.isEmpty = false := by simpa using ht
  have hp : 0 < ps.length := by
    cases ps with
    | nil => cases e
    | cons p r => simp
  refine xss_nil ?_
  show XSs _ _ _ _ _ _
  refine xss_cons (xs_setMap 12 [("corner", 13)] (fun m => p2 (hw (psAt ps m))) C rfl rfl (by decide +kernel) (xi_list (x_var 5 C.toCxt rfl rfl rfl)) (by rw [List.length_map]; omega) (fun m hm => ?_) ?_)
  · rw [List.length_map] at hm
    exact ⟨[13], _, by simp, fun Xb Cb => ⟨xg_to (xg_name 13 Cb rfl rfl) (map_getD hm).symm, x_tup (a_cons (x_ixk 1 (x_var 13 Cb rfl rfl rfl) rfl rfl) (a_cons (x_ixk 3 (x_var 13 Cb rfl rfl rfl) rfl rfl) a_nil)) (small (Nat.le_of_ble_eq_true rfl))⟩⟩
  refine xss_freeze 12 rfl ?_
  have ed : (List.range (ps.map t4).length).map (fun m => p2 (hw (psAt ps m))) = ps.map fun p => p2 (hw p) := by
    apply List.ext_getElem?
    intro j
    rw [List.getElem?_map, List.length_map]
    by_cases hj : j < ps.length
    · rw [List.getElem?_range hj, List.getElem?_map, psAt_get hj]
      rfl
    · rw [List.getElem?_eq_none (by simp; omega), List.getElem?_eq_none (by simp; omega)]
      rfl
  refine xss_env (show _ = _ from congrArg (fun l => List.set _ 12 (Sl.dat (.lst l))) ed) ?_
  refine xss_env (ρ' := envE (.tup [t3 a, t3 b, t3 c]) x0 z0 x1 z1 (.dat (.lst (ps.map t4))) s9 s10 s11 (.dat (.lst (ps.map fun p => p2 (hw p)))) .no .no .no) rfl ?_
  refine xss_cons (xs_asg2 C (x_ixk 0 (x_var 12 C.toCxt rfl rfl rfl) rfl (map_get (g := fun p => p2 (hw p)) hp)) (xg_nameD 14 C rfl rfl) (xg_nameD 15 C rfl rfl) ?_)
  show XSs _ _ _ _ _ _
  refine xss_env (ρ' := envE (.tup [t3 a, t3 b, t3 c]) x0 z0 x1 z1 (.dat (.lst (ps.map t4))) s9 s10 s11 (.dat (.lst (ps.map fun p => p2 (hw p)))) (.dat (p2 (hw (lowF ps 0)))) (.dat (p2 (hw (highF ps 0)))) .no) rfl ?_
  refine xss_cons (xs_for (fun m ρ z => ∃ s16, ρ = envE (.tup [t3 a, t3 b, t3 c]) x0 z0 x1 z1 (.dat (.lst (ps.map t4))) s9 s10 s11 (.dat (.lst (ps.map fun p => p2 (hw p)))) (.dat (p2 (hw (lowF ps m)))) (.dat (p2 (hw (highF ps m)))) s16) C (xi_list (x_var 12 C.toCxt rfl rfl rfl)) ⟨.no, rfl⟩ (fun m ρ' z' hm hI => ?_) (fun ρ' z' hI => ?_))
  · obtain ⟨s16, rfl⟩ := hI
    rw [List.length_map] at hm
    refine ⟨_, _, xg_to (xg_nameD 16 C rfl rfl) (map_getD (g := fun p => p2 (hw p)) hm).symm, ?_⟩
    have m1 := gb _ (lowF_mem hp (m := m) (by omega)).1
    have m2 := gb _ (lowF_mem hp (m := m) (by omega)).2
    have m3 := gb _ (psAt_mem hm)
    have q1 : ∀ {p : P4}, B4 1000 p → NB 5000 (hw p).1 ∧ NB 5000 (hw p).2 := fun h => ⟨h.2.1.up (by decide), h.2.2.2.up (by decide)⟩
    refine xss_env (ρ' := envE (.tup [t3 a, t3 b, t3 c]) x0 z0 x1 z1 (.dat (.lst (ps.map t4))) s9 s10 s11 (.dat (.lst (ps.map fun p => p2 (hw p)))) (.dat (p2 (hw (lowF ps m)))) (.dat (p2 (hw (highF ps m)))) (.dat (p2 (hw (psAt ps m))))) rfl ?_
    refine xss_cut (fun ρ z => ρ = envE (.tup [t3 a, t3 b, t3 c]) x0 z0 x1 z1 (.dat (.lst (ps.map t4))) s9 s10 s11 (.dat (.lst (ps.map fun p => p2 (hw p)))) (.dat (p2 (hw (lowF ps (m + 1))))) (.dat (p2 (hw (highF ps m)))) (.dat (p2 (hw (psAt ps m)))))
      (xs_if (t_val (x_call F_less C.toCxt rfl (a_cons (x_var 16 C.toCxt rfl rfl rfl) (a_cons (x_var 14 C.toCxt rfl rfl rfl) a_nil)) ⟨_, _, hw (psAt ps m), hw (lowF ps m), rfl, rfl, (q1 m3).1, (q1 m3).2, (q1 m1).1, (q1 m1).2, rfl, rfl⟩ rfl (by omega))) (fun ht => ?_) (fun ht => ?_)) (fun ρ' z2 hM => ?_)
    · have hc : (psAt ps m).2.1 * (lowF ps m).2.2.2 < (lowF ps m).2.1 * (psAt ps m).2.2.2 := of_decide_eq_true ht
      refine xss_cons (xs_set 14 C rfl rfl (x_var 16 C.toCxt rfl rfl rfl) (xss_nil ?_))
      rw [lowF_succ hm]
      unfold lowS
      rw [if_pos hc]
      rfl
    · have hc : ¬ (psAt ps m).2.1 * (lowF ps m).2.2.2 < (lowF ps m).2.1 * (psAt ps m).2.2.2 := of_decide_eq_false ht
      refine xss_nil ?_
      show _ = envE _ _ _ _ _ _ _ _ _ _ _ _ _
      rw [lowF_succ hm]
      unfold lowS
      rw [if_neg hc]
    subst hM
    refine xss_cons (xs_if (t_val (x_call F_less C.toCxt rfl (a_cons (x_var 15 C.toCxt rfl rfl rfl) (a_cons (x_var 16 C.toCxt rfl rfl rfl) a_nil)) ⟨_, _, hw (highF ps m), hw (psAt ps m), rfl, rfl, (q1 m2).1, (q1 m2).2, (q1 m3).1, (q1 m3).2, rfl, rfl⟩ rfl (by omega))) (fun ht => ?_) (fun ht => ?_))
    · have hc : (highF ps m).2.1 * (psAt ps m).2.2.2 < (psAt ps m).2.1 * (highF ps m).2.2.2 := of_decide_eq_true ht
      refine xss_cons (xs_set 15 C rfl rfl (x_var 16 C.toCxt rfl rfl rfl) (xss_nil (xss_nil ⟨.dat (p2 (hw (psAt ps m))), ?_⟩)))
      rw [highF_succ hm]
      unfold highS
      rw [if_pos hc]
      rfl
    · have hc : ¬ (highF ps m).2.1 * (psAt ps m).2.2.2 < (psAt ps m).2.1 * (highF ps m).2.2.2 := of_decide_eq_false ht
      refine xss_nil (xss_nil ⟨.dat (p2 (hw (psAt ps m))), ?_⟩)
      rw [highF_succ hm]
      unfold highS
      rw [if_neg hc]
  · obtain ⟨s16, rfl⟩ := hI
    rw [List.length_map]
    refine xss_cons (xs_ret (x_tup (a_cons (x_var 14 C.toCxt rfl rfl rfl) (a_cons (x_var 15 C.toCxt rfl rfl rfl) a_nil)) (small (Nat.le_of_ble_eq_true rfl))) ?_)
    show D.tup _ = extD ps
    unfold extD
    rw [if_neg (by rw [e]; decide)]

end
end L06

namespace L06
open PySem PySem.Spec PyProof.Rows L2 DL
local macro_rules | `(tactic| walk_at "nb1") => `(tactic| first
  | assumption
  | (apply NB.mul <;> walk_at "nb1")
  | (apply NB.add <;> walk_at "nb1")
  | (apply NB.sub <;> walk_at "nb1")
  | (apply NB.neg <;> walk_at "nb1"))
local macro_rules | `(tactic| walk_at "nb") => `(tactic| (apply NB.cmul; walk_at "nb1"; walk_at "nb1"; first | decide | omega))
local macro_rules | `(tactic| walk_at "en") => `(tactic| (show XSs _ _ _ _ _ _; refine xss_env (by (dsimp only [envD, t3, envZ, envL, t4, List.set, List.length, List.map, List.replicate, List.append_eq, List.cons_append, List.nil_append, Nat.reduceAdd, Nat.reduceSub] <;> rfl)) ?_))
section
variable {P : Program} {w : World} {K : PySem.W.Frag} {mg : Str → Option Value} {base : Heap}

abbrev sBeyond : Stmt := topS 8
theorem scBeyond : FnScope ["point", "axis", "sign", "at"] ["point", "axis", "sign", "at"] (defScope sBeyond) := ⟨rfl, rfl, rfl, by decide +kernel, rfl, by decide +kernel, by decide +kernel⟩
abbrev sLCut : Stmt := topS 9
theorem scLCut : FnScope ["one", "other", "axis", "sign", "at", "a", "b", "k"] ["one", "other", "axis", "sign", "at"] (defScope sLCut) := ⟨rfl, rfl, rfl, by decide +kernel, rfl, by decide +kernel, by decide +kernel⟩
abbrev sLClip : Stmt := topS 10
theorem scLClip : FnScope ["shape", "axis", "sign", "at", "found", "k", "one", "other", "first", "second"] ["shape", "axis", "sign", "at"] (defScope sLClip) := ⟨rfl, rfl, rfl, by decide +kernel, rfl, by decide +kernel, by decide +kernel⟩
abbrev sLOver : Stmt := topS 11
theorem scLOver : FnScope ["triangle", "x0", "z0", "x1", "z1", "shape", "x", "y", "z", "axis", "sign", "at"] ["triangle", "x0", "z0", "x1", "z1"] (defScope sLOver) := ⟨rfl, rfl, rfl, by decide +kernel, rfl, by decide +kernel, by decide +kernel⟩
abbrev sLExtent : Stmt := topS 12
theorem scLExtent : FnScope ["triangle", "x0", "z0", "x1", "z1", "shape", "low", "high", "point"] ["triangle", "x0", "z0", "x1", "z1"] (defScope sLExtent) := ⟨rfl, rfl, rfl, by decide +kernel, rfl, by decide +kernel, by decide +kernel⟩
abbrev sSame : Stmt := topS 15
theorem scSame : FnScope ["one", "other"] ["one", "other"] (defScope sSame) := ⟨rfl, rfl, rfl, by decide +kernel, rfl, by decide +kernel, by decide +kernel⟩

def frBeyond (ds : List D) (d : D) : Prop := ∃ (p : P4) (axis sign at' : Int) (n : Nat), (axis = 0 ∨ axis = 2) ∧ NB 1 sign ∧ NB 20 at' ∧ B4 n p ∧ n ≤ 4000 ∧ ds = [t4 p, .int axis, .int sign, .int at'] ∧ d = .int (dep axis sign at' p)
theorem ok_beyond {f : Addr} {fd : FuncData} {k : Nat} (F : Fun K "_law_beyond" "_law_beyond" sBeyond f fd) : FnOk P w K mg base CX0 (k + 1) f fd ["point", "axis", "sign", "at"] (spD K 4 frBeyond) := by
  refine fn_D F scBeyond rfl (fun X C B0 H0 ds d hl hf => ?_)
  obtain ⟨p, axis, sign, bd, n, hax, hs, hb, hp, hn, rfl, rfl⟩ := hf
  have b2 := ax_b (axis := axis) hp
  obtain ⟨p1, p2, p3, p4⟩ := hp
  walk_at "en"
  exact xss_cons (xs_ret (x_mul (x_var 2 C.toCxt rfl rfl rfl) (x_sub (x_ix (x_var 0 C.toCxt rfl rfl rfl) (x_var 1 C.toCxt rfl rfl rfl) rfl (ax_at hax)) (x_mul (x_var 3 C.toCxt rfl rfl rfl) (x_ixk 3 (x_var 0 C.toCxt rfl rfl rfl) rfl rfl) (by walk_at "nb"))) (by walk_at "nb")) rfl)

def frLCut (ds : List D) (d : D) : Prop := ∃ (p q : P4) (axis sign at' : Int) (n : Nat), (axis = 0 ∨ axis = 2) ∧ NB 1 sign ∧ NB 20 at' ∧ B4 n p ∧ B4 n q ∧ n ≤ 4000 ∧ ds = [t4 p, t4 q, .int axis, .int sign, .int at'] ∧ d = t4 (crossF (dep axis sign at' p) (dep axis sign at' q) p q)
theorem co_get (p : P4) {m : Nat} (h : m < 4) : [D.int p.1, .int p.2.1, .int p.2.2.1, .int p.2.2.2][m]? = some (.int (co p m)) := by
  have h : m = 0 ∨ m = 1 ∨ m = 2 ∨ m = 3 := by omega
  rcases h with rfl | rfl | rfl | rfl <;> rfl
theorem ok_lcut {f : Addr} {fd : FuncData} {k : Nat} (F : Fun K "_law_cut" "_law_cut" sLCut f fd) (F_law_beyond : Fnc P w K mg base "_law_beyond" 1 (spD K 4 frBeyond)) (m_abs : mg "abs" = none) (m_tuple : mg "tuple" = none) (m_range : mg "range" = none) : FnOk P w K mg base CX0 (k + 2) f fd ["one", "other", "axis", "sign", "at"] (spD K 5 frLCut) := by
  refine fn_D F scLCut rfl (fun X C B0 H0 ds d hl hf => ?_)
  obtain ⟨p, q, axis, sign, bd, n, hax, hs, hb, hp, hq, hn, rfl, rfl⟩ := hf
  have hA := absI_b (dep_b (axis := axis) hp hs hb)
  have hB := absI_b (dep_b (axis := axis) hq hs hb)
  walk_at "en"
  refine xss_cons (xs_set 5 C rfl rfl (x_abs C.toCxt rfl m_abs (x_call F_law_beyond C.toCxt rfl (a_cons (x_var 0 C.toCxt rfl rfl rfl) (a_cons (x_var 2 C.toCxt rfl rfl rfl) (a_cons (x_var 3 C.toCxt rfl rfl rfl) (a_cons (x_var 4 C.toCxt rfl rfl rfl) a_nil)))) ⟨p, _, _, _, _, hax, hs, hb, hp, hn, rfl, rfl⟩ rfl (by omega))) ?_)
  walk_at "en"
  refine xss_cons (xs_set 6 C rfl rfl (x_abs C.toCxt rfl m_abs (x_call F_law_beyond C.toCxt rfl (a_cons (x_var 1 C.toCxt rfl rfl rfl) (a_cons (x_var 2 C.toCxt rfl rfl rfl) (a_cons (x_var 3 C.toCxt rfl rfl rfl) (a_cons (x_var 4 C.toCxt rfl rfl rfl) a_nil)))) ⟨q, _, _, _, _, hax, hs, hb, hq, hn, rfl, rfl⟩ rfl (by omega))) ?_)
  show XSs _ _ _ _ _ _
  refine xss_env (ρ' := [.dat (t4 p), .dat (t4 q), .dat (.int axis), .dat (.int sign), .dat (.int bd), .dat (.int (absI (dep axis sign bd p))), .dat (.int (absI (dep axis sign bd q))), .no]) rfl ?_
  refine xss_cons (xs_ret (x_tupleL C.toCxt rfl m_tuple (x_ofL (l_map [("k", 7)] (fun m => .int (co p m * absI (dep axis sign bd q) + co q m * absI (dep axis sign bd p))) C.toCxt (by decide +kernel) (xi_range1 C.toCxt rfl m_range x_int ⟨by decide, by decide⟩) (by decide)
    (fun m hm => ?_)))) ?_)
  · have hm : m < 4 := hm
    have c1 := co_b hp m
    have c2 := co_b hq m
    exact ⟨[7], _, by simp, fun Xb Cb => ⟨xg_name 7 Cb rfl rfl, x_add (x_mul (x_ix (x_var 0 Cb rfl rfl rfl) (x_var 7 Cb rfl rfl rfl) rfl (atI_nat (co_get p hm))) (x_var 6 Cb rfl rfl rfl) (by walk_at "nb")) (x_mul (x_ix (x_var 1 Cb rfl rfl rfl) (x_var 7 Cb rfl rfl rfl) rfl (atI_nat (co_get q hm))) (x_var 5 Cb rfl rfl rfl) (by walk_at "nb"))⟩⟩
  · show D.tup [.int (p.1 * _ + q.1 * _), .int (p.2.1 * _ + q.2.1 * _), .int (p.2.2.1 * _ + q.2.2.1 * _), .int (p.2.2.2 * _ + q.2.2.2 * _)] = _
    generalize dep axis sign bd q = a
    generalize dep axis sign bd p = b
    simp only [t4, crossF, Int.mul_comm]

def envK (ps : List P4) (axis sign bd : Int) (ks : List P4) (x y u v r : Sl) : En := [.dat (.lst (ps.map t4)), .dat (.int axis), .dat (.int sign), .dat (.int bd), .own (ks.map t4), x, y, u, v, r]
theorem envK_app {ps : List P4} {a s b : Int} {ks : List P4} {x y u v r : Sl} {p : P4} : List.set (envK ps a s b ks x y u v r) 4 (.own (ks.map t4 ++ [t4 p])) = envK ps a s b (ks ++ [p]) x y u v r := by
  unfold envK
  rw [List.map_append]
  rfl
theorem dep_neg (axis sign at' : Int) (p : P4) : dep axis (-sign) at' p = -(dep axis sign at' p) := by
  unfold dep
  rw [Int.neg_mul]
theorem absI_neg (a : Int) : absI (-a) = absI a := by
  unfold absI
  split <;> split <;> omega
theorem cross_neg (a b : Int) (p q : P4) : crossF (-a) (-b) p q = crossF a b p q := by
  unfold crossF
  rw [absI_neg, absI_neg]
theorem mul_neg_iff {a b : Int} : (0 < a ∧ b < 0 ∨ a < 0 ∧ 0 < b) ↔ -a * -b < 0 := by
  rw [Int.neg_mul_neg]
  constructor
  · rintro (⟨h1, h2⟩ | ⟨h1, h2⟩)
    · exact Int.mul_neg_of_pos_of_neg h1 h2
    · exact Int.mul_neg_of_neg_of_pos h1 h2
  · intro h
    by_cases h1 : 0 < a
    · by_cases h2 : b < 0
      · exact .inl ⟨h1, h2⟩
      · have := Int.mul_nonneg (Int.le_of_lt h1) (show 0 ≤ b by omega)
        omega
    · by_cases h2 : 0 < b
      · by_cases h3 : a < 0
        · exact .inr ⟨h3, h2⟩
        · have e : a = 0 := by omega
          rw [e, Int.zero_mul] at h
          omega
      · have := Int.mul_nonneg (show 0 ≤ -a by omega) (show 0 ≤ -b by omega)
        rw [Int.neg_mul_neg] at this
        omega
def frLClip (ds : List D) (d : D) : Prop := ∃ (ps : List P4) (axis sign at' : Int) (n : Nat), (axis = 0 ∨ axis = 2) ∧ NB 1 sign ∧ NB 20 at' ∧ GB n ps ∧ n ≤ 4000 ∧ ps.length ≤ 100 ∧ ds = [.lst (ps.map t4), .int axis, .int sign, .int at'] ∧ d = .lst ((clipF (dep axis (-sign) at') ps).map t4)
theorem ok_lclip {f : Addr} {fd : FuncData} {k : Nat} (F : Fun K "_law_clip" "_law_clip" sLClip f fd) (F_law_beyond : Fnc P w K mg base "_law_beyond" 1 (spD K 4 frBeyond)) (F_law_cut : Fnc P w K mg base "_law_cut" 2 (spD K 5 frLCut)) (m_range : mg "range" = none) (m_len : mg "len" = none) : FnOk P w K mg base CX0 (k + 3) f fd ["shape", "axis", "sign", "at"] (spD K 4 frLClip) := by
  refine fn_D F scLClip rfl (fun X C B0 H0 ds d hl hf => ?_)
  obtain ⟨ps, axis, sign, bd, n, hax, hs, hb, hg, hn, hlen, rfl, rfl⟩ := hf
  show XSs _ _ _ _ _ _
  refine xss_cons (xs_setO 4 C rfl rfl (l_lst a_nil (small (Nat.le_of_ble_eq_true rfl))) ?_)
  show XSs _ _ _ _ _ _
  refine xss_env (ρ' := envK ps axis sign bd [] .no .no .no .no .no) rfl ?_
  refine xss_cons (xs_for (fun m ρ z => ∃ x y u v r, ρ = envK ps axis sign bd (partC (dep axis (-sign) bd) ps m) x y u v r) C (xi_range1 C.toCxt rfl m_range (x_len C.toCxt rfl m_len (x_var 0 C.toCxt rfl rfl rfl) rfl) ⟨by rw [List.length_map]; omega, by rw [List.length_map]; omega⟩) ⟨.no, .no, .no, .no, .no, rfl⟩ (fun m ρ' z' hm hI => ?_) (fun ρ' z' hI => ?_))
  · obtain ⟨x, y, u, v, r, rfl⟩ := hI
    rw [List.length_map] at hm
    have hm : m < ps.length := by omega
    have b1 := hg _ (psAt_mem hm)
    have b2 := hg _ (prev_mem hm)
    refine ⟨_, _, (xg_nameD 5 C rfl rfl), ?_⟩
    refine xss_cons (xs_set 6 C rfl rfl (x_ix (x_var 0 C.toCxt rfl rfl rfl) (x_sub (x_var 5 C.toCxt rfl rfl rfl) x_int) rfl (at_prev (g := t4) hm)) ?_)
    refine xss_cons (xs_set 7 C rfl rfl (x_ix (x_var 0 C.toCxt rfl rfl rfl) (x_var 5 C.toCxt rfl rfl rfl) rfl (at_cur (g := t4) hm)) ?_)
    show XSs _ _ _ _ _ _
    refine xss_env (ρ' := envK ps axis sign bd (partC (dep axis (-sign) bd) ps m) (.dat (.int (m : Int))) (.dat (t4 (prev ps m))) (.dat (t4 (psAt ps m))) v r) rfl ?_
    refine xss_cons (xs_set 8 C rfl rfl (x_call F_law_beyond C.toCxt rfl (a_cons (x_var 6 C.toCxt rfl rfl rfl) (a_cons (x_var 1 C.toCxt rfl rfl rfl) (a_cons (x_var 2 C.toCxt rfl rfl rfl) (a_cons (x_var 3 C.toCxt rfl rfl rfl) a_nil)))) ⟨_, _, _, _, _, hax, hs, hb, b2, hn, rfl, rfl⟩ rfl (by omega)) ?_)
    refine xss_cons (xs_set 9 C rfl rfl (x_call F_law_beyond C.toCxt rfl (a_cons (x_var 7 C.toCxt rfl rfl rfl) (a_cons (x_var 1 C.toCxt rfl rfl rfl) (a_cons (x_var 2 C.toCxt rfl rfl rfl) (a_cons (x_var 3 C.toCxt rfl rfl rfl) a_nil)))) ⟨_, _, _, _, _, hax, hs, hb, b1, hn, rfl, rfl⟩ rfl (by omega)) ?_)
    show XSs _ _ _ _ _ _
    refine xss_env (ρ' := envK ps axis sign bd (partC (dep axis (-sign) bd) ps m) (.dat (.int (m : Int))) (.dat (t4 (prev ps m))) (.dat (t4 (psAt ps m))) (.dat (.int (dep axis sign bd (prev ps m)))) (.dat (.int (dep axis sign bd (psAt ps m))))) rfl ?_
    refine xss_cut (fun ρ z => ρ = envK ps axis sign bd (partC (dep axis (-sign) bd) ps m ++ cutP (dep axis (-sign) bd) (prev ps m) (psAt ps m)) (.dat (.int (m : Int))) (.dat (t4 (prev ps m))) (.dat (t4 (psAt ps m))) (.dat (.int (dep axis sign bd (prev ps m)))) (.dat (.int (dep axis sign bd (psAt ps m)))))
      (xs_if (t_w (w_or (t_w (w_and (t_gt (x_var 8 C.toCxt rfl rfl rfl) x_int) (fun _ => (w_and1 (t_lt (x_var 9 C.toCxt rfl rfl rfl) x_int))))) (fun _ => (w_or1 (t_w (w_and (t_lt (x_var 8 C.toCxt rfl rfl rfl) x_int) (fun _ => (w_and1 (t_gt (x_var 9 C.toCxt rfl rfl rfl) x_int))))))))) (fun ht => ?_) (fun ht => ?_)) (fun ρ' z2 hM => ?_)
    · have hc : dep axis (-sign) bd (prev ps m) * dep axis (-sign) bd (psAt ps m) < 0 := by
        rw [dep_neg, dep_neg]
        exact mul_neg_iff.mp (by simpa using ht)
      have pl := partC_len (dep axis (-sign) bd) ps m
      refine xss_cons (xs_append 4 C rfl rfl rfl (x_call F_law_cut C.toCxt rfl (a_cons (x_var 6 C.toCxt rfl rfl rfl) (a_cons (x_var 7 C.toCxt rfl rfl rfl) (a_cons (x_var 1 C.toCxt rfl rfl rfl) (a_cons (x_var 2 C.toCxt rfl rfl rfl) (a_cons (x_var 3 C.toCxt rfl rfl rfl) a_nil))))) ⟨_, _, _, _, _, _, hax, hs, hb, b2, b1, hn, rfl, rfl⟩ rfl (by omega)) (by rw [List.length_map]; exact small_of (by omega)) (xss_nil ?_))
      show List.set _ 4 _ = _
      unfold cutP
      rw [if_pos hc, dep_neg, dep_neg, cross_neg]
      exact envK_app
    · have hc : ¬ dep axis (-sign) bd (prev ps m) * dep axis (-sign) bd (psAt ps m) < 0 := by
        rw [dep_neg, dep_neg]
        intro h
        have q := mul_neg_iff.mpr h
        revert ht
        simp only [Bool.or_eq_false_iff, Bool.and_eq_false_iff, decide_eq_false_iff_not]
        omega
      refine xss_nil ?_
      show _ = envK _ _ _ _ _ _ _ _ _ _
      unfold cutP
      rw [if_neg hc, List.append_nil]
    subst hM
    refine xss_cons (xs_if (t_le (x_var 9 C.toCxt rfl rfl rfl) x_int) (fun ht => ?_) (fun ht => ?_))
    · have hc : 0 ≤ dep axis (-sign) bd (psAt ps m) := by
        rw [dep_neg]
        have := of_decide_eq_true ht
        omega
      have pl := partC_len (dep axis (-sign) bd) ps m
      have cl : (cutP (dep axis (-sign) bd) (prev ps m) (psAt ps m)).length ≤ 1 := by unfold cutP; split <;> simp
      refine xss_cons (xs_append 4 C rfl rfl rfl (x_var 7 C.toCxt rfl rfl rfl) (by rw [List.length_map, List.length_append]; exact small_of (by omega)) (xss_nil (xss_nil ⟨.dat (.int (m : Int)), .dat (t4 (prev ps m)), .dat (t4 (psAt ps m)), .dat (.int (dep axis sign bd (prev ps m))), .dat (.int (dep axis sign bd (psAt ps m))), ?_⟩)))
      rw [partC_succ]
      unfold keepP
      rw [if_pos hc]
      exact envK_app
    · have hc : ¬ 0 ≤ dep axis (-sign) bd (psAt ps m) := by
        rw [dep_neg]
        have := of_decide_eq_false ht
        omega
      refine xss_nil (xss_nil ⟨.dat (.int (m : Int)), .dat (t4 (prev ps m)), .dat (t4 (psAt ps m)), .dat (.int (dep axis sign bd (prev ps m))), .dat (.int (dep axis sign bd (psAt ps m))), ?_⟩)
      rw [partC_succ]
      unfold keepP
      rw [if_neg hc, List.append_nil]
  · obtain ⟨x, y, u, v, r, rfl⟩ := hI
    refine xss_freeze 4 rfl ?_
    refine xss_cons (xs_ret (x_var 4 C.toCxt rfl rfl rfl) ?_)
    show D.lst _ = .lst _
    rw [List.length_map, Int.toNat_natCast]
    rfl

end
end L06

namespace L06
open PySem PySem.Spec PyProof.Rows L2 DL
local macro_rules | `(tactic| walk_at "nb1") => `(tactic| first
  | assumption
  | (apply NB.mul <;> walk_at "nb1")
  | (apply NB.add <;> walk_at "nb1")
  | (apply NB.sub <;> walk_at "nb1")
  | (apply NB.neg <;> walk_at "nb1"))
local macro_rules | `(tactic| walk_at "nb") => `(tactic| (apply NB.cmul; walk_at "nb1"; walk_at "nb1"; first | decide | omega))
local macro_rules | `(tactic| walk_at "en") => `(tactic| (show XSs _ _ _ _ _ _; refine xss_env (by (dsimp only [envD, t3, envZ, envL, t4, List.set, List.length, List.map, List.replicate, List.append_eq, List.cons_append, List.nil_append, Nat.reduceAdd, Nat.reduceSub] <;> rfl)) ?_))
section
variable {P : Program} {w : World} {K : PySem.W.Frag} {mg : Str → Option Value} {base : Heap}

def frOver (ds : List D) (d : D) : Prop := ∃ (a b c : V3) (x0 z0 x1 z1 : Int), B3 12 a ∧ B3 12 b ∧ B3 12 c ∧ NB 12 x0 ∧ NB 12 z0 ∧ NB 12 x1 ∧ NB 12 z1 ∧ ds = [.tup [t3 a, t3 b, t3 c], .int x0, .int z0, .int x1, .int z1] ∧ d = .lst ((overF a b c x0 z0 x1 z1).map t4)
def envO (tr : D) (x0 z0 x1 z1 : Int) (s5 s9 s10 s11 : Sl) : En := [.dat tr, .dat (.int x0), .dat (.int z0), .dat (.int x1), .dat (.int z1), s5, .no, .no, .no, s9, s10, s11]
theorem neg_b {n : Nat} {i : Int} (h : NB n i) : NB n (-i) := h.neg
theorem ok_over {f : Addr} {fd : FuncData} {k : Nat} (F : Fun K "_law_over" "_law_over" sLOver f fd) (F_law_clip : Fnc P w K mg base "_law_clip" 3 (spD K 4 frLClip)) : FnOk P w K mg base CX0 (k + 4) f fd ["triangle", "x0", "z0", "x1", "z1"] (spD K 5 frOver) := by
  refine fn_D F scLOver rfl (fun X C B0 H0 ds d hl hf => ?_)
  obtain ⟨a, b, c, x0, z0, x1, z1, ha, hb, hc, h0, h1, h2, h3, rfl, rfl⟩ := hf
  show XSs _ _ _ _ _ _
  refine xss_env (ρ' := envO (.tup [t3 a, t3 b, t3 c]) x0 z0 x1 z1 .no .no .no .no) rfl ?_
  refine xss_cons (xs_setMap 5 [("x", 6), ("y", 7), ("z", 8)] (fun m => t4 (up4 (pick a b c m))) C rfl rfl (by decide +kernel) (xi_tup (x_var 0 C.toCxt rfl rfl rfl)) (Nat.le_of_ble_eq_true rfl)
    (fun m hm => ⟨[6, 7, 8], _, by simp, fun Xb Cb => ⟨xg_to (xg_tup Cb (xgs_cons (xg_name 6 Cb rfl rfl) (xgs_cons (xg_name 7 Cb rfl rfl) (xgs_cons (xg_name 8 Cb rfl rfl) xgs_nil)))) (pick_at a b c hm).symm,
      x_tup (a_cons (x_var 6 Cb rfl rfl rfl) (a_cons (x_var 7 Cb rfl rfl rfl) (a_cons (x_var 8 Cb rfl rfl rfl) (a_cons x_int a_nil)))) (small (Nat.le_of_ble_eq_true rfl))⟩⟩) ?_)
  refine xss_freeze 5 rfl ?_
  refine xss_env (ρ' := envO (.tup [t3 a, t3 b, t3 c]) x0 z0 x1 z1 (.dat (.lst ((overM [up4 a, up4 b, up4 c] x0 z0 x1 z1 0).map t4))) .no .no .no) rfl ?_
  refine xss_cons (xs_for (fun m ρ z => ∃ s9 s10 s11, ρ = envO (.tup [t3 a, t3 b, t3 c]) x0 z0 x1 z1 (.dat (.lst ((overM [up4 a, up4 b, up4 c] x0 z0 x1 z1 m).map t4))) s9 s10 s11) C (xi_list (x_lst (a_cons (x_tup (a_cons x_int (a_cons (x_neg x_int) (a_cons (x_var 1 C.toCxt rfl rfl rfl) a_nil))) (small (Nat.le_of_ble_eq_true rfl))) (a_cons (x_tup (a_cons x_int (a_cons x_int (a_cons (x_var 3 C.toCxt rfl rfl rfl) a_nil))) (small (Nat.le_of_ble_eq_true rfl))) (a_cons (x_tup (a_cons x_int (a_cons (x_neg x_int) (a_cons (x_var 2 C.toCxt rfl rfl rfl) a_nil))) (small (Nat.le_of_ble_eq_true rfl))) (a_cons (x_tup (a_cons x_int (a_cons x_int (a_cons (x_var 4 C.toCxt rfl rfl rfl) a_nil))) (small (Nat.le_of_ble_eq_true rfl))) a_nil)))) (small (Nat.le_of_ble_eq_true rfl)))) ⟨.no, .no, .no, rfl⟩ (fun m ρ' z' hm hI => ?_) (fun ρ' z' hI => ?_))
  · obtain ⟨s9, s10, s11, rfl⟩ := hI
    have hm : m < 4 := hm
    have hit : [D.tup [.int 0, .int (-1), .int x0], .tup [.int 0, .int 1, .int x1], .tup [.int 2, .int (-1), .int z0], .tup [.int 2, .int 1, .int z1]].getD m .non = .tup [.int (stp x0 z0 x1 z1 m).1, .int (-(stp x0 z0 x1 z1 m).2.1), .int (stp x0 z0 x1 z1 m).2.2] := by
      have h : m = 0 ∨ m = 1 ∨ m = 2 ∨ m = 3 := by omega
      rcases h with rfl | rfl | rfl | rfl <;> rfl
    refine ⟨_, _, xg_to (xg_tup C.toCxt (xgs_cons (xg_nameD 9 C rfl rfl) (xgs_cons (xg_nameD 10 C rfl rfl) (xgs_cons (xg_nameD 11 C rfl rfl) xgs_nil)))) hit.symm, ?_⟩
    obtain ⟨g1, g2, g3⟩ := stp_ok h0 h1 h2 h3 m
    refine xss_cons (xs_set 5 C rfl rfl (x_call F_law_clip C.toCxt rfl (a_cons (x_var 5 C.toCxt rfl rfl rfl) (a_cons (x_var 9 C.toCxt rfl rfl rfl) (a_cons (x_var 10 C.toCxt rfl rfl rfl) (a_cons (x_var 11 C.toCxt rfl rfl rfl) a_nil)))) ⟨_, _, _, _, _, g1, g2.neg, g3, over_b ha hb hc h0 h1 h2 h3 m, Nat.le_trans (nm_le (by omega)) (by decide), Nat.le_trans (len_lt (m := m) (by omega) (over_len m)) (by decide), rfl, rfl⟩ rfl (by omega)) (xss_nil ⟨.dat (.int (stp x0 z0 x1 z1 m).1), .dat (.int (-(stp x0 z0 x1 z1 m).2.1)), .dat (.int (stp x0 z0 x1 z1 m).2.2), ?_⟩))
    rw [Int.neg_neg]
    rfl
  obtain ⟨s9, s10, s11, rfl⟩ := hI
  exact xss_cons (xs_ret (x_var 5 C.toCxt rfl rfl rfl) rfl)

def extL (ps : List P4) : D := if ps.isEmpty = true then .non else .lst [p2 (hw (lowF ps ps.length)), p2 (hw (highF ps ps.length))]
def frLExtent (ds : List D) (d : D) : Prop := ∃ (a b c : V3) (x0 z0 x1 z1 : Int), B3 12 a ∧ B3 12 b ∧ B3 12 c ∧ NB 12 x0 ∧ NB 12 z0 ∧ NB 12 x1 ∧ NB 12 z1 ∧ ds = [.tup [t3 a, t3 b, t3 c], .int x0, .int z0, .int x1, .int z1] ∧ d = extL (overF a b c x0 z0 x1 z1)
def envX (tr : D) (x0 z0 x1 z1 : Int) (s5 s6 s7 s8 : Sl) : En := [.dat tr, .dat (.int x0), .dat (.int z0), .dat (.int x1), .dat (.int z1), s5, s6, s7, s8]
theorem ok_lextent {f : Addr} {fd : FuncData} {k : Nat} (F : Fun K "_law_extent" "_law_extent" sLExtent f fd) (F_law_over : Fnc P w K mg base "_law_over" 4 (spD K 5 frOver)) (m_len : mg "len" = none) : FnOk P w K mg base CX0 (k + 5) f fd ["triangle", "x0", "z0", "x1", "z1"] (spD K 5 frLExtent) := by
  refine fn_D F scLExtent rfl (fun X C B0 H0 ds d hl hf => ?_)
  obtain ⟨a, b, c, x0, z0, x1, z1, ha, hb, hc, h0, h1, h2, h3, rfl, rfl⟩ := hf
  show XSs _ _ _ _ _ _
  refine xss_env (ρ' := envX (.tup [t3 a, t3 b, t3 c]) x0 z0 x1 z1 .no .no .no .no) rfl ?_
  refine xss_cons (xs_set 5 C rfl rfl (x_call F_law_over C.toCxt rfl (a_cons (x_var 0 C.toCxt rfl rfl rfl) (a_cons (x_var 1 C.toCxt rfl rfl rfl) (a_cons (x_var 2 C.toCxt rfl rfl rfl) (a_cons (x_var 3 C.toCxt rfl rfl rfl) (a_cons (x_var 4 C.toCxt rfl rfl rfl) a_nil))))) ⟨a, b, c, x0, z0, x1, z1, ha, hb, hc, h0, h1, h2, h3, rfl, rfl⟩ rfl (by omega)) ?_)
  have gb : GB 1000 (overF a b c x0 z0 x1 z1) := fun p hp => (over_b ha hb hc h0 h1 h2 h3 4 p hp).up (nm_le (Nat.le_refl _))
  have gl : (overF a b c x0 z0 x1 z1).length ≤ 48 := len_lt (m := 4) (Nat.le_refl _) (over_len 4)
  show XSs _ _ _ _ _ _
  refine xss_env (ρ' := envX (.tup [t3 a, t3 b, t3 c]) x0 z0 x1 z1 (.dat (.lst ((overF a b c x0 z0 x1 z1).map t4))) .no .no .no) rfl ?_
  generalize overF a b c x0 z0 x1 z1 = ps at gb gl ⊢
  refine xss_cons (xs_if (t_eqI (x_len C.toCxt rfl m_len (x_var 5 C.toCxt rfl rfl rfl) rfl) x_int) (fun ht => ?_) (fun ht => ?_))
  · refine xss_cons (xs_ret x_non ?_)
    have e : ps.isEmpty = true := by simpa using ht
    show D.non = extL ps
    unfold extL
    rw [if_pos e]
  have e : ps.isEmpty = false := by simpa using ht
  have hp : 0 < ps.length := by
    cases ps with
    | nil => cases e
    | cons p r => simp
  refine xss_nil ?_
  refine xss_cons (xs_set 6 C rfl rfl (x_ixk 0 (x_var 5 C.toCxt rfl rfl rfl) rfl (map_get (g := t4) hp)) ?_)
  refine xss_cons (xs_set 7 C rfl rfl (x_ixk 0 (x_var 5 C.toCxt rfl rfl rfl) rfl (map_get (g := t4) hp)) ?_)
  show XSs _ _ _ _ _ _
  refine xss_env (ρ' := envX (.tup [t3 a, t3 b, t3 c]) x0 z0 x1 z1 (.dat (.lst (ps.map t4))) (.dat (t4 (lowF ps 0))) (.dat (t4 (highF ps 0))) .no) rfl ?_
  refine xss_cons (xs_for (fun m ρ z => ∃ s8, ρ = envX (.tup [t3 a, t3 b, t3 c]) x0 z0 x1 z1 (.dat (.lst (ps.map t4))) (.dat (t4 (lowF ps m))) (.dat (t4 (highF ps m))) s8) C (xi_list (x_var 5 C.toCxt rfl rfl rfl)) ⟨.no, rfl⟩ (fun m ρ' z' hm hI => ?_) (fun ρ' z' hI => ?_))
  · obtain ⟨s8, rfl⟩ := hI
    rw [List.length_map] at hm
    refine ⟨_, _, xg_to (xg_nameD 8 C rfl rfl) (map_getD (g := t4) hm).symm, ?_⟩
    have m1 := gb _ (lowF_mem hp (m := m) (by omega)).1
    have m2 := gb _ (lowF_mem hp (m := m) (by omega)).2
    have m3 := gb _ (psAt_mem hm)
    obtain ⟨_, l1, _, l2⟩ := m1
    obtain ⟨_, l3, _, l4⟩ := m2
    obtain ⟨_, l5, _, l6⟩ := m3
    refine xss_env (ρ' := envX (.tup [t3 a, t3 b, t3 c]) x0 z0 x1 z1 (.dat (.lst (ps.map t4))) (.dat (t4 (lowF ps m))) (.dat (t4 (highF ps m))) (.dat (t4 (psAt ps m)))) rfl ?_
    refine xss_cut (fun ρ z => ρ = envX (.tup [t3 a, t3 b, t3 c]) x0 z0 x1 z1 (.dat (.lst (ps.map t4))) (.dat (t4 (lowF ps (m + 1)))) (.dat (t4 (highF ps m))) (.dat (t4 (psAt ps m))))
      (xs_if (t_lt (x_mul (x_ixk 1 (x_var 8 C.toCxt rfl rfl rfl) rfl rfl) (x_ixk 3 (x_var 6 C.toCxt rfl rfl rfl) rfl rfl) (by walk_at "nb")) (x_mul (x_ixk 1 (x_var 6 C.toCxt rfl rfl rfl) rfl rfl) (x_ixk 3 (x_var 8 C.toCxt rfl rfl rfl) rfl rfl) (by walk_at "nb"))) (fun ht => ?_) (fun ht => ?_)) (fun ρ' z2 hM => ?_)
    · have hc : (psAt ps m).2.1 * (lowF ps m).2.2.2 < (lowF ps m).2.1 * (psAt ps m).2.2.2 := of_decide_eq_true ht
      refine xss_cons (xs_set 6 C rfl rfl (x_var 8 C.toCxt rfl rfl rfl) (xss_nil ?_))
      rw [lowF_succ hm]
      unfold lowS
      rw [if_pos hc]
      rfl
    · have hc : ¬ (psAt ps m).2.1 * (lowF ps m).2.2.2 < (lowF ps m).2.1 * (psAt ps m).2.2.2 := of_decide_eq_false ht
      refine xss_nil ?_
      show _ = envX _ _ _ _ _ _ _ _ _
      rw [lowF_succ hm]
      unfold lowS
      rw [if_neg hc]
    subst hM
    refine xss_cons (xs_if (t_gt (x_mul (x_ixk 1 (x_var 8 C.toCxt rfl rfl rfl) rfl rfl) (x_ixk 3 (x_var 7 C.toCxt rfl rfl rfl) rfl rfl) (by walk_at "nb")) (x_mul (x_ixk 1 (x_var 7 C.toCxt rfl rfl rfl) rfl rfl) (x_ixk 3 (x_var 8 C.toCxt rfl rfl rfl) rfl rfl) (by walk_at "nb"))) (fun ht => ?_) (fun ht => ?_))
    · have hc : (highF ps m).2.1 * (psAt ps m).2.2.2 < (psAt ps m).2.1 * (highF ps m).2.2.2 := of_decide_eq_true ht
      refine xss_cons (xs_set 7 C rfl rfl (x_var 8 C.toCxt rfl rfl rfl) (xss_nil (xss_nil ⟨.dat (t4 (psAt ps m)), ?_⟩)))
      rw [highF_succ hm]
      unfold highS
      rw [if_pos hc]
      rfl
    · have hc : ¬ (highF ps m).2.1 * (psAt ps m).2.2.2 < (psAt ps m).2.1 * (highF ps m).2.2.2 := of_decide_eq_false ht
      refine xss_nil (xss_nil ⟨.dat (t4 (psAt ps m)), ?_⟩)
      rw [highF_succ hm]
      unfold highS
      rw [if_neg hc]
  · obtain ⟨s8, rfl⟩ := hI
    rw [List.length_map]
    refine xss_cons (xs_ret (x_lst (a_cons (x_tup (a_cons (x_ixk 1 (x_var 6 C.toCxt rfl rfl rfl) rfl rfl) (a_cons (x_ixk 3 (x_var 6 C.toCxt rfl rfl rfl) rfl rfl) a_nil)) (small (Nat.le_of_ble_eq_true rfl))) (a_cons (x_tup (a_cons (x_ixk 1 (x_var 7 C.toCxt rfl rfl rfl) rfl rfl) (a_cons (x_ixk 3 (x_var 7 C.toCxt rfl rfl rfl) rfl rfl) a_nil)) (small (Nat.le_of_ble_eq_true rfl))) a_nil)) (small (Nat.le_of_ble_eq_true rfl))) ?_)
    show D.lst _ = extL ps
    unfold extL
    rw [if_neg (by rw [e]; decide)]
    rfl

def frSame (ds : List D) (d : D) : Prop := ∃ (a b : Int × Int), NB 5000 a.1 ∧ NB 5000 a.2 ∧ NB 5000 b.1 ∧ NB 5000 b.2 ∧ ds = [p2 a, p2 b] ∧ d = .bl (decide (0 < a.2) && decide (a.1 * b.2 = b.1 * a.2))
theorem ok_same {f : Addr} {fd : FuncData} {k : Nat} (F : Fun K "_law_same" "_law_same" sSame f fd) : FnOk P w K mg base CX0 (k + 1) f fd ["one", "other"] (spD K 2 frSame) := by
  refine fn_D F scSame rfl (fun X C B0 H0 ds d hl hf => ?_)
  obtain ⟨⟨a1, a2⟩, ⟨b1, b2⟩, h1, h2, h3, h4, rfl, rfl⟩ := hf
  show XSs _ _ _ _ _ _
  exact xss_cons (xs_ret (x_and (x_gt (x_ixk 1 (x_var 0 C.toCxt rfl rfl rfl) rfl rfl) x_int) (fun _ => (x_one (x_eqI (x_mul (x_ixk 0 (x_var 0 C.toCxt rfl rfl rfl) rfl rfl) (x_ixk 1 (x_var 1 C.toCxt rfl rfl rfl) rfl rfl) (by walk_at "nb")) (x_mul (x_ixk 0 (x_var 1 C.toCxt rfl rfl rfl) rfl rfl) (x_ixk 1 (x_var 0 C.toCxt rfl rfl rfl) rfl rfl) (by walk_at "nb")))))) rfl)

end
end L06

namespace L06
open PySem PySem.Spec PyProof.Rows L2 DL
local macro_rules | `(tactic| walk_at "nb1") => `(tactic| first
  | assumption
  | (apply NB.mul <;> walk_at "nb1")
  | (apply NB.add <;> walk_at "nb1")
  | (apply NB.sub <;> walk_at "nb1")
  | (apply NB.neg <;> walk_at "nb1"))
local macro_rules | `(tactic| walk_at "nb") => `(tactic| (apply NB.cmul; walk_at "nb1"; walk_at "nb1"; first | decide | omega))
local macro_rules | `(tactic| walk_at "en") => `(tactic| (show XSs _ _ _ _ _ _; refine xss_env (by (dsimp only [envD, t3, envZ, envL, t4, List.set, List.length, List.map, List.replicate, List.append_eq, List.cons_append, List.nil_append, Nat.reduceAdd, Nat.reduceSub] <;> rfl)) ?_))
section
variable {P : Program} {w : World} {K : PySem.W.Frag} {mg : Str → Option Value} {base : Heap}

abbrev sNumber : Stmt := topS 13
theorem scNumber : FnScope ["state", "most"] ["state", "most"] (defScope sNumber) := ⟨rfl, rfl, rfl, by decide +kernel, rfl, by decide +kernel, by decide +kernel⟩
abbrev sTriangle : Stmt := topS 14
theorem scTriangle : FnScope ["state", "most", "points", "k", "kind", "x", "y", "z"] ["state", "most"] (defScope sTriangle) := ⟨rfl, rfl, rfl, by decide +kernel, rfl, by decide +kernel, by decide +kernel⟩
abbrev sLaw : Stmt := topS 16
theorem scLaw : FnScope ["script", "state", "turn", "most", "triangle", "x0", "z0", "x1", "z1", "due", "told", "one", "other"] ["script"] (defScope sLaw) := ⟨rfl, rfl, rfl, by decide +kernel, rfl, by decide +kernel, by decide +kernel⟩

def pick3 (a b c k : Int) : Int := if k = 0 then a else if k = 1 then b else c
theorem at_pick3 {a b c k : Int} (h0 : 0 ≤ k) (h1 : k < 3) : atI [D.int a, .int b, .int c] k = some (.int (pick3 a b c k)) := by
  have h : k = 0 ∨ k = 1 ∨ k = 2 := by omega
  rcases h with rfl | rfl | rfl <;> rfl
@[irreducible] def numZ (m : Int) (z : List Int × Int) : Int × (List Int × Int) :=
  let r0 := drawZ z 5
  let r1 := drawZ r0.2 m
  let r2 := drawZ r1.2 (3 * m)
  let r3 := drawZ r2.2 3
  (pick3 (r0.1 * 4) r1.1 (r2.1 - m) r3.1, r3.2)
theorem numZ_eq (m : Int) (z : List Int × Int) : numZ m z = (pick3 ((drawZ z 5).1 * 4) (drawZ (drawZ z 5).2 m).1 ((drawZ (drawZ (drawZ z 5).2 m).2 (3 * m)).1 - m) (drawZ (drawZ (drawZ (drawZ z 5).2 m).2 (3 * m)).2 3).1, (drawZ (drawZ (drawZ (drawZ z 5).2 m).2 (3 * m)).2 3).2) := by
  unfold numZ
  rfl
theorem numZ_b {m : Int} (h : 12 ≤ m ∧ m ≤ 1000) (z : List Int × Int) : -1000 ≤ (numZ m z).1 ∧ (numZ m z).1 ≤ 2000 := by
  have a1 := drawZ_lo z (m := 5) (by decide)
  have a2 := drawZ_hi z (m := 5) (by decide)
  have b1 := drawZ_lo (drawZ z 5).2 (m := m) (by omega)
  have b2 := drawZ_hi (drawZ z 5).2 (m := m) (by omega)
  have c1 := drawZ_lo (drawZ (drawZ z 5).2 m).2 (m := 3 * m) (by omega)
  have c2 := drawZ_hi (drawZ (drawZ z 5).2 m).2 (m := 3 * m) (by omega)
  rw [numZ_eq]
  show -1000 ≤ pick3 ((drawZ z 5).1 * 4) (drawZ (drawZ z 5).2 m).1 ((drawZ (drawZ (drawZ z 5).2 m).2 (3 * m)).1 - m) _ ∧ pick3 ((drawZ z 5).1 * 4) (drawZ (drawZ z 5).2 m).1 ((drawZ (drawZ (drawZ z 5).2 m).2 (3 * m)).1 - m) _ ≤ 2000
  unfold pick3
  split
  · omega
  · split <;> omega
def frNumber (ds : List D) (z : List Int × Int) (d : D) (z' : List Int × Int) : Prop := ∃ m : Int, (12 ≤ m ∧ m ≤ 1000) ∧ ds = [.int m] ∧ d = .int (numZ m z).1 ∧ z' = (numZ m z).2
theorem ok_number {f : Addr} {fd : FuncData} {k : Nat} (F : Fun K "_law_number" "_law_number" sNumber f fd) (F_law_draw : Fnc P w K mg base "_law_draw" 1 (spZ K 1 frDraw)) : FnOk P w K mg base CX0 (k + 2) f fd ["state", "most"] (spZ K 1 frNumber) := by
  refine fn_Z F scNumber rfl (fun X C sa sb B0 H0 h ds z d z' hl hf => ?_)
  obtain ⟨m, hm, rfl, rfl, rfl⟩ := hf
  walk_at "en"
  have n5 : NB 3 (drawZ z 5).1 := NB.of (by have := drawZ_lo z (m := 5) (by decide); omega) (by have := drawZ_hi z (m := 5) (by decide); omega)
  have n4 : NB 3 4 := NB.of (by decide) (by decide)
  have n3 : NB 3 3 := NB.of (by decide) (by decide)
  have nmm : NB 20 m := NB.of (by omega) (by omega)
  exact xss_cons (xs_ret (x_ix (x_lst (a_cons (x_mul (x_draw F_law_draw C.toCxt rfl (a_cons (x_hdl 0 C.toCxt rfl rfl rfl) (a_cons x_int a_nil)) (by decide) (by decide) (by omega)) x_int (by walk_at "nb")) (a_cons (x_draw F_law_draw C.toCxt rfl (a_cons (x_hdl 0 C.toCxt rfl rfl rfl) (a_cons (x_var 1 C.toCxt rfl rfl rfl) a_nil)) (by omega) (by omega) (by omega)) (a_cons (x_sub (x_draw F_law_draw C.toCxt rfl (a_cons (x_hdl 0 C.toCxt rfl rfl rfl) (a_cons (x_mul x_int (x_var 1 C.toCxt rfl rfl rfl) (by walk_at "nb")) a_nil)) (by omega) (by omega) (by omega)) (x_var 1 C.toCxt rfl rfl rfl)) a_nil))) (small (Nat.le_of_ble_eq_true rfl)))
    (x_draw F_law_draw C.toCxt rfl (a_cons (x_hdl 0 C.toCxt rfl rfl rfl) (a_cons x_int a_nil)) (by decide) (by decide) (by omega)) rfl (at_pick3 (drawZ_lo _ (by decide)) (drawZ_hi _ (by decide)))) ⟨by rw [numZ_eq], by rw [numZ_eq]⟩)

@[irreducible] def ptZ (m : Int) (z : List Int × Int) : V3 × (List Int × Int) :=
  let a := numZ m z
  let y := drawZ a.2 (2 * m)
  let b := numZ m y.2
  ((a.1, y.1 - m, b.1), b.2)
def ptsZ (m : Int) (z : List Int × Int) : Nat → List V3 × (List Int × Int)
  | 0 => ([], z)
  | k + 1 => ((ptsZ m z k).1 ++ [(ptZ m (ptsZ m z k).2).1], (ptZ m (ptsZ m z k).2).2)
theorem small12 {i : Int} (h : -1000 ≤ i ∧ i ≤ 2000) : NB 12 i := NB.of (by omega) (by omega)
theorem ptZ_eq (m : Int) (z : List Int × Int) : ptZ m z = (((numZ m z).1, (drawZ (numZ m z).2 (2 * m)).1 - m, (numZ m (drawZ (numZ m z).2 (2 * m)).2).1), (numZ m (drawZ (numZ m z).2 (2 * m)).2).2) := by
  unfold ptZ
  rfl
theorem ptZ_b {m : Int} (h : 12 ≤ m ∧ m ≤ 1000) (z : List Int × Int) : B3 12 (ptZ m z).1 := by
  have a1 := drawZ_lo (numZ m z).2 (m := 2 * m) (by omega)
  have a2 := drawZ_hi (numZ m z).2 (m := 2 * m) (by omega)
  rw [ptZ_eq]
  exact ⟨small12 (numZ_b h z), small12 (show -1000 ≤ (drawZ (numZ m z).2 (2 * m)).1 - m ∧ (drawZ (numZ m z).2 (2 * m)).1 - m ≤ 2000 by omega), small12 (numZ_b h _)⟩
def bent (kd : Int) (a b c : V3) : V3 × V3 × V3 := if kd = 0 then (a, b, (a.1, c.2.1, a.2.2)) else if kd = 1 then (a, a, c) else if kd = 2 then ((a.1, a.2.1, a.2.2), (b.1, b.2.1, a.2.2), (c.1, c.2.1, a.2.2)) else (a, b, c)
def triZ (m : Int) (z : List Int × Int) : (V3 × V3 × V3) × (List Int × Int) :=
  let p := ptZ m z
  let q := ptZ m p.2
  let r := ptZ m q.2
  let kd := drawZ r.2 6
  (bent kd.1 p.1 q.1 r.1, kd.2)
theorem bent_b {n : Nat} {kd : Int} {a b c : V3} (ha : B3 n a) (hb : B3 n b) (hc : B3 n c) : B3 n (bent kd a b c).1 ∧ B3 n (bent kd a b c).2.1 ∧ B3 n (bent kd a b c).2.2 := by
  unfold bent
  split
  · exact ⟨ha, hb, ⟨ha.1, hc.2.1, ha.2.2⟩⟩
  · split
    · exact ⟨ha, ha, hc⟩
    · split
      · exact ⟨ha, ⟨hb.1, hb.2.1, ha.2.2⟩, ⟨hc.1, hc.2.1, ha.2.2⟩⟩
      · exact ⟨ha, hb, hc⟩
def frTri (ds : List D) (z : List Int × Int) (d : D) (z' : List Int × Int) : Prop := ∃ m : Int, (12 ≤ m ∧ m ≤ 1000) ∧ ds = [.int m] ∧ d = .tup [t3 (triZ m z).1.1, t3 (triZ m z).1.2.1, t3 (triZ m z).1.2.2] ∧ z' = (triZ m z).2
def envT (m : Int) (ps : List V3) (s3 s4 : Sl) : En := [.hdl 0, .dat (.int m), .own (ps.map t3), s3, s4, .no, .no, .no]
theorem envT_app {m : Int} {ps : List V3} {s3 s4 : Sl} {p : V3} : List.set (envT m ps s3 s4) 2 (.own (ps.map t3 ++ [t3 p])) = envT m (ps ++ [p]) s3 s4 := by
  unfold envT
  rw [List.map_append]
  rfl
theorem ptsZ_len (m : Int) (z : List Int × Int) : ∀ k, (ptsZ m z k).1.length = k
  | 0 => rfl
  | k + 1 => by
    show ((ptsZ m z k).1 ++ [_]).length = _
    rw [List.length_append, ptsZ_len m z k]
    rfl
theorem ok_triangle {f : Addr} {fd : FuncData} {k : Nat} (F : Fun K "_law_triangle" "_law_triangle" sTriangle f fd) (F_law_draw : Fnc P w K mg base "_law_draw" 1 (spZ K 1 frDraw)) (F_law_number : Fnc P w K mg base "_law_number" 2 (spZ K 1 frNumber)) (m_range : mg "range" = none) (m_tuple : mg "tuple" = none) : FnOk P w K mg base CX0 (k + 3) f fd ["state", "most"] (spZ K 1 frTri) := by
  refine fn_Z F scTriangle rfl (fun X C sa sb B0 H0 h ds z d z' hl hf => ?_)
  obtain ⟨m, hm, rfl, rfl, rfl⟩ := hf
  have n2 : NB 3 2 := NB.of (by decide) (by decide)
  have nmm : NB 20 m := NB.of (by omega) (by omega)
  show XSs _ _ _ _ _ _
  refine xss_cons (xs_setO 2 C rfl rfl (l_lst a_nil (small (Nat.le_of_ble_eq_true rfl))) ?_)
  show XSs _ _ _ _ _ _
  refine xss_env (ρ' := envT m [] .no .no) rfl ?_
  refine xss_cons (xs_for (fun j ρ y => ∃ s3, ρ = envT m (ptsZ m z j).1 s3 .no ∧ y = (ptsZ m z j).2) C (xi_range1 C.toCxt rfl m_range x_int ⟨by decide, by decide⟩) ⟨.no, rfl, rfl⟩ (fun j ρ' y' hj hI => ?_) (fun ρ' y' hI => ?_))
  · obtain ⟨s3, rfl, rfl⟩ := hI
    have hj : j < 3 := hj
    refine ⟨_, _, (xg_nameD 3 C rfl rfl), ?_⟩
    refine xss_env (ρ' := envT m (ptsZ m z j).1 (.dat (.int (j : Int))) .no) rfl ?_
    refine xss_cons (xs_append 2 C rfl rfl rfl (x_tup (a_cons (x_callZ F_law_number C.toCxt rfl (a_cons (x_hdl 0 C.toCxt rfl rfl rfl) (a_cons (x_var 1 C.toCxt rfl rfl rfl) a_nil)) ⟨m, hm, rfl, rfl, rfl⟩ rfl (by omega)) (a_cons (x_sub (x_draw F_law_draw C.toCxt rfl (a_cons (x_hdl 0 C.toCxt rfl rfl rfl) (a_cons (x_mul x_int (x_var 1 C.toCxt rfl rfl rfl) (by walk_at "nb")) a_nil)) (by omega) (by omega) (by omega)) (x_var 1 C.toCxt rfl rfl rfl)) (a_cons (x_callZ F_law_number C.toCxt rfl (a_cons (x_hdl 0 C.toCxt rfl rfl rfl) (a_cons (x_var 1 C.toCxt rfl rfl rfl) a_nil)) ⟨m, hm, rfl, rfl, rfl⟩ rfl (by omega)) a_nil))) (small (Nat.le_of_ble_eq_true rfl))) (by rw [List.length_map, ptsZ_len]; exact small_of (by omega)) (xss_nil ⟨.dat (.int (j : Int)), ?_, ?_⟩))
    · show List.set _ 2 _ = envT m ((ptsZ m z j).1 ++ [(ptZ m (ptsZ m z j).2).1]) _ _
      rw [ptZ_eq]
      exact envT_app (p := (_, _, _))
    · show _ = (ptZ m (ptsZ m z j).2).2
      rw [ptZ_eq]
  obtain ⟨s3, rfl, rfl⟩ := hI
  refine xss_cons (xs_set 4 C rfl rfl (x_draw F_law_draw C.toCxt rfl (a_cons (x_hdl 0 C.toCxt rfl rfl rfl) (a_cons x_int a_nil)) (by decide) (by decide) (by omega)) ?_)
  have e3 : (ptsZ m z (Int.toNat 3)).1 = [(ptZ m z).1, (ptZ m (ptZ m z).2).1, (ptZ m (ptZ m (ptZ m z).2).2).1] := rfl
  have ez : (ptsZ m z (Int.toNat 3)).2 = (ptZ m (ptZ m (ptZ m z).2).2).2 := rfl
  have et : triZ m z = (bent (drawZ (ptZ m (ptZ m (ptZ m z).2).2).2 6).1 (ptZ m z).1 (ptZ m (ptZ m z).2).1 (ptZ m (ptZ m (ptZ m z).2).2).1, (drawZ (ptZ m (ptZ m (ptZ m z).2).2).2 6).2) := rfl
  rw [et, ez, e3]
  generalize (ptZ m z).1 = a
  generalize (ptZ m (ptZ m z).2).1 = b
  generalize (ptZ m (ptZ m (ptZ m z).2).2).1 = c
  generalize (drawZ (ptZ m (ptZ m (ptZ m z).2).2).2 6).1 = kd
  generalize (drawZ (ptZ m (ptZ m (ptZ m z).2).2).2 6).2 = z5
  show XSs _ _ _ _ _ _
  refine xss_env (ρ' := envT m [a, b, c] s3 (.dat (.int kd))) rfl ?_
  refine xss_cut (fun ρ y => ρ = envT m (if kd = 0 then [a, b, (a.1, c.2.1, a.2.2)] else [a, b, c]) s3 (.dat (.int kd)) ∧ y = z5) (xs_if (t_eqI (x_var 4 C.toCxt rfl rfl rfl) x_int) (fun ht => ?_) (fun ht => xss_nil ⟨by rw [if_neg (of_decide_eq_false ht)], rfl⟩)) (fun ρ' y' hM => ?_)
  · refine xss_cons (xs_setItem 2 C rfl rfl rfl (x_tup (a_cons (x_ixk 0 (x_ixO 2 C.toCxt rfl rfl rfl x_int (atI_nat (j := 0) rfl)) rfl rfl) (a_cons (x_ixk 1 (x_ixO 2 C.toCxt rfl rfl rfl x_int (atI_nat (j := 2) rfl)) rfl rfl) (a_cons (x_ixk 2 (x_ixO 2 C.toCxt rfl rfl rfl x_int (atI_nat (j := 0) rfl)) rfl rfl) a_nil))) (small (Nat.le_of_ble_eq_true rfl))) x_int rfl (xss_nil ⟨?_, rfl⟩))
    rw [if_pos (of_decide_eq_true ht)]
    rfl
  obtain ⟨rfl, rfl⟩ := hM
  refine xss_cut (fun ρ y => ρ = envT m (if kd = 0 then [a, b, (a.1, c.2.1, a.2.2)] else if kd = 1 then [a, a, c] else [a, b, c]) s3 (.dat (.int kd)) ∧ y = y') (xs_if (t_eqI (x_var 4 C.toCxt rfl rfl rfl) x_int) (fun ht => ?_) (fun ht => xss_nil ⟨by rw [if_neg (of_decide_eq_false ht)], rfl⟩)) (fun ρ' y' hM => ?_)
  · have hk : kd = 1 := of_decide_eq_true ht
    subst hk
    refine xss_env (ρ' := envT m [a, b, c] s3 (.dat (.int 1))) rfl ?_
    exact xss_cons (xs_setItem 2 C rfl rfl rfl (x_ixO 2 C.toCxt rfl rfl rfl x_int (atI_nat (j := 0) rfl)) x_int rfl (xss_nil ⟨rfl, rfl⟩))
  obtain ⟨rfl, rfl⟩ := hM
  refine xss_cut (fun ρ y => ρ = envT m [(bent kd a b c).1, (bent kd a b c).2.1, (bent kd a b c).2.2] s3 (.dat (.int kd)) ∧ y = y') (xs_if (t_eqI (x_var 4 C.toCxt rfl rfl rfl) x_int) (fun ht => ?_) (fun ht => xss_nil ⟨?_, rfl⟩)) (fun ρ' y' hM => ?_)
  · have hk : kd = 2 := of_decide_eq_true ht
    subst hk
    refine xss_env (ρ' := envT m [a, b, c] s3 (.dat (.int 2))) rfl ?_
    refine xss_freeze 2 rfl ?_
    refine xss_cons (xs_setMapC 2 [("x", 5), ("y", 6), ("z", 7)] (fun j => t3 ((pick a b c j).1, (pick a b c j).2.1, a.2.2)) C rfl rfl (by decide +kernel) (xi_list (x_var 2 C.toCxt rfl rfl rfl)) (Nat.le_of_ble_eq_true rfl)
      (fun j hj => ⟨[5, 6, 7], _, by simp, fun Xb Cb => ⟨xg_to (xg_tup Cb (xgs_cons (xg_name 5 Cb rfl rfl) (xgs_cons (xg_name 6 Cb rfl rfl) (xgs_cons (xg_name 7 Cb rfl rfl) xgs_nil)))) (pick_at a b c hj).symm,
        x_tup (a_cons (x_var 5 Cb rfl rfl rfl) (a_cons (x_var 6 Cb rfl rfl rfl) (a_cons (x_ixk 2 (x_ixk 0 (x_var 2 Cb rfl rfl rfl) rfl rfl) rfl rfl) a_nil))) (small (Nat.le_of_ble_eq_true rfl))⟩⟩)
      (xss_nil ⟨rfl, rfl⟩))
  · have hk : ¬ kd = 2 := of_decide_eq_false ht
    unfold bent
    by_cases h0 : kd = 0
    · rw [if_pos h0, if_pos h0]
    · rw [if_neg h0, if_neg h0]
      by_cases h1 : kd = 1
      · rw [if_pos h1, if_pos h1]
      · rw [if_neg h1, if_neg h1, if_neg hk]
  obtain ⟨rfl, rfl⟩ := hM
  refine xss_freeze 2 rfl ?_
  exact xss_cons (xs_ret (x_tupleL C.toCxt rfl m_tuple (x_var 2 C.toCxt rfl rfl rfl)) ⟨rfl, rfl⟩)

end
end L06

namespace L06
open PySem PySem.Spec PyProof.Rows L2 DL
local macro_rules | `(tactic| walk_at "nb1") => `(tactic| first
  | assumption
  | (apply NB.mul <;> walk_at "nb1")
  | (apply NB.add <;> walk_at "nb1")
  | (apply NB.sub <;> walk_at "nb1")
  | (apply NB.neg <;> walk_at "nb1"))
local macro_rules | `(tactic| walk_at "nb") => `(tactic| (apply NB.cmul; walk_at "nb1"; walk_at "nb1"; first | decide | omega))
local macro_rules | `(tactic| walk_at "en") => `(tactic| (show XSs _ _ _ _ _ _; refine xss_env (by (dsimp only [envD, t3, envZ, envL, t4, List.set, List.length, List.map, List.replicate, List.append_eq, List.cons_append, List.nil_append, Nat.reduceAdd, Nat.reduceSub] <;> rfl)) ?_))
section
variable {P : Program} {w : World} {K : PySem.W.Frag} {mg : Str → Option Value} {base : Heap}

def envW (s2 s3 s4 s5 s6 s7 s8 s9 s10 s11 s12 : Sl) : En := [.no, .hdl 0, s2, s3, s4, s5, s6, s7, s8, s9, s10, s11, s12]

theorem at_two4 {m k : Int} (h0 : 0 ≤ k) (h1 : k < 2) : atI [D.int 4, .int m] k = some (.int (if k = 0 then 4 else m)) := by
  have h : k = 0 ∨ k = 1 := by omega
  rcases h with rfl | rfl <;> rfl
theorem ok_law {f : Addr} {fd : FuncData} (F : Fun K "law" "law" sLaw f fd) (F_law_state : Fnc P w K mg base "_law_state" 1 (spState K)) (F_law_draw : Fnc P w K mg base "_law_draw" 1 (spZ K 1 frDraw)) (F_law_number : Fnc P w K mg base "_law_number" 2 (spZ K 1 frNumber))
    (F_law_triangle : Fnc P w K mg base "_law_triangle" 3 (spZ K 1 frTri)) (F_law_extent : Fnc P w K mg base "_law_extent" 5 (spD K 5 frLExtent)) (F_extent : Fnc P w K mg base "extent" 3 (spD K 5 frExtent)) (F_law_same : Fnc P w K mg base "_law_same" 1 (spD K 2 frSame)) (F_less : Fnc P w K mg base "less" 1 (spD K 2 frLess))
    (m_range : mg "range" = none) (m_tuple : mg "tuple" = none) (m_isinstance : mg "isinstance" = none) (m_len : mg "len" = none) (m_bool : mg "bool" = none) : FnOk P w K mg base CX0 6 f fd ["script"] (spLaw K) := by
  refine law_mk (N' := ["turn", "most", "triangle", "x0", "z0", "x1", "z1", "due", "told", "one", "other"]) F scLaw F_law_state (by decide) rfl rfl rfl rfl (by decide) (by decide) (fun X C sa sb B0 H0 h0 z => ?_)
  show XSs _ _ _ _ _ _
  refine xss_env (ρ' := envW .no .no .no .no .no .no .no .no .no .no .no) rfl ?_
  refine xss_cons (xs_for (fun j ρ y => ∃ s2 s3 s4 s5 s6 s7 s8 s9 s10 s11 s12, ρ = envW s2 s3 s4 s5 s6 s7 s8 s9 s10 s11 s12) C (xi_range1 C.toCxt rfl m_range x_int ⟨by decide, by decide⟩) ⟨.no, .no, .no, .no, .no, .no, .no, .no, .no, .no, .no, rfl⟩ (fun j ρ' z hj hI => ?_) (fun ρ' y' hI => ?_))
  · obtain ⟨s2, s3, s4, s5, s6, s7, s8, s9, s10, s11, s12, rfl⟩ := hI
    refine ⟨_, _, (xg_nameD 2 C rfl rfl), ?_⟩
    refine xss_env (ρ' := envW (.dat (.int (j : Int))) s3 s4 s5 s6 s7 s8 s9 s10 s11 s12) rfl ?_
    refine xss_cons (xs_set 3 C rfl rfl (x_ix (x_lst (a_cons x_int (a_cons x_int (a_cons x_int a_nil))) (small (Nat.le_of_ble_eq_true rfl))) (x_draw F_law_draw C.toCxt rfl (a_cons (x_hdl 1 C.toCxt rfl rfl rfl) (a_cons x_int a_nil)) (by decide) (by decide) (by decide)) rfl (at_pick3 (drawZ_lo _ (by decide)) (drawZ_hi _ (by decide)))) ?_)
    have hm : 12 ≤ pick3 12 20 1000 (drawZ z 3).1 ∧ pick3 12 20 1000 (drawZ z 3).1 ≤ 1000 := by
      unfold pick3
      split
      · omega
      · split <;> omega
    show XSs _ _ _ _ _ _
    generalize pick3 12 20 1000 (drawZ z 3).1 = m at hm ⊢
    generalize (drawZ z 3).2 = z1
    refine xss_env (ρ' := envW (.dat (.int (j : Int))) (.dat (.int m)) s4 s5 s6 s7 s8 s9 s10 s11 s12) rfl ?_
    refine xss_cons (xs_set 4 C rfl rfl (x_callZ F_law_triangle C.toCxt rfl (a_cons (x_hdl 1 C.toCxt rfl rfl rfl) (a_cons (x_var 3 C.toCxt rfl rfl rfl) a_nil)) ⟨m, hm, rfl, rfl, rfl⟩ rfl (by decide)) ?_)
    have tb := bent_b (kd := (drawZ (ptZ m (ptZ m (ptZ m z1).2).2).2 6).1) (ptZ_b hm z1) (ptZ_b hm (ptZ m z1).2) (ptZ_b hm (ptZ m (ptZ m z1).2).2)
    have te : (triZ m z1).1 = bent (drawZ (ptZ m (ptZ m (ptZ m z1).2).2).2 6).1 (ptZ m z1).1 (ptZ m (ptZ m z1).2).1 (ptZ m (ptZ m (ptZ m z1).2).2).1 := rfl
    rw [← te] at tb
    show XSs _ _ _ _ _ _
    obtain ⟨ha, hb, hc⟩ := tb
    generalize (triZ m z1).1.1 = a at ha ⊢
    generalize (triZ m z1).1.2.1 = b at hb ⊢
    generalize (triZ m z1).1.2.2 = c at hc ⊢
    generalize (triZ m z1).2 = z2
    refine xss_env (ρ' := envW (.dat (.int (j : Int))) (.dat (.int m)) (.dat (.tup [t3 a, t3 b, t3 c])) s5 s6 s7 s8 s9 s10 s11 s12) rfl ?_
    refine xss_cons (xs_set 5 C rfl rfl (x_callZ F_law_number C.toCxt rfl (a_cons (x_hdl 1 C.toCxt rfl rfl rfl) (a_cons (x_var 3 C.toCxt rfl rfl rfl) a_nil)) ⟨m, hm, rfl, rfl, rfl⟩ rfl (by decide)) ?_)
    have b_x0 := numZ_b hm z2
    show XSs _ _ _ _ _ _
    generalize (numZ m z2).1 = x0 at b_x0 ⊢
    generalize (numZ m z2).2 = z3
    refine xss_env (ρ' := envW (.dat (.int (j : Int))) (.dat (.int m)) (.dat (.tup [t3 a, t3 b, t3 c])) (.dat (.int x0)) s6 s7 s8 s9 s10 s11 s12) rfl ?_
    refine xss_cons (xs_set 6 C rfl rfl (x_callZ F_law_number C.toCxt rfl (a_cons (x_hdl 1 C.toCxt rfl rfl rfl) (a_cons (x_var 3 C.toCxt rfl rfl rfl) a_nil)) ⟨m, hm, rfl, rfl, rfl⟩ rfl (by decide)) ?_)
    have b_z0 := numZ_b hm z3
    show XSs _ _ _ _ _ _
    generalize (numZ m z3).1 = z0 at b_z0 ⊢
    generalize (numZ m z3).2 = z4
    refine xss_env (ρ' := envW (.dat (.int (j : Int))) (.dat (.int m)) (.dat (.tup [t3 a, t3 b, t3 c])) (.dat (.int x0)) (.dat (.int z0)) s7 s8 s9 s10 s11 s12) rfl ?_
    have l0_x1 := drawZ_lo z4 (m := 2) (by decide)
    have l1_x1 := drawZ_hi z4 (m := 2) (by decide)
    have md_x1 : 1 ≤ (if (drawZ z4 2).1 = 0 then 4 else m) ∧ (if (drawZ z4 2).1 = 0 then 4 else m) ≤ 1000 := by split <;> omega
    refine xss_cons (xs_set 7 C rfl rfl (x_add (x_add (x_var 5 C.toCxt rfl rfl rfl) x_int) (x_draw F_law_draw C.toCxt rfl (a_cons (x_hdl 1 C.toCxt rfl rfl rfl) (a_cons (x_ix (x_lst (a_cons x_int (a_cons (x_var 3 C.toCxt rfl rfl rfl) a_nil)) (small (Nat.le_of_ble_eq_true rfl))) (x_draw F_law_draw C.toCxt rfl (a_cons (x_hdl 1 C.toCxt rfl rfl rfl) (a_cons x_int a_nil)) (by decide) (by decide) (by decide)) rfl (at_two4 l0_x1 l1_x1)) a_nil)) (by omega) (by omega) (by decide))) ?_)
    show XSs _ _ _ _ _ _
    generalize (if (drawZ z4 2).1 = 0 then 4 else m) = e_x1 at md_x1 ⊢
    have r0_x1 := drawZ_lo (drawZ z4 2).2 (m := e_x1) (by omega)
    have r1_x1 := drawZ_hi (drawZ z4 2).2 (m := e_x1) (by omega)
    generalize (drawZ (drawZ z4 2).2 e_x1).1 = g_x1 at r0_x1 r1_x1 ⊢
    generalize (drawZ (drawZ z4 2).2 e_x1).2 = z5
    have b_x1 : -1000 ≤ x0 + 1 + g_x1 ∧ x0 + 1 + g_x1 ≤ 3001 := by omega
    generalize x0 + 1 + g_x1 = x1 at b_x1 ⊢
    refine xss_env (ρ' := envW (.dat (.int (j : Int))) (.dat (.int m)) (.dat (.tup [t3 a, t3 b, t3 c])) (.dat (.int x0)) (.dat (.int z0)) (.dat (.int x1)) s8 s9 s10 s11 s12) rfl ?_
    have l0_z1 := drawZ_lo z5 (m := 2) (by decide)
    have l1_z1 := drawZ_hi z5 (m := 2) (by decide)
    have md_z1 : 1 ≤ (if (drawZ z5 2).1 = 0 then 4 else m) ∧ (if (drawZ z5 2).1 = 0 then 4 else m) ≤ 1000 := by split <;> omega
    refine xss_cons (xs_set 8 C rfl rfl (x_add (x_add (x_var 6 C.toCxt rfl rfl rfl) x_int) (x_draw F_law_draw C.toCxt rfl (a_cons (x_hdl 1 C.toCxt rfl rfl rfl) (a_cons (x_ix (x_lst (a_cons x_int (a_cons (x_var 3 C.toCxt rfl rfl rfl) a_nil)) (small (Nat.le_of_ble_eq_true rfl))) (x_draw F_law_draw C.toCxt rfl (a_cons (x_hdl 1 C.toCxt rfl rfl rfl) (a_cons x_int a_nil)) (by decide) (by decide) (by decide)) rfl (at_two4 l0_z1 l1_z1)) a_nil)) (by omega) (by omega) (by decide))) ?_)
    show XSs _ _ _ _ _ _
    generalize (if (drawZ z5 2).1 = 0 then 4 else m) = e_z1 at md_z1 ⊢
    have r0_z1 := drawZ_lo (drawZ z5 2).2 (m := e_z1) (by omega)
    have r1_z1 := drawZ_hi (drawZ z5 2).2 (m := e_z1) (by omega)
    generalize (drawZ (drawZ z5 2).2 e_z1).1 = g_z1 at r0_z1 r1_z1 ⊢
    generalize (drawZ (drawZ z5 2).2 e_z1).2 = z6
    have b_z1 : -1000 ≤ z0 + 1 + g_z1 ∧ z0 + 1 + g_z1 ≤ 3001 := by omega
    generalize z0 + 1 + g_z1 = z1 at b_z1 ⊢
    refine xss_env (ρ' := envW (.dat (.int (j : Int))) (.dat (.int m)) (.dat (.tup [t3 a, t3 b, t3 c])) (.dat (.int x0)) (.dat (.int z0)) (.dat (.int x1)) (.dat (.int z1)) s9 s10 s11 s12) rfl ?_
    have n0 : NB 12 x0 := NB.of (by omega) (by omega)
    have n1 : NB 12 z0 := NB.of (by omega) (by omega)
    have n2 : NB 12 x1 := NB.of (by omega) (by omega)
    have n3 : NB 12 z1 := NB.of (by omega) (by omega)
    refine xss_cons (xs_set 9 C rfl rfl (x_call F_law_extent C.toCxt rfl (a_cons (x_var 4 C.toCxt rfl rfl rfl) (a_cons (x_var 5 C.toCxt rfl rfl rfl) (a_cons (x_var 6 C.toCxt rfl rfl rfl) (a_cons (x_var 7 C.toCxt rfl rfl rfl) (a_cons (x_var 8 C.toCxt rfl rfl rfl) a_nil))))) ⟨a, b, c, x0, z0, x1, z1, ha, hb, hc, n0, n1, n2, n3, rfl, rfl⟩ rfl (by decide)) ?_)
    show XSs _ _ _ _ _ _
    refine xss_env (ρ' := envW (.dat (.int (j : Int))) (.dat (.int m)) (.dat (.tup [t3 a, t3 b, t3 c])) (.dat (.int x0)) (.dat (.int z0)) (.dat (.int x1)) (.dat (.int z1)) (.dat (extL (overF a b c x0 z0 x1 z1))) s10 s11 s12) rfl ?_
    refine xss_cons (xs_set 10 C rfl rfl (x_call F_extent C.toCxt rfl (a_cons (x_var 4 C.toCxt rfl rfl rfl) (a_cons (x_var 5 C.toCxt rfl rfl rfl) (a_cons (x_var 6 C.toCxt rfl rfl rfl) (a_cons (x_var 7 C.toCxt rfl rfl rfl) (a_cons (x_var 8 C.toCxt rfl rfl rfl) a_nil))))) ⟨a, b, c, x0, z0, x1, z1, ha, hb, hc, n0, n1, n2, n3, rfl, rfl⟩ rfl (by decide)) ?_)
    show XSs _ _ _ _ _ _
    refine xss_env (ρ' := envW (.dat (.int (j : Int))) (.dat (.int m)) (.dat (.tup [t3 a, t3 b, t3 c])) (.dat (.int x0)) (.dat (.int z0)) (.dat (.int x1)) (.dat (.int z1)) (.dat (extL (overF a b c x0 z0 x1 z1))) (.dat (extD (overF a b c x0 z0 x1 z1))) s11 s12) rfl ?_
    have gb : GB 1000 (overF a b c x0 z0 x1 z1) := fun p hp => (over_b ha hb hc n0 n1 n2 n3 4 p hp).up (nm_le (Nat.le_refl _))
    have gw : WP (overF a b c x0 z0 x1 z1) := over_w 4
    generalize overF a b c x0 z0 x1 z1 = ps at gb gw ⊢
    refine xss_cut (fun ρ y => ρ = envW (.dat (.int (j : Int))) (.dat (.int m)) (.dat (.tup [t3 a, t3 b, t3 c])) (.dat (.int x0)) (.dat (.int z0)) (.dat (.int x1)) (.dat (.int z1)) (.dat (extL ps)) (.dat (extD ps)) s11 s12) ?_ (fun ρ' y' hM => ?_)
    · by_cases he : ps.isEmpty = true
      · have e1 : extL ps = .non := by unfold extL; rw [if_pos he]
        have e2 : extD ps = .non := by unfold extD; rw [if_pos he]
        rw [e1, e2]
        refine xs_if (t_w (w_or (t_isN (x_var 9 C.toCxt rfl rfl rfl) rfl) (fun _ => (w_or1 (t_isN (x_var 10 C.toCxt rfl rfl rfl) rfl))))) (fun _ => ?_) (fun ht => absurd ht (by decide))
        exact xss_cons (xs_if (t_w (w_or (t_notN (x_var 9 C.toCxt rfl rfl rfl) rfl) (fun _ => (w_or1 (t_notN (x_var 10 C.toCxt rfl rfl rfl) rfl))))) (fun ht => absurd ht (by decide)) (fun _ => xss_nil (xss_nil rfl)))
      · have e1 : extL ps = .lst [p2 (hw (lowF ps ps.length)), p2 (hw (highF ps ps.length))] := by unfold extL; rw [if_neg he]
        have e2 : extD ps = .tup [p2 (hw (lowF ps ps.length)), p2 (hw (highF ps ps.length))] := by unfold extD; rw [if_neg he]
        have hp : 0 < ps.length := by
          cases ps with
          | nil => exact absurd rfl he
          | cons p r => simp
        obtain ⟨m1, m2⟩ := lowF_mem hp (Nat.le_refl _)
        have w1 := gw _ m1
        have w2 := gw _ m2
        obtain ⟨_, l1, _, l2⟩ := gb _ m1
        obtain ⟨_, l3, _, l4⟩ := gb _ m2
        have k1 : NB 5000 (hw (lowF ps ps.length)).1 ∧ NB 5000 (hw (lowF ps ps.length)).2 ∧ 0 < (hw (lowF ps ps.length)).2 := ⟨l1.up (by decide), l2.up (by decide), w1⟩
        have k2 : NB 5000 (hw (highF ps ps.length)).1 ∧ NB 5000 (hw (highF ps ps.length)).2 ∧ 0 < (hw (highF ps ps.length)).2 := ⟨l3.up (by decide), l4.up (by decide), w2⟩
        rw [e1, e2]
        generalize hw (lowF ps ps.length) = lo at k1 ⊢
        generalize hw (highF ps ps.length) = hi at k2 ⊢
        obtain ⟨k3, k4, k5⟩ := k1
        obtain ⟨k6, k7, k8⟩ := k2
        refine xs_if (t_w (w_or (t_isN (x_var 9 C.toCxt rfl rfl rfl) rfl) (fun _ => (w_or1 (t_isN (x_var 10 C.toCxt rfl rfl rfl) rfl))))) (fun ht => absurd ht (by simp [isNon])) (fun _ => ?_)
        refine xss_cons (xs_if (t_w (w_or (t_not (t_val (x_isi (t := true) C.toCxt rfl m_isinstance (x_var 10 C.toCxt rfl rfl rfl) (x_ty (n := "tuple") C.toCxt rfl m_tuple (by decide +kernel)) rfl (by decide +kernel)))) (fun _ => (w_or (t_neI (x_len C.toCxt rfl m_len (x_var 10 C.toCxt rfl rfl rfl) rfl) x_int) (fun _ => (w_or1 (t_not (t_val (x_call F_law_same C.toCxt rfl (a_cons (x_ixk 0 (x_var 10 C.toCxt rfl rfl rfl) rfl rfl) (a_cons (x_ixk 0 (x_var 9 C.toCxt rfl rfl rfl) rfl rfl) a_nil)) ⟨lo, lo, k3, k4, k3, k4, rfl, rfl⟩ rfl (by decide)))))))))) (fun ht => absurd ht (by simp [k5])) (fun _ => ?_))
        refine xss_cons (xs_if (t_not (t_val (x_call F_law_same C.toCxt rfl (a_cons (x_ixk 1 (x_var 10 C.toCxt rfl rfl rfl) rfl rfl) (a_cons (x_ixk 1 (x_var 9 C.toCxt rfl rfl rfl) rfl rfl) a_nil)) ⟨hi, hi, k6, k7, k6, k7, rfl, rfl⟩ rfl (by decide)))) (fun ht => absurd ht (by simp [k8])) (fun _ => ?_))
        exact xss_nil (xss_nil (xss_nil rfl))
    subst hM
    refine xss_cons (xs_set 11 C rfl rfl (x_tup (a_cons (x_sub (x_draw F_law_draw C.toCxt rfl (a_cons (x_hdl 1 C.toCxt rfl rfl rfl) (a_cons x_int a_nil)) (by decide) (by decide) (by decide)) x_int) (a_cons (x_add x_int (x_draw F_law_draw C.toCxt rfl (a_cons (x_hdl 1 C.toCxt rfl rfl rfl) (a_cons x_int a_nil)) (by decide) (by decide) (by decide))) a_nil)) (small (Nat.le_of_ble_eq_true rfl))) ?_)
    have o1 := drawZ_lo y' (m := 200) (by decide)
    have o2 := drawZ_hi y' (m := 200) (by decide)
    have o3 := drawZ_lo (drawZ y' 200).2 (m := 50) (by decide)
    have o4 := drawZ_hi (drawZ y' 200).2 (m := 50) (by decide)
    show XSs _ _ _ _ _ _
    generalize (drawZ (drawZ y' 200).2 50).2 = y2
    generalize (drawZ (drawZ y' 200).2 50).1 = f2 at o3 o4 ⊢
    generalize (drawZ y' 200).1 = f1 at o1 o2 ⊢
    have p1 : NB 10 (f1 - 100) := NB.of (by omega) (by omega)
    have pp2 : NB 10 (1 + f2) := NB.of (by omega) (by omega)
    generalize f1 - 100 = a1 at p1 ⊢
    generalize 1 + f2 = a2 at pp2 ⊢
    refine xss_env (ρ' := envW (.dat (.int (j : Int))) (.dat (.int m)) (.dat (.tup [t3 a, t3 b, t3 c])) (.dat (.int x0)) (.dat (.int z0)) (.dat (.int x1)) (.dat (.int z1)) (.dat (extL ps)) (.dat (extD ps)) (.dat (p2 (a1, a2))) s12) rfl ?_
    refine xss_cons (xs_set 12 C rfl rfl (x_tup (a_cons (x_sub (x_draw F_law_draw C.toCxt rfl (a_cons (x_hdl 1 C.toCxt rfl rfl rfl) (a_cons x_int a_nil)) (by decide) (by decide) (by decide)) x_int) (a_cons (x_add x_int (x_draw F_law_draw C.toCxt rfl (a_cons (x_hdl 1 C.toCxt rfl rfl rfl) (a_cons x_int a_nil)) (by decide) (by decide) (by decide))) a_nil)) (small (Nat.le_of_ble_eq_true rfl))) ?_)
    have o1 := drawZ_lo y2 (m := 200) (by decide)
    have o2 := drawZ_hi y2 (m := 200) (by decide)
    have o3 := drawZ_lo (drawZ y2 200).2 (m := 50) (by decide)
    have o4 := drawZ_hi (drawZ y2 200).2 (m := 50) (by decide)
    show XSs _ _ _ _ _ _
    generalize (drawZ (drawZ y2 200).2 50).2 = y3
    generalize (drawZ (drawZ y2 200).2 50).1 = f4 at o3 o4 ⊢
    generalize (drawZ y2 200).1 = f3 at o1 o2 ⊢
    have q1 : NB 20 (f3 - 100) := NB.of (by omega) (by omega)
    have q2 : NB 20 (1 + f4) := NB.of (by omega) (by omega)
    generalize f3 - 100 = b1 at q1 ⊢
    generalize 1 + f4 = b2 at q2 ⊢
    refine xss_env (ρ' := envW (.dat (.int (j : Int))) (.dat (.int m)) (.dat (.tup [t3 a, t3 b, t3 c])) (.dat (.int x0)) (.dat (.int z0)) (.dat (.int x1)) (.dat (.int z1)) (.dat (extL ps)) (.dat (extD ps)) (.dat (p2 (a1, a2))) (.dat (p2 (b1, b2)))) rfl ?_
    have n3 : NB 3 3 := NB.of (by decide) (by decide)
    refine xss_cut (fun ρ y => ∃ c1 c2, NB 20 c1 ∧ NB 20 c2 ∧ ρ = envW (.dat (.int (j : Int))) (.dat (.int m)) (.dat (.tup [t3 a, t3 b, t3 c])) (.dat (.int x0)) (.dat (.int z0)) (.dat (.int x1)) (.dat (.int z1)) (.dat (extL ps)) (.dat (extD ps)) (.dat (p2 (a1, a2))) (.dat (p2 (c1, c2)))) (xs_if (t_eqI (x_draw F_law_draw C.toCxt rfl (a_cons (x_hdl 1 C.toCxt rfl rfl rfl) (a_cons x_int a_nil)) (by decide) (by decide) (by decide)) x_int) (fun _ => ?_) (fun _ => xss_nil ⟨b1, b2, q1, q2, rfl⟩)) (fun ρ' y4 hM => ?_)
    · exact xss_cons (xs_set 12 C rfl rfl (x_tup (a_cons (x_mul x_int (x_ixk 0 (x_var 11 C.toCxt rfl rfl rfl) rfl rfl) (by walk_at "nb")) (a_cons (x_mul x_int (x_ixk 1 (x_var 11 C.toCxt rfl rfl rfl) rfl rfl) (by walk_at "nb")) a_nil)) (small (Nat.le_of_ble_eq_true rfl))) (xss_nil ⟨3 * a1, 3 * a2, (n3.mul p1).up (by decide), (n3.mul pp2).up (by decide), rfl⟩))
    obtain ⟨c1, c2, q3, q4, rfl⟩ := hM
    refine xss_cons (xs_set 10 C rfl rfl (x_call F_less C.toCxt rfl (a_cons (x_var 11 C.toCxt rfl rfl rfl) (a_cons (x_var 12 C.toCxt rfl rfl rfl) a_nil)) ⟨_, _, (a1, a2), (c1, c2), rfl, rfl, p1.up (by decide), pp2.up (by decide), q3.up (by decide), q4.up (by decide), rfl, rfl⟩ rfl (by decide)) ?_)
    show XSs _ _ _ _ _ _
    refine xss_env (ρ' := envW (.dat (.int (j : Int))) (.dat (.int m)) (.dat (.tup [t3 a, t3 b, t3 c])) (.dat (.int x0)) (.dat (.int z0)) (.dat (.int x1)) (.dat (.int z1)) (.dat (extL ps)) (.dat (.bl (decide (a1 * c2 < c1 * a2)))) (.dat (p2 (a1, a2))) (.dat (p2 (c1, c2)))) rfl ?_
    refine xss_cons (xs_if (t_w (w_or (t_not (t_val (x_isi (t := true) C.toCxt rfl m_isinstance (x_var 10 C.toCxt rfl rfl rfl) (x_ty (n := "bool") C.toCxt rfl m_bool (by decide +kernel)) rfl (by decide +kernel)))) (fun _ => w_or1 (t_neB (x_var 10 C.toCxt rfl rfl rfl) (x_lt (x_sub (x_mul (x_ixk 0 (x_var 11 C.toCxt rfl rfl rfl) rfl rfl) (x_ixk 1 (x_var 12 C.toCxt rfl rfl rfl) rfl rfl) (by walk_at "nb")) (x_mul (x_ixk 0 (x_var 12 C.toCxt rfl rfl rfl) rfl rfl) (x_ixk 1 (x_var 11 C.toCxt rfl rfl rfl) rfl rfl) (by walk_at "nb"))) x_int))))) (fun ht => absurd ht ?_) (fun _ => ?_))
    · have e : decide (a1 * c2 - c1 * a2 < 0) = decide (a1 * c2 < c1 * a2) := decide_eq_decide.mpr (by omega)
      rw [e, beq_self_eq_true]
      decide
    · exact xss_nil (xss_nil ⟨_, _, _, _, _, _, _, _, _, _, _, rfl⟩)
  · exact xss_cons (xs_ret x_bl rfl)

end
end L06

namespace L06
open PySem PySem.Spec PyProof.Rows L2 DL
theorem all_mk {l : PySem.W.OpenLaw} {w : World} {K : PySem.W.Frag} {h : Heap} {mg : Str → Option Value} {fa f0 f1 f2 f3 f4 f5 f6 f7 f8 f9 f10 f11 f12 f13 f14 : Addr} (X : K.In h) (G : h.Ns mainGlobals mg) (hfa : mg "law" = some (.ref fa))
    {od0 an0 od1 an1 od2 an2 od3 an3 od4 an4 od5 an5 od6 an6 od7 an7 od8 an8 od9 an9 od10 an10 od11 an11 od12 an12 od13 an13 od14 an14 : Option Addr} {sl0 sl1 sl2 sl3 sl4 sl5 sl6 sl7 sl8 sl9 sl10 sl11 sl12 sl13 sl14 : Array (Option Value)} {oc0 kV0 dc0 pm0 cd0 ct0 oc1 kV1 dc1 pm1 cd1 ct1 oc2 kV2 dc2 pm2 cd2 ct2 oc3 kV3 dc3 pm3 cd3 ct3 oc4 kV4 dc4 pm4 cd4 ct4 oc5 kV5 dc5 pm5 cd5 ct5 oc6 kV6 dc6 pm6 cd6 ct6 oc7 kV7 dc7 pm7 cd7 ct7 oc8 kV8 dc8 pm8 cd8 ct8 oc9 kV9 dc9 pm9 cd9 ct9 oc10 kV10 dc10 pm10 cd10 ct10 oc11 kV11 dc11 pm11 cd11 ct11 oc12 kV12 dc12 pm12 cd12 ct12 oc13 kV13 dc13 pm13 cd13 ct13 oc14 kV14 dc14 pm14 cd14 ct14 : Value}
    (a0 : PySem.W.nsIn K mainGlobals "less" = some (some (.ref f0))) (l0 : K.lookup f0 = some ⟨oc0, od0, .func (PySem.W.fnOf "less" "less" (defArgs sLess) (defBody sLess) (defScope sLess) .none kV0 dc0 pm0 an0 cd0 ct0), sl0⟩) (c0 : PySem.W.codeIn K cd0 "less" = true) (k0 : PySem.W.keepIn K (.ref f0) = true)
    (a1 : PySem.W.nsIn K mainGlobals "extent" = some (some (.ref f1))) (l1 : K.lookup f1 = some ⟨oc1, od1, .func (PySem.W.fnOf "extent" "extent" (defArgs sExtent) (defBody sExtent) (defScope sExtent) .none kV1 dc1 pm1 an1 cd1 ct1), sl1⟩) (c1 : PySem.W.codeIn K cd1 "extent" = true) (k1 : PySem.W.keepIn K (.ref f1) = true)
    (a2 : PySem.W.nsIn K mainGlobals "clipped" = some (some (.ref f2))) (l2 : K.lookup f2 = some ⟨oc2, od2, .func (PySem.W.fnOf "clipped" "clipped" (defArgs sClip) (defBody sClip) (defScope sClip) .none kV2 dc2 pm2 an2 cd2 ct2), sl2⟩) (c2 : PySem.W.codeIn K cd2 "clipped" = true) (k2 : PySem.W.keepIn K (.ref f2) = true)
    (a3 : PySem.W.nsIn K mainGlobals "crossing" = some (some (.ref f3))) (l3 : K.lookup f3 = some ⟨oc3, od3, .func (PySem.W.fnOf "crossing" "crossing" (defArgs sCross) (defBody sCross) (defScope sCross) .none kV3 dc3 pm3 an3 cd3 ct3), sl3⟩) (c3 : PySem.W.codeIn K cd3 "crossing" = true) (k3 : PySem.W.keepIn K (.ref f3) = true)
    (a4 : PySem.W.nsIn K mainGlobals "_law_state" = some (some (.ref f4))) (l4 : K.lookup f4 = some ⟨oc4, od4, .func (PySem.W.fnOf "_law_state" "_law_state" (defArgs sState) (defBody sState) (defScope sState) .none kV4 dc4 pm4 an4 cd4 ct4), sl4⟩) (c4 : PySem.W.codeIn K cd4 "_law_state" = true) (k4 : PySem.W.keepIn K (.ref f4) = true)
    (a5 : PySem.W.nsIn K mainGlobals "_law_draw" = some (some (.ref f5))) (l5 : K.lookup f5 = some ⟨oc5, od5, .func (PySem.W.fnOf "_law_draw" "_law_draw" (defArgs sDraw) (defBody sDraw) (defScope sDraw) .none kV5 dc5 pm5 an5 cd5 ct5), sl5⟩) (c5 : PySem.W.codeIn K cd5 "_law_draw" = true) (k5 : PySem.W.keepIn K (.ref f5) = true)
    (a6 : PySem.W.nsIn K mainGlobals "_law_beyond" = some (some (.ref f6))) (l6 : K.lookup f6 = some ⟨oc6, od6, .func (PySem.W.fnOf "_law_beyond" "_law_beyond" (defArgs sBeyond) (defBody sBeyond) (defScope sBeyond) .none kV6 dc6 pm6 an6 cd6 ct6), sl6⟩) (c6 : PySem.W.codeIn K cd6 "_law_beyond" = true) (k6 : PySem.W.keepIn K (.ref f6) = true)
    (a7 : PySem.W.nsIn K mainGlobals "_law_cut" = some (some (.ref f7))) (l7 : K.lookup f7 = some ⟨oc7, od7, .func (PySem.W.fnOf "_law_cut" "_law_cut" (defArgs sLCut) (defBody sLCut) (defScope sLCut) .none kV7 dc7 pm7 an7 cd7 ct7), sl7⟩) (c7 : PySem.W.codeIn K cd7 "_law_cut" = true) (k7 : PySem.W.keepIn K (.ref f7) = true)
    (a8 : PySem.W.nsIn K mainGlobals "_law_clip" = some (some (.ref f8))) (l8 : K.lookup f8 = some ⟨oc8, od8, .func (PySem.W.fnOf "_law_clip" "_law_clip" (defArgs sLClip) (defBody sLClip) (defScope sLClip) .none kV8 dc8 pm8 an8 cd8 ct8), sl8⟩) (c8 : PySem.W.codeIn K cd8 "_law_clip" = true) (k8 : PySem.W.keepIn K (.ref f8) = true)
    (a9 : PySem.W.nsIn K mainGlobals "_law_over" = some (some (.ref f9))) (l9 : K.lookup f9 = some ⟨oc9, od9, .func (PySem.W.fnOf "_law_over" "_law_over" (defArgs sLOver) (defBody sLOver) (defScope sLOver) .none kV9 dc9 pm9 an9 cd9 ct9), sl9⟩) (c9 : PySem.W.codeIn K cd9 "_law_over" = true) (k9 : PySem.W.keepIn K (.ref f9) = true)
    (a10 : PySem.W.nsIn K mainGlobals "_law_extent" = some (some (.ref f10))) (l10 : K.lookup f10 = some ⟨oc10, od10, .func (PySem.W.fnOf "_law_extent" "_law_extent" (defArgs sLExtent) (defBody sLExtent) (defScope sLExtent) .none kV10 dc10 pm10 an10 cd10 ct10), sl10⟩) (c10 : PySem.W.codeIn K cd10 "_law_extent" = true) (k10 : PySem.W.keepIn K (.ref f10) = true)
    (a11 : PySem.W.nsIn K mainGlobals "_law_number" = some (some (.ref f11))) (l11 : K.lookup f11 = some ⟨oc11, od11, .func (PySem.W.fnOf "_law_number" "_law_number" (defArgs sNumber) (defBody sNumber) (defScope sNumber) .none kV11 dc11 pm11 an11 cd11 ct11), sl11⟩) (c11 : PySem.W.codeIn K cd11 "_law_number" = true) (k11 : PySem.W.keepIn K (.ref f11) = true)
    (a12 : PySem.W.nsIn K mainGlobals "_law_triangle" = some (some (.ref f12))) (l12 : K.lookup f12 = some ⟨oc12, od12, .func (PySem.W.fnOf "_law_triangle" "_law_triangle" (defArgs sTriangle) (defBody sTriangle) (defScope sTriangle) .none kV12 dc12 pm12 an12 cd12 ct12), sl12⟩) (c12 : PySem.W.codeIn K cd12 "_law_triangle" = true) (k12 : PySem.W.keepIn K (.ref f12) = true)
    (a13 : PySem.W.nsIn K mainGlobals "_law_same" = some (some (.ref f13))) (l13 : K.lookup f13 = some ⟨oc13, od13, .func (PySem.W.fnOf "_law_same" "_law_same" (defArgs sSame) (defBody sSame) (defScope sSame) .none kV13 dc13 pm13 an13 cd13 ct13), sl13⟩) (c13 : PySem.W.codeIn K cd13 "_law_same" = true) (k13 : PySem.W.keepIn K (.ref f13) = true)
    (a14 : PySem.W.nsIn K mainGlobals "law" = some (some (.ref f14))) (l14 : K.lookup f14 = some ⟨oc14, od14, .func (PySem.W.fnOf "law" "law" (defArgs sLaw) (defBody sLaw) (defScope sLaw) .none kV14 dc14 pm14 an14 cd14 ct14), sl14⟩) (c14 : PySem.W.codeIn K cd14 "law" = true) (k14 : PySem.W.keepIn K (.ref f14) = true)
    (z_int : PySem.W.nsIn K mainGlobals "int" = some none)
    (z_abs : PySem.W.nsIn K mainGlobals "abs" = some none)
    (z_len : PySem.W.nsIn K mainGlobals "len" = some none)
    (z_range : PySem.W.nsIn K mainGlobals "range" = some none)
    (z_tuple : PySem.W.nsIn K mainGlobals "tuple" = some none)
    (z_isinstance : PySem.W.nsIn K mainGlobals "isinstance" = some none)
    (z_bool : PySem.W.nsIn K mainGlobals "bool" = some none)
    (z_zip : PySem.W.nsIn K mainGlobals "zip" = some none)
    (z_enumerate : PySem.W.nsIn K mainGlobals "enumerate" = some none)
    : ∃ fd : FuncData, (∀ (s : Shared) (v : Value), BindsTo s fd ⟨[v], []⟩ [("script", v)]) ∧ ∀ base : Heap, K.In base → base.Ns mainGlobals mg → FnOk l.prog w K mg base CX0 6 fa fd ["script"] (DL.spLaw K) := by
  have e := hfa.symm.trans (PySem.W.mg_of X G a14)
  cases e
  have F0 := fun_mk (st := sLess) l0 c0 k0
  have b0 := F0.binds (ps := ["one", "other"]) fun _ _ _ _ _ _ us hl => match us, hl with | [_, _], _ => rfl
  have g0 := PySem.W.mg_of X G a0
  have F1 := fun_mk (st := sExtent) l1 c1 k1
  have b1 := F1.binds (ps := ["triangle", "x0", "z0", "x1", "z1"]) fun _ _ _ _ _ _ us hl => match us, hl with | [_, _, _, _, _], _ => rfl
  have g1 := PySem.W.mg_of X G a1
  have F2 := fun_mk (st := sClip) l2 c2 k2
  have b2 := F2.binds (ps := ["corners", "axis", "sign", "bound"]) fun _ _ _ _ _ _ us hl => match us, hl with | [_, _, _, _], _ => rfl
  have g2 := PySem.W.mg_of X G a2
  have F3 := fun_mk (st := sCross) l3 c3 k3
  have b3 := F3.binds (ps := ["one", "depth", "other", "other_depth"]) fun _ _ _ _ _ _ us hl => match us, hl with | [_, _, _, _], _ => rfl
  have g3 := PySem.W.mg_of X G a3
  have F4 := fun_mk (st := sState) l4 c4 k4
  have b4 := F4.binds (ps := ["script"]) fun _ _ _ _ _ _ us hl => match us, hl with | [_], _ => rfl
  have g4 := PySem.W.mg_of X G a4
  have F5 := fun_mk (st := sDraw) l5 c5 k5
  have b5 := F5.binds (ps := ["state", "many"]) fun _ _ _ _ _ _ us hl => match us, hl with | [_, _], _ => rfl
  have g5 := PySem.W.mg_of X G a5
  have F6 := fun_mk (st := sBeyond) l6 c6 k6
  have b6 := F6.binds (ps := ["point", "axis", "sign", "at"]) fun _ _ _ _ _ _ us hl => match us, hl with | [_, _, _, _], _ => rfl
  have g6 := PySem.W.mg_of X G a6
  have F7 := fun_mk (st := sLCut) l7 c7 k7
  have b7 := F7.binds (ps := ["one", "other", "axis", "sign", "at"]) fun _ _ _ _ _ _ us hl => match us, hl with | [_, _, _, _, _], _ => rfl
  have g7 := PySem.W.mg_of X G a7
  have F8 := fun_mk (st := sLClip) l8 c8 k8
  have b8 := F8.binds (ps := ["shape", "axis", "sign", "at"]) fun _ _ _ _ _ _ us hl => match us, hl with | [_, _, _, _], _ => rfl
  have g8 := PySem.W.mg_of X G a8
  have F9 := fun_mk (st := sLOver) l9 c9 k9
  have b9 := F9.binds (ps := ["triangle", "x0", "z0", "x1", "z1"]) fun _ _ _ _ _ _ us hl => match us, hl with | [_, _, _, _, _], _ => rfl
  have g9 := PySem.W.mg_of X G a9
  have F10 := fun_mk (st := sLExtent) l10 c10 k10
  have b10 := F10.binds (ps := ["triangle", "x0", "z0", "x1", "z1"]) fun _ _ _ _ _ _ us hl => match us, hl with | [_, _, _, _, _], _ => rfl
  have g10 := PySem.W.mg_of X G a10
  have F11 := fun_mk (st := sNumber) l11 c11 k11
  have b11 := F11.binds (ps := ["state", "most"]) fun _ _ _ _ _ _ us hl => match us, hl with | [_, _], _ => rfl
  have g11 := PySem.W.mg_of X G a11
  have F12 := fun_mk (st := sTriangle) l12 c12 k12
  have b12 := F12.binds (ps := ["state", "most"]) fun _ _ _ _ _ _ us hl => match us, hl with | [_, _], _ => rfl
  have g12 := PySem.W.mg_of X G a12
  have F13 := fun_mk (st := sSame) l13 c13 k13
  have b13 := F13.binds (ps := ["one", "other"]) fun _ _ _ _ _ _ us hl => match us, hl with | [_, _], _ => rfl
  have g13 := PySem.W.mg_of X G a13
  have F14 := fun_mk (st := sLaw) l14 c14 k14
  have m_int := PySem.W.mg_none_of X G z_int
  have m_abs := PySem.W.mg_none_of X G z_abs
  have m_len := PySem.W.mg_none_of X G z_len
  have m_range := PySem.W.mg_none_of X G z_range
  have m_tuple := PySem.W.mg_none_of X G z_tuple
  have m_isinstance := PySem.W.mg_none_of X G z_isinstance
  have m_bool := PySem.W.mg_none_of X G z_bool
  have m_zip := PySem.W.mg_none_of X G z_zip
  have m_enumerate := PySem.W.mg_none_of X G z_enumerate
  refine ⟨PySem.W.fnOf "law" "law" (defArgs sLaw) (defBody sLaw) (defScope sLaw) .none kV14 dc14 pm14 an14 cd14 ct14, fun s v => .of_eq rfl, fun base _ _ => ?_⟩
  have Fl : Fnc l.prog w K mg base "less" 1 _ := fnc (ok_less F0) g0 F0 b0
  have Fx : Fnc l.prog w K mg base "crossing" 1 _ := fnc (ok_cross F3 m_abs m_tuple m_zip) g3 F3 b3
  have Fc : Fnc l.prog w K mg base "clipped" 2 _ := fnc (ok_clip F2 Fx m_enumerate) g2 F2 b2
  have Fe : Fnc l.prog w K mg base "extent" 3 _ := fnc (ok_extent F1 Fc Fl) g1 F1 b1
  have Fs : Fnc l.prog w K mg base "_law_state" 1 _ := fnc (ok_state F4 m_int m_abs) g4 F4 b4
  have Fd : Fnc l.prog w K mg base "_law_draw" 1 _ := fnc (ok_draw F5 m_int m_len) g5 F5 b5
  have Fb : Fnc l.prog w K mg base "_law_beyond" 1 _ := fnc (ok_beyond F6) g6 F6 b6
  have Fk : Fnc l.prog w K mg base "_law_cut" 2 _ := fnc (ok_lcut F7 Fb m_abs m_tuple m_range) g7 F7 b7
  have Fp : Fnc l.prog w K mg base "_law_clip" 3 _ := fnc (ok_lclip F8 Fb Fk m_range m_len) g8 F8 b8
  have Fo : Fnc l.prog w K mg base "_law_over" 4 _ := fnc (ok_over F9 Fp) g9 F9 b9
  have Ft : Fnc l.prog w K mg base "_law_extent" 5 _ := fnc (ok_lextent F10 Fo m_len) g10 F10 b10
  have Fn : Fnc l.prog w K mg base "_law_number" 2 _ := fnc (ok_number F11 Fd) g11 F11 b11
  have Fr : Fnc l.prog w K mg base "_law_triangle" 3 _ := fnc (ok_triangle F12 Fd Fn m_range m_tuple) g12 F12 b12
  have Fm : Fnc l.prog w K mg base "_law_same" 1 _ := fnc (ok_same F13) g13 F13 b13
  exact ok_law F14 Fs Fd Fn Fr Ft Fe Fm Fl m_range m_tuple m_isinstance m_len m_bool
end L06
open PySem PySem.W PyProof.Rows
set_option maxHeartbeats 0 in
theorem PySem.Challenge.cw_footpath_k06_extents_holds : PySem.Challenge.rw_footpath_k06_extents.Holds := by
  w_on; o_law; k_head; (case hw => w_witness2)
  k_fill
  refine L2.walk_of (l := PySem.Challenge.rw_footpath_k06_extents) (n := 63) (k := 6) (x := "script") (CX := fun _ => L2.CX0) (sp := fun w => DL.spLaw _) rfl (by decide) rfl ⟨rfl, by decide, by decide⟩ (fun w h Y => PySem.W.kIn_of Y) ?F (fun _ _ a ns hl _ hS => ⟨a, ns, rfl, hS, hl, fun _ => rfl⟩) (fun _ _ _ _ _ h => h)
  case F =>
    intro w mg fa h KX G hmg
    refine' L06.all_mk KX G hmg ?a0 ?l0 ?c0 ?k0 ?a1 ?l1 ?c1 ?k1 ?a2 ?l2 ?c2 ?k2 ?a3 ?l3 ?c3 ?k3 ?a4 ?l4 ?c4 ?k4 ?a5 ?l5 ?c5 ?k5 ?a6 ?l6 ?c6 ?k6 ?a7 ?l7 ?c7 ?k7 ?a8 ?l8 ?c8 ?k8 ?a9 ?l9 ?c9 ?k9 ?a10 ?l10 ?c10 ?k10 ?a11 ?l11 ?c11 ?k11 ?a12 ?l12 ?c12 ?k12 ?a13 ?l13 ?c13 ?k13 ?a14 ?l14 ?c14 ?k14 ?z_int ?z_abs ?z_len ?z_range ?z_tuple ?z_isinstance ?z_bool ?z_zip ?z_enumerate
    (case a0 => k_is); (case l0 => k_is); (case c0 => k_is); (case k0 => k_is); (case a1 => k_is); (case l1 => k_is); (case c1 => k_is); (case k1 => k_is); (case a2 => k_is); (case l2 => k_is); (case c2 => k_is); (case k2 => k_is); (case a3 => k_is); (case l3 => k_is); (case c3 => k_is); (case k3 => k_is); (case a4 => k_is); (case l4 => k_is); (case c4 => k_is); (case k4 => k_is); (case a5 => k_is); (case l5 => k_is); (case c5 => k_is); (case k5 => k_is); (case a6 => k_is); (case l6 => k_is); (case c6 => k_is); (case k6 => k_is); (case a7 => k_is); (case l7 => k_is); (case c7 => k_is); (case k7 => k_is); (case a8 => k_is); (case l8 => k_is); (case c8 => k_is); (case k8 => k_is); (case a9 => k_is); (case l9 => k_is); (case c9 => k_is); (case k9 => k_is); (case a10 => k_is); (case l10 => k_is); (case c10 => k_is); (case k10 => k_is); (case a11 => k_is); (case l11 => k_is); (case c11 => k_is); (case k11 => k_is); (case a12 => k_is); (case l12 => k_is); (case c12 => k_is); (case k12 => k_is); (case a13 => k_is); (case l13 => k_is); (case c13 => k_is); (case k13 => k_is); (case a14 => k_is); (case l14 => k_is); (case c14 => k_is); (case k14 => k_is); (case z_int => k_is); (case z_abs => k_is); (case z_len => k_is); (case z_range => k_is); (case z_tuple => k_is); (case z_isinstance => k_is); (case z_bool => k_is); (case z_zip => k_is); (case z_enumerate => k_is)

